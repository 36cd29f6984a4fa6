/- The map of free blocks (swap): blocks are given back. The map of free blocks (core): Give, whole. The map of free blocks (swap): Give, whole. The maps of free blocks: what is taken once, and given back. A region with one operation that has an effect; the kernel's small functions. Processes come into the core, go out of it, end. -/
import Derived.Test.YtmhplpfpcnjekaaGreatK18
namespace Go.Fxa
open Go.Conc
open Go.Proofs
open Go.RowKit
set_option maxRecDepth 1000000
section
variable (m:Nat) (w:World)
theorem endS_calls (f s:Nat) (hsm:f+s≤1000):CallsIn NF m Tryz.prog 237 #[.agg #[.int .i64 f,.int .i64 s]] w fun e w'=>e=.returned (.int .i64 (f+s:Nat))∧Keep No w w':=by
 gi_enter Tryz.func237,Tryz.ntmps237
 gi_wp2
 go_ret
 exact⟨ret_int (by omega),by repeat (first|exact Keep.refl _ _|refine Keep.drew ?_|refine Keep.alloc ?_ _)⟩
theorem clearS_two {w:World} {nb q:Nat} {x y f s:Value} {Z:Array Value} (hc:w.heap[nb]?=some (.cells (Four x y f s Z) 188 (0,0))):(Builtin.clear_ #[95] 0 #[.slice (some ⟨nb,2,none⟩) 1 q]).run Tryz.prog w=.ok (.tuple #[]) ((w.setCell ⟨nb,2,none⟩ (.int .i64 0)).setCell ⟨nb,3,none⟩ (.int .i64 0)):=by
 have c0:w.cell? ⟨nb,2,none⟩=some f:=by rw[aa0 hc];exact four_get.2.2.1
 have hc':=aa2 (i:=2) hc (.int .i64 0)
 rw[four_set.2.2.1]at hc'
 have c1:(w.setCell ⟨nb,2,none⟩ (.int .i64 0)).cell? ⟨nb,3,none⟩=some s:=by rw[aa0 hc'];exact four_get.2.2.2
 have e:(Builtin.clear_ #[95] 0 #[.slice (some ⟨nb,2,none⟩) 1 q]).run Tryz.prog w=(Sem.store .plain ⟨nb,2,none⟩ (.int .i64 0) (Sem.store .plain ⟨nb,3,none⟩ (.int .i64 0) (.pure (.tuple #[])))).run Tryz.prog w:=by kernel_rfl
 rw[e,ad2 rfl c0 (ab3 hc 2),ad2 rfl c1 (ab3 hc' 3)]
 rfl
theorem deleteS_two (nb q:Nat) (x y f s:Value) (Z:Array Value) (hc:w.heap[nb]?=some (.cells (Four x y f s Z) 188 (0,0))) (hq:2≤q):
  CallsIn NF m Tryz.prog 124 #[.slice (some ⟨nb,0,none⟩) 2 q,.int .i64 1,.int .i64 2] w fun e w'=>e=.returned (.slice (some ⟨nb,0,none⟩) 1 q)∧Keep (At nb) w w':=by
 rcases Nat.eq_or_lt_of_le hq with e|e
 ·subst e
  have hcl:=clearS_two (q:=1) (w:=w.drew) hc
  gi_enter Tryz.func124,Tryz.ntmps124
  gi_wp2
  gi_region
  all_goals gi_wp2
  all_goals go_ret
  all_goals exact⟨by simp,by repeat (first|exact Keep.refl _ _|refine Keep.drew ?_|refine Keep.setCell ?_ _ (fun _=>rfl))⟩
 ·have hcl:=clearS_two (q:=q-1) (w:=w.drew) hc
  have hq2:¬q=2:=by omega
  gi_enter Tryz.func124,Tryz.ntmps124
  gi_wp2
  gi_region
  all_goals gi_wp2
  all_goals go_ret
  all_goals exact⟨by simp,by repeat (first|exact Keep.refl _ _|refine Keep.drew ?_|refine Keep.setCell ?_ _ (fun _=>rfl))⟩
set_option maxHeartbeats 4000000 in
theorem joinS_two (kb nb q x y:Nat) (ks Z:Array Value) (T:TypeId) (hk:w.heap[kb]?=some (.cells ks T (0,0))) (hs:ks[1]?=some (.slice (some ⟨nb,0,none⟩) 2 q)) (hn:w.heap[nb]?=some (.cells (Four (.int .i64 0) (.int .i64 x) (.int .i64 x) (.int .i64 y) Z) 188 (0,0))) (hne:kb≠nb) (hq:2≤q) (hsm:x+y≤1000):
  CallsIn NF m Tryz.prog 211 #[.pointer (some ⟨kb,1,none⟩),.int .i64 0] w fun e w'=>e=.returned (.tuple #[])∧Keep (At2 kb nb) w w'∧∃v,w'.heap[kb]?=some (.cells (ks.setIfInBounds 1 v) T (0,0)):=by
 have q0:w.cell? ⟨kb,1,none⟩=some (.slice (some ⟨nb,0,none⟩) 2 q):=(aa0 hk _).trans hs
 have c0:w.cell? ⟨nb,0,none⟩=some (.int .i64 0):=(aa0 hn _).trans four_get.1
 have c1:w.cell? ⟨nb,1,none⟩=some (.int .i64 x):=(aa0 hn _).trans four_get.2.1
 have c2:w.cell? ⟨nb,2,none⟩=some (.int .i64 x):=(aa0 hn _).trans four_get.2.2.1
 gi_enter Tryz.func211,Tryz.ntmps211
 gi_wp2
 refine aa9 (P:=Tryz.prog) No _ rfl rfl (by kernel_rfl) 30 68 [0,1,2,3,4,5,6,7,8,9,10,11,12,13,14,15,16,17,18,19,21,22,23,24,25,26,27,28,29] [20] (by kernel_rfl) (by rfl) (fun _ v W=>v=.int .i64 (0+x:Nat)) (fun _ _ _ _ _ h _=>h) _ _ rfl rfl ?_
 gi_wp2
 refine⟨rfl,?_,?_,?_,?_⟩
 ·kernel_rfl
 ·intro W hK
  have d0:=hK.has (w:=w.drew) q0
  have d1:=hK.has (w:=w.drew) c0
  have d2:=hK.has (w:=w.drew) c1
  have d3:=hK.has (w:=w.drew) c2
  repeat' (refine aa8 ?_ ?_)
  all_goals first|exact trivial|gi_wp2
 ·intro i hi u W hK _
  obtain rfl:i=20:=by simpa using hi
  refine ac4 rfl fun KK hKK=>?_
  show wpListIn NF m Tryz.prog _ _ _ (Act.put _ (some 24) (u 20)) _
  gi_wp2_with (gi_at_call 237;refine(endS_calls _ _ 0 x (by omega)).mono ?_;rintro e w1 ⟨rfl,hK1⟩)
  exact⟨_,rfl,hK1,by simp⟩
 ·intro u W hK hu
  have hu:=hu 20 (by simp)
  show wpListIn NF m Tryz.prog _ _ _ (Act.put _ (some 24) (u 20)) _
  rw[hu]
  have hk1:=hK.old (heap_drew.trans hk) id
  have hn1:=hK.old (heap_drew.trans hn) id
  have q1:W.cell? ⟨kb,1,none⟩=some (.slice (some ⟨nb,0,none⟩) 2 q):=(aa0 hk1 _).trans hs
  have d1:W.cell? ⟨nb,1,none⟩=some (.int .i64 x):=(aa0 hn1 _).trans four_get.2.1
  have d3:W.cell? ⟨nb,3,none⟩=some (.int .i64 y):=(aa0 hn1 _).trans four_get.2.2.2
  have f1:=ab3 hn1 1
  have hn2:=aa2 (i:=1) hn1 (.int .i64 ((x:Int)+y))
  rw[four_set.2.1]at hn2
  gi_wp2
  gi_region
  all_goals gi_wp2_with (gi_at_call 124;refine(deleteS_two _ (W.setCell ⟨nb,1,none⟩ (.int .i64 ((x:Int)+y))).drew nb q _ _ _ _ Z (heap_drew.trans hn2) hq).mono ?_;rintro e w2 ⟨rfl,hK2⟩;have e7:=hK2.old (heap_drew.trans ((af4 _ hne).trans hk1)) hne;have e8:=ab3 e7 1;have e9:=(aa0 e7 1).trans hs)
  all_goals go_end0
  all_goals exact⟨by simp,((((Keep.refl (At2 kb nb) w).drew.then hK.no).setCell _ (fun _=>.inr rfl)).drew.trans hK2 (fun _ _ h=>.inr h)).setCell _ (fun _=>.inl rfl),_,aa2 e7 _⟩
set_option maxHeartbeats 4000000 in
theorem joinS_one (kb nb q:Nat) (ks:Array Value) (T:TypeId) (hk:w.heap[kb]?=some (.cells ks T (0,0))) (hs:ks[1]?=some (.slice (some ⟨nb,0,none⟩) 1 q)):
  CallsIn NF m Tryz.prog 211 #[.pointer (some ⟨kb,1,none⟩),.int .i64 0] w fun e w'=>e=.returned (.tuple #[])∧Keep No w w':=by
 have q0:w.cell? ⟨kb,1,none⟩=some (.slice (some ⟨nb,0,none⟩) 1 q):=(aa0 hk _).trans hs
 gi_enter Tryz.func211,Tryz.ntmps211
 gi_wp2
 refine aa9 (P:=Tryz.prog) No _ rfl rfl (by kernel_rfl) 31 68 [0,1,2,3,4,5,6,7,8,9,10,11,12,13,14,15,16,17,18,19,20,21,22,23,24,25,26,27,28,29,30] [] (by kernel_rfl) (by rfl) (fun _ _ _=>True) (fun _ _ _ _ _ h _=>h) _ _ rfl rfl ?_
 gi_wp2
 refine⟨rfl,by kernel_rfl,?_,(fun i hi=>absurd hi (by simp)),?_⟩
 ·intro W hK
  have d0:=hK.has (w:=w.drew) q0
  repeat' (refine aa8 ?_ ?_)
  all_goals first|exact trivial|gi_wp2
 ·intro u W hK _
  simp only[putS]
  gi_wp2
  refine bodyPost_ret (results_none rfl _ _ _) rfl ?_
  exact⟨by simp,(Keep.refl No w).drew.then hK⟩
set_option maxHeartbeats 4000000 in
theorem joinS_neg (kb:Nat):
  CallsIn NF m Tryz.prog 211 #[.pointer (some ⟨kb,1,none⟩),.int .i64 (-1)] w fun e w'=>e=.returned (.tuple #[])∧Keep No w w':=by
 gi_enter Tryz.func211,Tryz.ntmps211
 gi_wp2
 refine aa9 (P:=Tryz.prog) No _ rfl rfl (by kernel_rfl) 31 68 [0,1,2,3,4,5,6,7,8,9,10,11,12,13,14,15,16,17,18,19,20,21,22,23,24,25,26,27,28,29,30] [] (by kernel_rfl) (by rfl) (fun _ _ _=>True) (fun _ _ _ _ _ h _=>h) _ _ rfl rfl ?_
 gi_wp2
 refine⟨rfl,by kernel_rfl,?_,(fun i hi=>absurd hi (by simp)),?_⟩
 ·intro W hK
  repeat' (refine aa8 ?_ ?_)
  all_goals first|exact trivial|gi_wp2
 ·intro u W hK _
  simp only[putS]
  gi_wp2
  refine bodyPost_ret (results_none rfl _ _ _) rfl ?_
  exact⟨by simp,(Keep.refl No w).drew.then hK⟩
theorem indexS_give1 (b fb f s from_ c:Nat) (h0:w.cell? ⟨b,0,none⟩=some (.int .i64 f)) (h1:w.cell? ⟨b,1,none⟩=some (.int .i64 s)) (hn:w.cell? ⟨fb,0,none⟩=some (.int .i64 from_)) (hlt:from_<f):
  CallsIn NF m Tryz.prog 122 #[.slice (some ⟨b,0,none⟩) 1 c,.func (.func 209) #[] #[.pointer (some ⟨fb,0,none⟩)]] w fun e w'=>e=.returned (.int .i64 0)∧Keep No w w':=by
 have e1:(w.alloc (.cells #[.int .i64 f,.int .i64 s] 188)).cell? ⟨fb,0,none⟩=some (.int .i64 from_):=((Keep.refl No w).alloc _).has hn
 gi_enter Tryz.func122,Tryz.ntmps122
 gi_wp2
 refine wpIn_loop_once ?_
 gi_wp2_with gi_in
 go_ret
 exact⟨by simp,by repeat (first|exact Keep.refl _ _|refine Keep.drew ?_|refine Keep.alloc ?_ _)⟩
theorem indexS_give0 (a:Option Addr) (c:Nat) (g:Value):
  CallsIn NF m Tryz.prog 122 #[.slice a 0 c,g] w fun e w'=>e=.returned (.int .i64 (-1))∧Keep No w w':=by
 gi_enter Tryz.func122,Tryz.ntmps122
 gi_wp2
 refine wpIn_loop_once ?_
 gi_wp2
 go_ret
 exact⟨by simp,Keep.refl _ _⟩
theorem appS_room {w:World} {cb vb:Nat} {x y u v:Value} (ox:x.oneCell'=true) (oy:y.oneCell'=true) (hc:w.heap[cb]?=some (.cells #[u,v] 188 (0,0))) (hv:w.heap[vb]?=some (.cells #[x,y] 188 (0,0))):
  (Builtin.append_ #[95,95] 95 #[.slice (some ⟨cb,0,none⟩) 0 1,.slice (some ⟨vb,0,none⟩) 1 1]).run Tryz.prog w=.ok (.slice (some ⟨cb,0,none⟩) 1 1) ((w.setCell ⟨cb,0,none⟩ x).setCell ⟨cb,1,none⟩ y):=by
 have e:(Builtin.append_ #[95,95] 95 #[.slice (some ⟨cb,0,none⟩) 0 1,.slice (some ⟨vb,0,none⟩) 1 1]).run Tryz.prog w=(Sem.load .plain ⟨vb,0,none⟩ fun a=>Sem.load .plain ⟨vb,1,none⟩ fun b=>Sem.store .plain ⟨cb,0,none⟩ a (Sem.store .plain ⟨cb,1,none⟩ b (.pure (.slice (some ⟨cb,0,none⟩) 1 1)))).run Tryz.prog w:=by kernel_rfl
 have hc':=aa2 (i:=0) hc x
 have a0:w.cell? ⟨vb,0,none⟩=some x:=by rw[aa0 hv];rfl
 have a1:w.cell? ⟨vb,1,none⟩=some y:=by rw[aa0 hv];rfl
 have b0:w.cell? ⟨cb,0,none⟩=some u:=by rw[aa0 hc];rfl
 have b1:(w.setCell ⟨cb,0,none⟩ x).cell? ⟨cb,1,none⟩=some v:=by rw[aa0 hc'];rfl
 rw[e,aj1 a0,aj1 a1,ad2 ox b0 (ab3 hc 0),ad2 oy b1 (ab3 hc' 1)]
 rfl
theorem insertS_room (cb vb x y:Nat) (u v:Value) (hc:w.heap[cb]?=some (.cells #[u,v] 188 (0,0))) (hv:w.heap[vb]?=some (.cells #[.int .i64 x,.int .i64 y] 188 (0,0))):
  CallsIn NF m Tryz.prog 210 #[.slice (some ⟨cb,0,none⟩) 0 1,.int .i64 0,.slice (some ⟨vb,0,none⟩) 1 1] w fun e w'=>e=.returned (.slice (some ⟨cb,0,none⟩) 1 1)∧Keep (At cb) w w':=by
 have hap:=appS_room (x:=.int .i64 x) (y:=.int .i64 y) rfl rfl hc hv
 gi_enter Tryz.func210,Tryz.ntmps210
 gi_wp2_with (gi_at_builtin;refine aj3 rfl (.tmp 23) (.tmp 24) _ rfl rfl rfl hap ?_)
 go_ret
 exact⟨by simp,by repeat (first|exact Keep.refl _ _|refine Keep.drew ?_|refine Keep.setCell ?_ _ (fun _=>rfl))⟩
end
section
variable (m:Nat) (w:World)
def PhiGC (base n r:Nat) (i:Nat) (v:Value) (W:World):Prop:=(i=9→∃vb,v=.slice (some ⟨vb,0,none⟩) 1 1∧W.heap[vb]?=some (.cells #[.int .i64 (0:Nat),.int .i64 n] 186 (0,0)))∧(i=10→∃nb q Z,v=.slice (some ⟨nb,0,none⟩) 2 q∧2≤q∧base≤nb∧W.heap[nb]?=some (.cells (Four (.int .i64 (0:Nat)) (.int .i64 n) (.int .i64 n) (.int .i64 r) Z) 186 (0,0)))
def InvRC (w1:World) (cb n:Nat) (x y:Value) (L:Nat→Bool) (u:Nat→Value) (W:World):Prop:=Keep (At cb) w1 W∧(L 10=false→W.heap[cb]?=some (.cells #[x,y] 186 (0,0)))∧(L 9=true→∃vb,u 9=.slice (some ⟨vb,0,none⟩) 1 1∧vb≠cb∧W.heap[vb]?=some (.cells #[.int .i64 (0:Nat),.int .i64 n] 186 (0,0)))∧(L 10=true→u 10=.slice (some ⟨cb,0,none⟩) 1 1)
theorem set_setC {ks:Array Value} {i:Nat} {u v:Value}:(ks.setIfInBounds i u).setIfInBounds i v=ks.setIfInBounds i v:=by simp
set_option maxHeartbeats 4000000 in
theorem giveC_grow (kb cb n r:Nat) (ks:Array Value) (T:TypeId) (hk:w.heap[kb]?=some (.cells ks T (0,0))) (hs:ks[0]?=some (.slice (some ⟨cb,0,none⟩) 1 1)) (hc:w.heap[cb]?=some (.cells #[.int .i64 n,.int .i64 r] 186 (0,0))) (_hne:kb≠cb) (h1:1≤n) (hsm:n+r≤1000):
  CallsIn NF m Tryz.prog 91 #[.pointer (some ⟨kb,0,none⟩),.int .i64 0,.int .i64 n] w fun e w'=>e=.returned (.tuple #[])∧Keep (At2 kb cb) w w'∧∃v,w'.heap[kb]?=some (.cells (ks.setIfInBounds 0 v) T (0,0)):=by
 have hnb:(w.alloc (.cells #[.int .i64 0] 94)).heap[w.heap.size]?=some (.cells #[.int .i64 0] 94):=aa4 rfl
 have hk0:(w.alloc (.cells #[.int .i64 0] 94)).heap[kb]?=some (.cells ks T (0,0)):=(ab5 (ab2 hk)).trans hk
 have hc0:(w.alloc (.cells #[.int .i64 0] 94)).heap[cb]?=some (.cells #[.int .i64 n,.int .i64 r] 186 (0,0)):=(ab5 (ab2 hc)).trans hc
 have lc:=ab2 hc
 have lk:=ab2 hk
 have d1:(w.alloc (.cells #[.int .i64 0] 94)).cell? ⟨cb,0,none⟩=some (.int .i64 n):=by rw[aa0 hc0];rfl
 have d2:(w.alloc (.cells #[.int .i64 0] 94)).cell? ⟨cb,1,none⟩=some (.int .i64 r):=by rw[aa0 hc0];rfl
 have d3:(w.alloc (.cells #[.int .i64 0] 94)).cell? ⟨w.heap.size,0,none⟩=some (.int .i64 (0:Nat)):=by rw[aa0 hnb];rfl
 have d4:(w.alloc (.cells #[.int .i64 0] 94)).cell? ⟨kb,0,none⟩=some (.slice (some ⟨cb,0,none⟩) 1 1):=by rw[aa0 hk0];exact hs
 have hK0:Keep (At2 kb cb) w (w.alloc (.cells #[.int .i64 0] 94)):=(Keep.refl _ _).alloc _
 gi_enter Tryz.func91,Tryz.ntmps91
 gi_wp2_with (gi_at_call 127;refine(indexC_give1 _ _ cb w.heap.size n r 0 1 d1 d2 d3 (by omega)).mono ?_;rintro e w1 ⟨rfl,hK⟩;have e3:=hK.has d3;have e4:=hK.has d4;have e5:=hK.old hc0 id)
 have ek:=hK.old hk0 id
 refine aa9 (P:=Tryz.prog) No _ rfl rfl (by kernel_rfl) 11 42 [0,1,2,3,4,5,6,7,8] [9,10] (by kernel_rfl) (by rfl)
  (PhiGC w.heap.size n r)
  (fun _ _ _ _ _ h hK=>⟨fun e=>let ⟨vb,h1,h2⟩:=h.1 e;⟨vb,h1,hK.old h2 id⟩,fun e=>let ⟨nb,q,Z,h1,h2,h3,h4⟩:=h.2 e;⟨nb,q,Z,h1,h2,h3,hK.old h4 id⟩⟩) _ _ rfl rfl ?_
 gi_wp2
 refine⟨rfl,by kernel_rfl,?_,?_,?_⟩
 ·intro W hK
  have d0:=hK.has (w:=w1.drew) e3
  have d1:=hK.has (w:=w1.drew) e4
  repeat' (refine aa8 ?_ ?_)
  all_goals first|exact trivial|gi_wp2
 ·intro i hi u W hK2 hu
  rcases(by simpa using hi:i=9∨i=10)with rfl|rfl
  ·refine ac4 rfl fun KK hKK=>?_
   show wpListIn NF m Tryz.prog _ _ _ (Act.put (Act.put _ (some 31) (u 9)) (some 32) (u 10)) _
   gi_wp2
   exact⟨_,rfl,(Keep.refl _ _).alloc _,fun _=>⟨_,rfl,aa4 rfl⟩,fun h=>absurd h (by decide)⟩
  ·obtain⟨vb,hv1,hv2⟩:=(hu 9 (by simp) (by decide)).1 rfl
   show wpOpIn NF m Tryz.prog _ _ _ (fun a' W'=>∃v,a'=Act.put (Act.put (Act.put _ (some 31) (u 9)) (some 32) (u 10)) (some 32) v∧_∧_) (Act.put (Act.put _ (some 31) (u 9)) (some 32) (u 10)) _
   rw[hv1]
   refine ac4 rfl fun KK hKK=>?_
   have e6:=hK2.old (heap_drew.trans e5) id
   gi_wp2_with (gi_at_call 129;refine(insertC_grow _ W cb vb n r 0 n e6 hv2).mono ?_;rintro e w3 ⟨q,Z,hq,rfl,hK3,hz⟩)
   exact⟨_,rfl,hK3,fun h=>absurd h (by decide),fun _=>⟨_,q,Z,rfl,hq,Nat.le_trans (Nat.le_trans (by simp) hK.size) hK2.size,hz⟩⟩
 ·intro u W hK2 hu
  obtain⟨vb,hv1,hv2⟩:=(hu 9 (by simp)).1 rfl
  obtain⟨nb,q,Z,hz1,hq,hz2,hz3⟩:=(hu 10 (by simp)).2 rfl
  show wpListIn NF m Tryz.prog _ _ _ (Act.put (Act.put _ (some 31) (u 9)) (some 32) (u 10)) _
  rw[hv1,hz1]
  have ek2:=hK2.old (heap_drew.trans ek) id
  have ek3:=ab3 ek2 0
  have ek4:=(aa0 ek2 0).trans hs
  have ek5:=aa2 (i:=0) ek2 (.slice (some ⟨nb,0,none⟩) 2 q)
  have hkn:kb≠nb:=by omega
  have ez:=(af4 (p:=⟨kb,0,none⟩) (.slice (some ⟨nb,0,none⟩) 2 q) hkn.symm).trans hz3
  gi_wp2_with fail
  refine(joinC_two _ _ kb nb q n r _ Z T ek5 (aj6 hs) ez hkn hq hsm).mono ?_
  rintro e w4 ⟨rfl,hK4,v4,hv4⟩
  gi_wp2_with fail
  refine(joinC_neg _ _ kb).mono ?_
  rintro e w5 ⟨rfl,hK5⟩
  gi_wp2
  go_end0
  have b1:Keep (At2 kb cb) w (W.setCell ⟨kb,0,none⟩ (.slice (some ⟨nb,0,none⟩) 2 q)):=((hK0.then hK.no).drew.then hK2.no).setCell _ (fun _=>.inl rfl)
  refine⟨by simp,(b1.trans hK4 (fun k hk h=>?_)).then hK5.no,v4,hK5.old (by rw[set_setC]at hv4;exact hv4) id⟩
  rcases h with h|h
  ·exact .inl h
  ·exfalso;omega
set_option maxHeartbeats 4000000 in
theorem giveC_room (kb cb n:Nat) (u v:Value) (ks:Array Value) (T:TypeId) (hk:w.heap[kb]?=some (.cells ks T (0,0))) (hs:ks[0]?=some (.slice (some ⟨cb,0,none⟩) 0 1)) (hc:w.heap[cb]?=some (.cells #[u,v] 186 (0,0))) (hne:kb≠cb) (h1:1≤n):
  CallsIn NF m Tryz.prog 91 #[.pointer (some ⟨kb,0,none⟩),.int .i64 0,.int .i64 n] w fun e w'=>e=.returned (.tuple #[])∧Keep (At2 kb cb) w w'∧∃v,w'.heap[kb]?=some (.cells (ks.setIfInBounds 0 v) T (0,0)):=by
 have hnb:(w.alloc (.cells #[.int .i64 0] 94)).heap[w.heap.size]?=some (.cells #[.int .i64 0] 94):=aa4 rfl
 have hk0:(w.alloc (.cells #[.int .i64 0] 94)).heap[kb]?=some (.cells ks T (0,0)):=(ab5 (ab2 hk)).trans hk
 have hc0:(w.alloc (.cells #[.int .i64 0] 94)).heap[cb]?=some (.cells #[u,v] 186 (0,0)):=(ab5 (ab2 hc)).trans hc
 have lc:=ab2 hc
 have lk:=ab2 hk
 have d3:(w.alloc (.cells #[.int .i64 0] 94)).cell? ⟨w.heap.size,0,none⟩=some (.int .i64 (0:Nat)):=by rw[aa0 hnb];rfl
 have d4:(w.alloc (.cells #[.int .i64 0] 94)).cell? ⟨kb,0,none⟩=some (.slice (some ⟨cb,0,none⟩) 0 1):=by rw[aa0 hk0];exact hs
 have hK0:Keep (At2 kb cb) w (w.alloc (.cells #[.int .i64 0] 94)):=(Keep.refl _ _).alloc _
 gi_enter Tryz.func91,Tryz.ntmps91
 gi_wp2_with (gi_at_call 127;refine(indexC_give0 _ _ _ 1 _).mono ?_;rintro e w1 ⟨rfl,hK⟩;have e3:=hK.has d3;have e4:=hK.has d4;have e5:=hK.old hc0 id)
 have ek:=hK.old hk0 id
 refine ag5 (P:=Tryz.prog) _ rfl rfl (by kernel_rfl) 11 42 [0,1,2,3,4,5,6,7,8] [9,10] (by kernel_rfl) (by rfl)
  (InvRC w1.drew cb n u v) (fun L L' u u' W h hI=>by
   have h9:=h 9 (by simp)
   have h10:=h 10 (by simp)
   unfold InvRC at hI ⊢
   rw[←h9.1,←h9.2,←h10.1,←h10.2]
   exact hI) _ _ rfl rfl ?_
 have sz:w.heap.size≠cb:=by omega
 gi_wp2
 refine⟨rfl,by kernel_rfl,?_,?_,?_,?_⟩
 ·intro u'
  exact⟨Keep.refl _ _,fun _=>heap_drew.trans e5,fun h=>absurd h (by decide),fun h=>absurd h (by decide)⟩
 ·intro L u' W hI
  have hK:=hI.1
  have l3:=World.block_lt_of_cell? _ _ e3
  have l4:=World.block_lt_of_cell? _ _ e4
  have d0:=(hK.cell (w:=w1.drew) (p:=⟨w.heap.size,0,none⟩) l3 sz).trans e3
  have d1:=(hK.cell (w:=w1.drew) (p:=⟨kb,0,none⟩) l4 hne).trans e4
  repeat' (refine aa8 ?_ ?_)
  all_goals first|exact trivial|gi_wp2
 ·intro i hi L u' W hI hLi hu
  obtain⟨hK2,hI1,hI2,hI3⟩:=hI
  rcases(by simpa using hi:i=9∨i=10)with rfl|rfl
  ·refine ac4 rfl fun KK hKK=>?_
   show wpListIn NF m Tryz.prog _ _ _ (Act.put (Act.put _ (some 31) (u' 9)) (some 32) (u' 10)) _
   have l1:=hK2.size
   have l2:=hK.size
   have l3:w.heap.size≤(w.alloc (.cells #[.int .i64 0] 94)).heap.size:=by simp
   have l4:w1.drew.heap.size=w1.heap.size:=rfl
   have sz2:W.heap.size≠cb:=by omega
   gi_wp2
   exact⟨_,rfl,hK2.alloc _,fun h=>(ab5 (by omega)).trans (hI1 h),fun _=>⟨_,rfl,sz2,aa4 rfl⟩,hI3⟩
  ·obtain⟨vb,hv1,hv2,hv3⟩:=hI2 (hu 9 (by simp) (by decide))
   show wpOpIn NF m Tryz.prog _ _ _ (fun a' W'=>∃v,a'=Act.put (Act.put (Act.put _ (some 31) (u' 9)) (some 32) (u' 10)) (some 32) v∧_) (Act.put (Act.put _ (some 31) (u' 9)) (some 32) (u' 10)) _
   rw[hv1]
   refine ac4 rfl fun KK hKK=>?_
   have e6:=hI1 hLi
   gi_wp2_with fail
   refine(insertC_room _ W cb vb 0 n u v e6 hv3).mono ?_
   rintro e w3 ⟨rfl,hK3⟩
   gi_wp2
   exact⟨_,rfl,hK2.then hK3,fun h=>absurd h (by simp[did1]),fun h=>⟨vb,hv1,hv2,hK3.old hv3 hv2⟩,fun _=>rfl⟩
 ·intro L u' W hI hL
  obtain⟨hK2,hI1,hI2,hI3⟩:=hI
  obtain⟨vb,hv1,_,hv2⟩:=hI2 (hL 9 (by simp))
  have hz1:=hI3 (hL 10 (by simp))
  show wpListIn NF m Tryz.prog _ _ _ (Act.put (Act.put _ (some 31) (u' 9)) (some 32) (u' 10)) _
  rw[hv1,hz1]
  have ek2:=hK2.old (heap_drew.trans ek) hne
  have ek3:=ab3 ek2 0
  have ek4:=(aa0 ek2 0).trans hs
  have ek5:=aa2 (i:=0) ek2 (.slice (some ⟨cb,0,none⟩) 1 1)
  gi_wp2_with fail
  refine(joinC_one _ _ kb cb 1 _ T ek5 (aj6 hs)).mono ?_
  rintro e w4 ⟨rfl,hK4⟩
  gi_wp2_with fail
  refine(joinC_neg _ _ kb).mono ?_
  rintro e w5 ⟨rfl,hK5⟩
  gi_wp2
  go_end0
  have b1:Keep (At2 kb cb) w (W.setCell ⟨kb,0,none⟩ (.slice (some ⟨cb,0,none⟩) 1 1)):=((hK0.then hK.no).drew.trans hK2 (fun _ _ h=>.inr h)).setCell _ (fun _=>.inl rfl)
  exact⟨by simp,(b1.then hK4.no).then hK5.no,_,hK5.old (hK4.old ek5 id) id⟩
end
section
variable (m:Nat) (w:World)
def PhiGS (base n r:Nat) (i:Nat) (v:Value) (W:World):Prop:=(i=9→∃vb,v=.slice (some ⟨vb,0,none⟩) 1 1∧W.heap[vb]?=some (.cells #[.int .i64 (0:Nat),.int .i64 n] 188 (0,0)))∧(i=10→∃nb q Z,v=.slice (some ⟨nb,0,none⟩) 2 q∧2≤q∧base≤nb∧W.heap[nb]?=some (.cells (Four (.int .i64 (0:Nat)) (.int .i64 n) (.int .i64 n) (.int .i64 r) Z) 188 (0,0)))
def InvRS (w1:World) (cb n:Nat) (x y:Value) (L:Nat→Bool) (u:Nat→Value) (W:World):Prop:=Keep (At cb) w1 W∧(L 10=false→W.heap[cb]?=some (.cells #[x,y] 188 (0,0)))∧(L 9=true→∃vb,u 9=.slice (some ⟨vb,0,none⟩) 1 1∧vb≠cb∧W.heap[vb]?=some (.cells #[.int .i64 (0:Nat),.int .i64 n] 188 (0,0)))∧(L 10=true→u 10=.slice (some ⟨cb,0,none⟩) 1 1)
theorem set_setS {ks:Array Value} {i:Nat} {u v:Value}:(ks.setIfInBounds i u).setIfInBounds i v=ks.setIfInBounds i v:=by simp
set_option maxHeartbeats 4000000 in
theorem giveS_grow (kb cb n r:Nat) (ks:Array Value) (T:TypeId) (hk:w.heap[kb]?=some (.cells ks T (0,0))) (hs:ks[1]?=some (.slice (some ⟨cb,0,none⟩) 1 1)) (hc:w.heap[cb]?=some (.cells #[.int .i64 n,.int .i64 r] 188 (0,0))) (_hne:kb≠cb) (h1:1≤n) (hsm:n+r≤1000):
  CallsIn NF m Tryz.prog 156 #[.pointer (some ⟨kb,1,none⟩),.int .i64 0,.int .i64 n] w fun e w'=>e=.returned (.tuple #[])∧Keep (At2 kb cb) w w'∧∃v,w'.heap[kb]?=some (.cells (ks.setIfInBounds 1 v) T (0,0)):=by
 have hnb:(w.alloc (.cells #[.int .i64 0] 99)).heap[w.heap.size]?=some (.cells #[.int .i64 0] 99):=aa4 rfl
 have hk0:(w.alloc (.cells #[.int .i64 0] 99)).heap[kb]?=some (.cells ks T (0,0)):=(ab5 (ab2 hk)).trans hk
 have hc0:(w.alloc (.cells #[.int .i64 0] 99)).heap[cb]?=some (.cells #[.int .i64 n,.int .i64 r] 188 (0,0)):=(ab5 (ab2 hc)).trans hc
 have lc:=ab2 hc
 have lk:=ab2 hk
 have d1:(w.alloc (.cells #[.int .i64 0] 99)).cell? ⟨cb,0,none⟩=some (.int .i64 n):=by rw[aa0 hc0];rfl
 have d2:(w.alloc (.cells #[.int .i64 0] 99)).cell? ⟨cb,1,none⟩=some (.int .i64 r):=by rw[aa0 hc0];rfl
 have d3:(w.alloc (.cells #[.int .i64 0] 99)).cell? ⟨w.heap.size,0,none⟩=some (.int .i64 (0:Nat)):=by rw[aa0 hnb];rfl
 have d4:(w.alloc (.cells #[.int .i64 0] 99)).cell? ⟨kb,1,none⟩=some (.slice (some ⟨cb,0,none⟩) 1 1):=by rw[aa0 hk0];exact hs
 have hK0:Keep (At2 kb cb) w (w.alloc (.cells #[.int .i64 0] 99)):=(Keep.refl _ _).alloc _
 gi_enter Tryz.func156,Tryz.ntmps156
 gi_wp2_with (gi_at_call 122;refine(indexS_give1 _ _ cb w.heap.size n r 0 1 d1 d2 d3 (by omega)).mono ?_;rintro e w1 ⟨rfl,hK⟩;have e3:=hK.has d3;have e4:=hK.has d4;have e5:=hK.old hc0 id)
 have ek:=hK.old hk0 id
 refine aa9 (P:=Tryz.prog) No _ rfl rfl (by kernel_rfl) 11 42 [0,1,2,3,4,5,6,7,8] [9,10] (by kernel_rfl) (by rfl)
  (PhiGS w.heap.size n r)
  (fun _ _ _ _ _ h hK=>⟨fun e=>let ⟨vb,h1,h2⟩:=h.1 e;⟨vb,h1,hK.old h2 id⟩,fun e=>let ⟨nb,q,Z,h1,h2,h3,h4⟩:=h.2 e;⟨nb,q,Z,h1,h2,h3,hK.old h4 id⟩⟩) _ _ rfl rfl ?_
 gi_wp2
 refine⟨rfl,by kernel_rfl,?_,?_,?_⟩
 ·intro W hK
  have d0:=hK.has (w:=w1.drew) e3
  have d1:=hK.has (w:=w1.drew) e4
  repeat' (refine aa8 ?_ ?_)
  all_goals first|exact trivial|gi_wp2
 ·intro i hi u W hK2 hu
  rcases(by simpa using hi:i=9∨i=10)with rfl|rfl
  ·refine ac4 rfl fun KK hKK=>?_
   show wpListIn NF m Tryz.prog _ _ _ (Act.put (Act.put _ (some 31) (u 9)) (some 32) (u 10)) _
   gi_wp2
   exact⟨_,rfl,(Keep.refl _ _).alloc _,fun _=>⟨_,rfl,aa4 rfl⟩,fun h=>absurd h (by decide)⟩
  ·obtain⟨vb,hv1,hv2⟩:=(hu 9 (by simp) (by decide)).1 rfl
   show wpOpIn NF m Tryz.prog _ _ _ (fun a' W'=>∃v,a'=Act.put (Act.put (Act.put _ (some 31) (u 9)) (some 32) (u 10)) (some 32) v∧_∧_) (Act.put (Act.put _ (some 31) (u 9)) (some 32) (u 10)) _
   rw[hv1]
   refine ac4 rfl fun KK hKK=>?_
   have e6:=hK2.old (heap_drew.trans e5) id
   gi_wp2_with (gi_at_call 210;refine(insertS_grow _ W cb vb n r 0 n e6 hv2).mono ?_;rintro e w3 ⟨q,Z,hq,rfl,hK3,hz⟩)
   exact⟨_,rfl,hK3,fun h=>absurd h (by decide),fun _=>⟨_,q,Z,rfl,hq,Nat.le_trans (Nat.le_trans (by simp) hK.size) hK2.size,hz⟩⟩
 ·intro u W hK2 hu
  obtain⟨vb,hv1,hv2⟩:=(hu 9 (by simp)).1 rfl
  obtain⟨nb,q,Z,hz1,hq,hz2,hz3⟩:=(hu 10 (by simp)).2 rfl
  show wpListIn NF m Tryz.prog _ _ _ (Act.put (Act.put _ (some 31) (u 9)) (some 32) (u 10)) _
  rw[hv1,hz1]
  have ek2:=hK2.old (heap_drew.trans ek) id
  have ek3:=ab3 ek2 1
  have ek4:=(aa0 ek2 1).trans hs
  have ek5:=aa2 (i:=1) ek2 (.slice (some ⟨nb,0,none⟩) 2 q)
  have hkn:kb≠nb:=by omega
  have ez:=(af4 (p:=⟨kb,1,none⟩) (.slice (some ⟨nb,0,none⟩) 2 q) hkn.symm).trans hz3
  gi_wp2_with fail
  refine(joinS_two _ _ kb nb q n r _ Z T ek5 (aj6 hs) ez hkn hq hsm).mono ?_
  rintro e w4 ⟨rfl,hK4,v4,hv4⟩
  gi_wp2_with fail
  refine(joinS_neg _ _ kb).mono ?_
  rintro e w5 ⟨rfl,hK5⟩
  gi_wp2
  go_end0
  have b1:Keep (At2 kb cb) w (W.setCell ⟨kb,1,none⟩ (.slice (some ⟨nb,0,none⟩) 2 q)):=((hK0.then hK.no).drew.then hK2.no).setCell _ (fun _=>.inl rfl)
  refine⟨by simp,(b1.trans hK4 (fun k hk h=>?_)).then hK5.no,v4,hK5.old (by rw[set_setS]at hv4;exact hv4) id⟩
  rcases h with h|h
  ·exact .inl h
  ·exfalso;omega
set_option maxHeartbeats 4000000 in
theorem giveS_room (kb cb n:Nat) (u v:Value) (ks:Array Value) (T:TypeId) (hk:w.heap[kb]?=some (.cells ks T (0,0))) (hs:ks[1]?=some (.slice (some ⟨cb,0,none⟩) 0 1)) (hc:w.heap[cb]?=some (.cells #[u,v] 188 (0,0))) (hne:kb≠cb) (h1:1≤n):
  CallsIn NF m Tryz.prog 156 #[.pointer (some ⟨kb,1,none⟩),.int .i64 0,.int .i64 n] w fun e w'=>e=.returned (.tuple #[])∧Keep (At2 kb cb) w w'∧∃v,w'.heap[kb]?=some (.cells (ks.setIfInBounds 1 v) T (0,0)):=by
 have hnb:(w.alloc (.cells #[.int .i64 0] 99)).heap[w.heap.size]?=some (.cells #[.int .i64 0] 99):=aa4 rfl
 have hk0:(w.alloc (.cells #[.int .i64 0] 99)).heap[kb]?=some (.cells ks T (0,0)):=(ab5 (ab2 hk)).trans hk
 have hc0:(w.alloc (.cells #[.int .i64 0] 99)).heap[cb]?=some (.cells #[u,v] 188 (0,0)):=(ab5 (ab2 hc)).trans hc
 have lc:=ab2 hc
 have lk:=ab2 hk
 have d3:(w.alloc (.cells #[.int .i64 0] 99)).cell? ⟨w.heap.size,0,none⟩=some (.int .i64 (0:Nat)):=by rw[aa0 hnb];rfl
 have d4:(w.alloc (.cells #[.int .i64 0] 99)).cell? ⟨kb,1,none⟩=some (.slice (some ⟨cb,0,none⟩) 0 1):=by rw[aa0 hk0];exact hs
 have hK0:Keep (At2 kb cb) w (w.alloc (.cells #[.int .i64 0] 99)):=(Keep.refl _ _).alloc _
 gi_enter Tryz.func156,Tryz.ntmps156
 gi_wp2_with (gi_at_call 122;refine(indexS_give0 _ _ _ 1 _).mono ?_;rintro e w1 ⟨rfl,hK⟩;have e3:=hK.has d3;have e4:=hK.has d4;have e5:=hK.old hc0 id)
 have ek:=hK.old hk0 id
 refine ag5 (P:=Tryz.prog) _ rfl rfl (by kernel_rfl) 11 42 [0,1,2,3,4,5,6,7,8] [9,10] (by kernel_rfl) (by rfl)
  (InvRS w1.drew cb n u v) (fun L L' u u' W h hI=>by
   have h9:=h 9 (by simp)
   have h10:=h 10 (by simp)
   unfold InvRS at hI ⊢
   rw[←h9.1,←h9.2,←h10.1,←h10.2]
   exact hI) _ _ rfl rfl ?_
 have sz:w.heap.size≠cb:=by omega
 gi_wp2
 refine⟨rfl,by kernel_rfl,?_,?_,?_,?_⟩
 ·intro u'
  exact⟨Keep.refl _ _,fun _=>heap_drew.trans e5,fun h=>absurd h (by decide),fun h=>absurd h (by decide)⟩
 ·intro L u' W hI
  have hK:=hI.1
  have l3:=World.block_lt_of_cell? _ _ e3
  have l4:=World.block_lt_of_cell? _ _ e4
  have d0:=(hK.cell (w:=w1.drew) (p:=⟨w.heap.size,0,none⟩) l3 sz).trans e3
  have d1:=(hK.cell (w:=w1.drew) (p:=⟨kb,1,none⟩) l4 hne).trans e4
  repeat' (refine aa8 ?_ ?_)
  all_goals first|exact trivial|gi_wp2
 ·intro i hi L u' W hI hLi hu
  obtain⟨hK2,hI1,hI2,hI3⟩:=hI
  rcases(by simpa using hi:i=9∨i=10)with rfl|rfl
  ·refine ac4 rfl fun KK hKK=>?_
   show wpListIn NF m Tryz.prog _ _ _ (Act.put (Act.put _ (some 31) (u' 9)) (some 32) (u' 10)) _
   have l1:=hK2.size
   have l2:=hK.size
   have l3:w.heap.size≤(w.alloc (.cells #[.int .i64 0] 99)).heap.size:=by simp
   have l4:w1.drew.heap.size=w1.heap.size:=rfl
   have sz2:W.heap.size≠cb:=by omega
   gi_wp2
   exact⟨_,rfl,hK2.alloc _,fun h=>(ab5 (by omega)).trans (hI1 h),fun _=>⟨_,rfl,sz2,aa4 rfl⟩,hI3⟩
  ·obtain⟨vb,hv1,hv2,hv3⟩:=hI2 (hu 9 (by simp) (by decide))
   show wpOpIn NF m Tryz.prog _ _ _ (fun a' W'=>∃v,a'=Act.put (Act.put (Act.put _ (some 31) (u' 9)) (some 32) (u' 10)) (some 32) v∧_) (Act.put (Act.put _ (some 31) (u' 9)) (some 32) (u' 10)) _
   rw[hv1]
   refine ac4 rfl fun KK hKK=>?_
   have e6:=hI1 hLi
   gi_wp2_with fail
   refine(insertS_room _ W cb vb 0 n u v e6 hv3).mono ?_
   rintro e w3 ⟨rfl,hK3⟩
   gi_wp2
   exact⟨_,rfl,hK2.then hK3,fun h=>absurd h (by simp[did1]),fun h=>⟨vb,hv1,hv2,hK3.old hv3 hv2⟩,fun _=>rfl⟩
 ·intro L u' W hI hL
  obtain⟨hK2,hI1,hI2,hI3⟩:=hI
  obtain⟨vb,hv1,_,hv2⟩:=hI2 (hL 9 (by simp))
  have hz1:=hI3 (hL 10 (by simp))
  show wpListIn NF m Tryz.prog _ _ _ (Act.put (Act.put _ (some 31) (u' 9)) (some 32) (u' 10)) _
  rw[hv1,hz1]
  have ek2:=hK2.old (heap_drew.trans ek) hne
  have ek3:=ab3 ek2 1
  have ek4:=(aa0 ek2 1).trans hs
  have ek5:=aa2 (i:=1) ek2 (.slice (some ⟨cb,0,none⟩) 1 1)
  gi_wp2_with fail
  refine(joinS_one _ _ kb cb 1 _ T ek5 (aj6 hs)).mono ?_
  rintro e w4 ⟨rfl,hK4⟩
  gi_wp2_with fail
  refine(joinS_neg _ _ kb).mono ?_
  rintro e w5 ⟨rfl,hK5⟩
  gi_wp2
  go_end0
  have b1:Keep (At2 kb cb) w (W.setCell ⟨kb,1,none⟩ (.slice (some ⟨cb,0,none⟩) 1 1)):=((hK0.then hK.no).drew.trans hK2 (fun _ _ h=>.inr h)).setCell _ (fun _=>.inl rfl)
  exact⟨by simp,(b1.then hK4.no).then hK5.no,_,hK5.old (hK4.old ek5 id) id⟩
end
end Go.Fxa
namespace Go.Fxa
open Go.Conc
open Go.Proofs
open Go.RowKit
def Full (T:TypeId) (v:Value) (w:World) (cb N:Nat):Prop:=v=.slice (some ⟨cb,0,none⟩) 1 1∧w.heap[cb]?=some (.cells #[.int .i64 (0:Nat),.int .i64 N] T (0,0))
def Took (T:TypeId) (v:Value) (w:World) (cb n N:Nat):Prop:=(n<N∧v=.slice (some ⟨cb,0,none⟩) 1 1∧w.heap[cb]?=some (.cells #[.int .i64 (0+n:Nat),.int .i64 (N-n:Nat)] T (0,0)))∨(n=N∧v=.slice (some ⟨cb,0,none⟩) 0 1∧w.heap[cb]?=some (.cells #[.int .i64 0,.int .i64 0] T (0,0)))
section
variable {T:TypeId} {v:Value} {w w':World} {cb n N:Nat} {S:Nat→Prop}
theorem Full.keep (h:Full T v w cb N) (hK:Keep S w w') (hn:¬S cb):Full T v w' cb N:=⟨h.1,hK.old h.2 hn⟩
theorem Took.keep (h:Took T v w cb n N) (hK:Keep S w w') (hn:¬S cb):Took T v w' cb n N:=by
 rcases h with⟨h1,h2,h3⟩|⟨h1,h2,h3⟩
 ·exact .inl ⟨h1,h2,hK.old h3 hn⟩
 ·exact .inr ⟨h1,h2,hK.old h3 hn⟩
end
section
variable (m:Nat) (w:World) (kb cb n N:Nat) (ks:Array Value) (v:Value)
theorem takeC_full (hk:w.heap[kb]?=some (.cells ks 114 (0,0))) (hs:ks[0]?=some v) (hf:Full 186 v w cb N) (h1:1≤n) (hn:n≤N) (hN:N≤500):
  CallsIn NF m Tryz.prog 92 #[.pointer (some ⟨kb,0,none⟩),.int .i64 n] w fun e w'=>e=.returned (.tuple #[.int .i64 0,.bool true])∧Keep (At2 kb cb) w w'∧∃v',w'.heap[kb]?=some (.cells (ks.setIfInBounds 0 v') 114 (0,0))∧Took 186 v' w' cb n N:=by
 obtain⟨rfl,hc⟩:=hf
 have hne:=ac2 hk hc (by decide)
 by_cases e:n=N
 ·subst e
  refine(takeC_whole m w kb cb 0 n ks 114 hk hs hc hne h1).mono ?_
  rintro e w' ⟨rfl,h2,h3,h4⟩
  exact⟨rfl,h2,_,h3,.inr ⟨rfl,rfl,h4⟩⟩
 ·refine(takeC_part m w kb cb 0 N n ks 114 hk hs hc hne h1 (by omega) (by omega)).mono ?_
  rintro e w' ⟨rfl,h2,h3⟩
  exact⟨rfl,h2.mono fun _ _ h=>.inr h,_,(h2.old hk hne).trans (by rw[set_same hs]),.inl ⟨by omega,rfl,h3⟩⟩
theorem takeS_full (hk:w.heap[kb]?=some (.cells ks 114 (0,0))) (hs:ks[1]?=some v) (hf:Full 188 v w cb N) (h1:1≤n) (hn:n≤N) (hN:N≤500):
  CallsIn NF m Tryz.prog 89 #[.pointer (some ⟨kb,1,none⟩),.int .i64 n] w fun e w'=>e=.returned (.tuple #[.int .i64 0,.bool true])∧Keep (At2 kb cb) w w'∧∃v',w'.heap[kb]?=some (.cells (ks.setIfInBounds 1 v') 114 (0,0))∧Took 188 v' w' cb n N:=by
 obtain⟨rfl,hc⟩:=hf
 have hne:=ac2 hk hc (by decide)
 by_cases e:n=N
 ·subst e
  refine(takeS_whole m w kb cb 0 n ks 114 hk hs hc hne h1).mono ?_
  rintro e w' ⟨rfl,h2,h3,h4⟩
  exact⟨rfl,h2,_,h3,.inr ⟨rfl,rfl,h4⟩⟩
 ·refine(takeS_part m w kb cb 0 N n ks 114 hk hs hc hne h1 (by omega) (by omega)).mono ?_
  rintro e w' ⟨rfl,h2,h3⟩
  exact⟨rfl,h2.mono fun _ _ h=>.inr h,_,(h2.old hk hne).trans (by rw[set_same hs]),.inl ⟨by omega,rfl,h3⟩⟩
theorem giveC_took (hk:w.heap[kb]?=some (.cells ks 114 (0,0))) (hs:ks[0]?=some v) (hf:Took 186 v w cb n N) (h1:1≤n) (hN:N≤500):
  CallsIn NF m Tryz.prog 91 #[.pointer (some ⟨kb,0,none⟩),.int .i64 0,.int .i64 n] w fun e w'=>e=.returned (.tuple #[])∧Keep (At2 kb cb) w w'∧∃v',w'.heap[kb]?=some (.cells (ks.setIfInBounds 0 v') 114 (0,0)):=by
 rcases hf with⟨h2,rfl,h3⟩|⟨_,rfl,h3⟩
 ·rw[Nat.zero_add]at h3
  exact giveC_grow m w kb cb n (N-n) ks 114 hk hs h3 (ac2 hk h3 (by decide)) h1 (by omega)
 ·exact giveC_room m w kb cb n _ _ ks 114 hk hs h3 (ac2 hk h3 (by decide)) h1
theorem giveS_took (hk:w.heap[kb]?=some (.cells ks 114 (0,0))) (hs:ks[1]?=some v) (hf:Took 188 v w cb n N) (h1:1≤n) (hN:N≤500):
  CallsIn NF m Tryz.prog 156 #[.pointer (some ⟨kb,1,none⟩),.int .i64 0,.int .i64 n] w fun e w'=>e=.returned (.tuple #[])∧Keep (At2 kb cb) w w'∧∃v',w'.heap[kb]?=some (.cells (ks.setIfInBounds 1 v') 114 (0,0)):=by
 rcases hf with⟨h2,rfl,h3⟩|⟨_,rfl,h3⟩
 ·rw[Nat.zero_add]at h3
  exact giveS_grow m w kb cb n (N-n) ks 114 hk hs h3 (ac2 hk h3 (by decide)) h1 (by omega)
 ·exact giveS_room m w kb cb n _ _ ks 114 hk hs h3 (ac2 hk h3 (by decide)) h1
end
end Go.Fxa
namespace Go.Fxa
open Go.Conc
open Go.Proofs
open Go.RowKit
set_option maxRecDepth 1000000
def OneI (S:Nat→Prop) (w1:World) (e:Nat) (Post:Value→World→Prop) (pure:List (Nat×Value)) (L:Nat→Bool) (u:Nat→Value) (W:World):Prop:=
 Keep S w1 W∧(L e=false→W=w1)∧(L e=true→Post (u e) W)∧∀p∈pure,L p.1=true→u p.1=p.2
section
variable {S:Nat→Prop} {w1:World} {e:Nat} {Post:Value→World→Prop} {pure:List (Nat×Value)} {ss:List Nat}
theorem oneI_ind (he:e∈ss) (hp:∀p∈pure,p.1∈ss):∀L L' u u' W,(∀i∈ss,L i=L' i∧u i=u' i)→OneI S w1 e Post pure L u W→OneI S w1 e Post pure L' u' W:=by
 rintro L L' u u' W h ⟨h1,h2,h3,h4⟩
 obtain⟨a,b⟩:=h e he
 refine⟨h1,fun x=>h2 (a.trans x),fun x=>b ▸ h3 (a.trans x),fun p hp' x=>?_⟩
 obtain⟨c,d⟩:=h p.1 (hp p hp')
 exact d ▸ h4 p hp' (c.trans x)
theorem oneI_start (u:Nat→Value):OneI S w1 e Post pure (fun _=>false) u w1:=⟨Keep.refl _ _,fun _=>rfl,fun h=>absurd h (by simp),fun _ _ h=>absurd h (by simp)⟩
theorem oneI_eff {L:Nat→Bool} {u:Nat→Value} {W W':World} {v:Value} (h:OneI S w1 e Post pure L u W) (hp:∀p∈pure,p.1≠e) (hK:Keep S w1 W') (hv:Post v W'):OneI S w1 e Post pure (did1 L e) (updV u e v) W':=by
 obtain⟨_,_,_,h4⟩:=h
 refine⟨hK,fun x=>absurd x (by simp[did1]),fun _=>by simp only[updV,if_true];exact hv,fun p hp' x=>?_⟩
 have ne:=hp p hp'
 simp only[did1,if_neg ne]at x
 simp only[updV,if_neg ne]
 exact h4 p hp' x
theorem oneI_pure {L:Nat→Bool} {u:Nat→Value} {W:World} {v:Value} {i:Nat} (h:OneI S w1 e Post pure L u W) (hi:i≠e) (hv:∀p∈pure,p.1=i→v=p.2):OneI S w1 e Post pure (did1 L i) (updV u i v) W:=by
 obtain⟨h1,h2,h3,h4⟩:=h
 have hi':e≠i:=Ne.symm hi
 refine⟨h1,fun x=>h2 (by simpa [did1,hi']using x),fun x=>?_,fun p hp x=>?_⟩
 ·simp only[updV,if_neg hi']
  exact h3 (by simpa [did1,hi']using x)
 ·by_cases c:p.1=i
  ·simp only[updV,if_pos c];exact hv p hp c
  ·simp only[updV,if_neg c]
   simp only[did1,if_neg c]at x
   exact h4 p hp x
theorem oneI_pure' {L:Nat→Bool} {u:Nat→Value} {W:World} {v y:Value} {i:Nat} (h:OneI S w1 e Post pure L u W) (hi:i≠e) (hv:v=y) (hy:∀p∈pure,p.1=i→p.2=y):OneI S w1 e Post pure (did1 L i) (updV u i v) W:=
 oneI_pure h hi fun p hp c=>hv.trans (hy p hp c).symm
end
section
variable {n:Nat} {Q:Exit→Act→World→Prop} {K:Act→World→Prop} {a:Act} {W:World} {ops:Array Oper} {i:Nat} {o:Oper} {x:Operand}
theorem op_mv (hi:ops[i]?=some o) (hg:o.guard=none) (ho:o.op=.move x) (h:K (a.put o.dst (a.eval x)) W):wpOpIn NF n Tryz.prog ops Q i K a W:=
 op_val hi hg (by unfold Oper.about;rw[ho]) (w':=W) (x:=a.eval x) (by unfold execOp;rw[ho];rfl) h
theorem op_as (hi:ops[i]?=some o) (hg:o.guard=none) (ho:o.op=.assign x) (h:K (a.put o.dst (a.eval x)) W):wpOpIn NF n Tryz.prog ops Q i K a W:=
 op_val hi hg (by unfold Oper.about;rw[ho]) (w':=W) (x:=a.eval x) (by unfold execOp;rw[ho];rfl) h
theorem op_ex {vs:Array Value} {k:Nat} {v:Value} (hi:ops[i]?=some o) (hg:o.guard=none) (ho:o.op=.extract x k) (hx:a.eval x=.tuple vs) (hv:vs[k]?=some v) (h:K (a.put o.dst v) W):wpOpIn NF n Tryz.prog ops Q i K a W:=
 op_val hi hg (by unfold Oper.about;rw[ho]) (w':=W) (x:=v) (by unfold execOp;rw[ho];simp only[hx];simp[Instr.extract,hv]) h
end
section
variable (m:Nat) (w:World)
theorem find_hit (kb prb pb c:Nat) (hk:w.cell? ⟨kb,2,none⟩=some (.slice (some ⟨prb,0,none⟩) 1 c)) (hp:w.cell? ⟨prb,0,none⟩=some (.pointer (some ⟨pb,0,none⟩))) (h0:w.cell? ⟨pb,0,none⟩=some (.int .i64 1)):
  CallsIn NF m Tryz.prog 54 #[.pointer (some ⟨kb,0,none⟩),.int .i64 1] w fun e w'=>e=.returned (.pointer (some ⟨pb,0,none⟩))∧w'=w:=by
 gi_enter Tryz.func54,Tryz.ntmps54
 gi_wp2
 refine wpIn_loop_once ?_
 gi_wp2
 go_ret
 exact⟨by simp,rfl⟩
theorem find_miss (kb prb pb c:Nat) (pid:Int) (hpid:pid≠1) (hk:w.cell? ⟨kb,2,none⟩=some (.slice (some ⟨prb,0,none⟩) 1 c)) (hp:w.cell? ⟨prb,0,none⟩=some (.pointer (some ⟨pb,0,none⟩))) (h0:w.cell? ⟨pb,0,none⟩=some (.int .i64 1)):
  CallsIn NF m Tryz.prog 54 #[.pointer (some ⟨kb,0,none⟩),.int .i64 pid] w fun e w'=>e=.returned (.pointer none)∧w'=w:=by
 have hb:((1:Int)==pid)=false:=by simp[Ne.symm hpid]
 gi_enter Tryz.func54,Tryz.ntmps54
 gi_wp2
 gi_loop [12] (fun i=>∃k:Nat,k≤1∧i=.int .i64 k) (fun i=>1-(intOf i).toNat)
 case atStart=>exact⟨0,by omega,rfl⟩
 case round=>
  obtain⟨k,hk,rfl⟩:=hrel
  by_cases hlt:k<1
  ·obtain rfl:k=0:=by omega
   gi_wp2
   go_round
   case rel=>exact⟨1,by omega,by go_num⟩
   case measure=>simp[intOf]
  ·gi_wp2
   go_ret
   exact⟨by simp,rfl⟩
theorem find_none (kb c:Nat) (a:Option Addr) (pid:Int) (hk:w.cell? ⟨kb,2,none⟩=some (.slice a 0 c)):
  CallsIn NF m Tryz.prog 54 #[.pointer (some ⟨kb,0,none⟩),.int .i64 pid] w fun e w'=>e=.returned (.pointer none)∧w'=w:=by
 gi_enter Tryz.func54,Tryz.ntmps54
 gi_wp2
 refine wpIn_loop_once ?_
 gi_wp2
 go_ret
 exact⟨by simp,rfl⟩
theorem af8 (pb L c:Nat) (a:Option Addr) (h8:w.cell? ⟨pb,8,none⟩=some (.slice a L c)) (hL:L<1000000):
  CallsIn NF m Tryz.prog 58 #[.pointer (some ⟨pb,0,none⟩)] w fun e w'=>e=.returned (.int .i64 (nblk L))∧w'=w:=by
 gi_enter Tryz.func58,Tryz.ntmps58
 gi_wp2_with (gi_at_call 48;refine(of_calls _ _ L hL).mono ?_;rintro e w1 ⟨rfl,rfl⟩)
 go_ret
 exact⟨by simp,rfl⟩
theorem neq_nil:(binOp .neq 32 .nilFunc .nilFunc).run Tryz.prog w=.ok (.bool false) w:=by kernel_rfl
theorem state_ready (pb:Nat) (h2:w.cell? ⟨pb,2,none⟩=some (.bool false)) (h4:w.cell? ⟨pb,4,none⟩=some .nilFunc):
  CallsIn NF m Tryz.prog 55 #[.pointer (some ⟨pb,0,none⟩)] w fun e w'=>e=.returned (.int .i64 0)∧w'=w:=by
 have hq:=neq_nil w
 gi_enter Tryz.func55,Tryz.ntmps55
 gi_wp2
 refine⟨(fun f h=>by cases h),?_⟩
 gi_wp2
 go_ret
 exact⟨by simp,rfl⟩
end
def proc (A B P ib L fb:Nat) (co:Int):Obj:=prc 128 (.int .i64 1) (.int .i64 0) (.bool false) (.int .u16 0) .nilFunc A B P (.slice (some ⟨ib,0,none⟩) L L) (.slice (some ⟨fb,0,none⟩) 6 6) (.int .i64 0) (.int .i64 co)
def PostT (kb cb n N:Nat) (ks:Array Value) (v:Value) (W:World):Prop:=v=.tuple #[.int .i64 0,.bool true]∧∃v',W.heap[kb]?=some (.cells (ks.setIfInBounds 0 v') 114 (0,0))∧Took 186 v' W cb n N
section
variable (m:Nat) (w:World) (kb pb cb N A B P ib L fb:Nat) (ks:Array Value) (v:Value)
theorem bringIn_in (hp:w.heap[pb]?=some (proc A B P ib L fb 0)):CallsIn NF m Tryz.prog 53 #[.pointer (some ⟨kb,0,none⟩),.pointer (some ⟨pb,0,none⟩)] w fun e w'=>e=.returned (.tuple #[])∧w'=w:=by
 have q:w.cell? ⟨pb,11,none⟩=some (.int .i64 0):=by rw[aa0 hp];rfl
 gi_enter Tryz.func53,Tryz.ntmps53
 gi_wp2
 refine bodyPost_ret (results_none rfl _ _ _) rfl ?_
 exact⟨by simp,rfl⟩
set_option maxHeartbeats 4000000 in
theorem bringIn_out (hp:w.heap[pb]?=some (proc A B P ib L fb (-1))) (hk:w.heap[kb]?=some (.cells ks 114 (0,0))) (hs:ks[0]?=some v) (hf:Full 186 v w cb N) (hn:nblk L≤N) (hL:1≤L) (hL':L≤128) (hN:N≤500):
  CallsIn NF m Tryz.prog 53 #[.pointer (some ⟨kb,0,none⟩),.pointer (some ⟨pb,0,none⟩)] w fun e w'=>e=.returned (.tuple #[])∧Keep (fun b=>b=kb∨b=cb∨b=pb) w w'∧w'.heap[pb]?=some (proc A B P ib L fb 0)∧∃v',w'.heap[kb]?=some (.cells (ks.setIfInBounds 0 v') 114 (0,0))∧Took 186 v' w' cb (nblk L) N:=by
 have q:w.cell? ⟨pb,11,none⟩=some (.int .i64 (-1)):=by rw[aa0 hp];rfl
 have q8:w.cell? ⟨pb,8,none⟩=some (.slice (some ⟨ib,0,none⟩) L L):=by rw[aa0 hp];rfl
 have hpk:pb≠kb:=ac2 hp hk (by decide)
 have hpc:pb≠cb:=ac2 hp hf.2 (by decide)
 have n1:1≤nblk L:=by unfold nblk;omega
 gi_enter Tryz.func53,Tryz.ntmps53
 gi_wp2
 refine ag5 (P:=Tryz.prog) _ rfl rfl (by kernel_rfl) 10 57 [0,1,2,3,4] [5,6,7,8,9] (by kernel_rfl) (by rfl)
  (OneI (At2 kb cb) w.drew 5 (PostT kb cb (nblk L) N ks) [(6,.tuple #[.int .i64 0,.bool true]),(7,.int .i64 0),(8,.bool true),(9,.int .i64 0)]) (oneI_ind (by simp) (by simp)) _ _ rfl rfl ?_
 gi_wp2_with (gi_at_call 58;refine(af8 _ w.drew pb L L _ q8 (by omega)).mono ?_;rintro e w1 ⟨rfl,rfl⟩)
 refine⟨rfl,by kernel_rfl,oneI_start,?_,?_,?_⟩
 ·intro L' u W hI
  have d8:=(hI.1.cell (w:=w.drew) (p:=⟨pb,8,none⟩) (ab2 hp) (by rintro(h|h)<;>contradiction)).trans q8
  repeat' (refine aa8 ?_ ?_)
  all_goals first|exact trivial|gi_wp2_with (gi_at_call 58;refine(af8 _ W pb L L _ d8 (by omega)).mono ?_;rintro e w1 ⟨rfl,rfl⟩)
 ·intro i hi L' u W hI hLi hu
  rcases(by simpa using hi:i=5∨i=6∨i=7∨i=8∨i=9)with rfl|rfl|rfl|rfl|rfl
  ·obtain rfl:=hI.2.1 hLi
   refine ac4 rfl fun KK hKK=>?_
   show wpListIn NF m Tryz.prog _ _ _ (Act.put (Act.put (Act.put (Act.put (Act.put _ (some 18) (u 5)) (some 12) (u 6)) (some 19) (u 7)) (some 20) (u 8)) (some 4) (u 9)) _
   gi_wp2_with fail
   refine(takeC_full _ w.drew kb cb (nblk L) N ks v hk hs hf n1 hn hN).mono ?_
   rintro e w1 ⟨rfl,hK1,v',h1,h2⟩
   gi_wp2
   exact⟨_,rfl,oneI_eff hI (by simp) hK1 ⟨rfl,v',h1,h2⟩⟩
  ·have e5:=(hI.2.2.1 (hu 5 (by simp) (by decide))).1
   exact op_mv rfl rfl rfl ⟨_,rfl,oneI_pure' hI (by decide) e5 (by simp)⟩
  ·have e6:=hI.2.2.2 (6,.tuple #[.int .i64 0,.bool true]) (by simp) (hu 6 (by simp) (by decide))
   exact op_ex rfl rfl rfl e6 rfl ⟨_,rfl,oneI_pure hI (by decide) (by simp)⟩
  ·have e6:=hI.2.2.2 (6,.tuple #[.int .i64 0,.bool true]) (by simp) (hu 6 (by simp) (by decide))
   exact op_ex rfl rfl rfl e6 rfl ⟨_,rfl,oneI_pure hI (by decide) (by simp)⟩
  ·have e7:=hI.2.2.2 (7,.int .i64 0) (by simp) (hu 7 (by simp) (by decide))
   exact op_as rfl rfl rfl ⟨_,rfl,oneI_pure' hI (by decide) e7 (by simp)⟩
 ·intro L' u W hI hL
  obtain⟨e5,v',h1,h2⟩:=hI.2.2.1 (hL 5 (by simp))
  have e8:=hI.2.2.2 (8,.bool true) (by simp) (hL 8 (by simp))
  have e9:=hI.2.2.2 (9,.int .i64 0) (by simp) (hL 9 (by simp))
  have e6:=hI.2.2.2 (6,.tuple #[.int .i64 0,.bool true]) (by simp) (hL 6 (by simp))
  have e7:=hI.2.2.2 (7,.int .i64 0) (by simp) (hL 7 (by simp))
  simp only at e6 e7 e8 e9
  show wpListIn NF m Tryz.prog _ _ _ (Act.put (Act.put (Act.put (Act.put (Act.put _ (some 18) (u 5)) (some 12) (u 6)) (some 19) (u 7)) (some 20) (u 8)) (some 4) (u 9)) _
  rw[e5,e6,e7,e8,e9]
  have hp':=hI.1.old (w:=w.drew) hp (by rintro(h|h)<;>contradiction)
  have f11:=ab3 hp' 11
  have c11:W.cell? ⟨pb,11,none⟩=some (.int .i64 (-1)):=by rw[aa0 hp'];rfl
  gi_wp2
  refine wpIn_loop_once ?_
  gi_wp2
  go_end0
  exact⟨by simp,((Keep.refl _ w).drew.trans hI.1 (by rintro k _ (h|h);exact .inl h;exact .inr (.inl h))).setCell _ (fun _=>.inr (.inr rfl)),(aa2 hp' _).trans rfl,v',(af4 _ hpk.symm).trans h1,h2.keep (Keep.set1 _) (fun h=>hpc h.symm)⟩
end
end Go.Fxa
