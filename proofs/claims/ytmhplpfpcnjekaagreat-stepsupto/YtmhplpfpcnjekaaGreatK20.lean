/- Processes go out of the core, are forgotten. A process ends. Answers, events, copies of words. Calls are served. A kernel of one process in memory; what its process does, step by step. -/
import Derived.Test.YtmhplpfpcnjekaaGreatK19
import Derived.Laws.EntriesVeiled
namespace Go.Fxa
open Go.Conc
open Go.Proofs
open Go.RowKit
set_option maxRecDepth 1000000
section
variable (m:Nat) (w:World)
set_option maxHeartbeats 4000000 in
theorem takeOut_in (kb pb cb N A B P ib L fb:Nat) (ks:Array Value) (v:Value) (hp:w.heap[pb]?=some (proc A B P ib L fb 0)) (hk:w.heap[kb]?=some (.cells ks 114 (0,0))) (hs:ks[0]?=some v) (hf:Took 186 v w cb (nblk L) N) (hL:1≤L) (hL':L≤128) (hN:N≤500) (hpc:pb≠cb):
  CallsIn NF m Tryz.prog 52 #[.pointer (some ⟨kb,0,none⟩),.pointer (some ⟨pb,0,none⟩)] w fun e w'=>e=.returned (.tuple #[])∧Keep (fun b=>b=kb∨b=cb∨b=pb) w w'∧w'.heap[pb]?=some (proc A B P ib L fb (-1))∧∃v',w'.heap[kb]?=some (.cells (ks.setIfInBounds 0 v') 114 (0,0)):=by
 have q:w.cell? ⟨pb,11,none⟩=some (.int .i64 0):=by rw[aa0 hp];rfl
 have q8:w.cell? ⟨pb,8,none⟩=some (.slice (some ⟨ib,0,none⟩) L L):=by rw[aa0 hp];rfl
 have hpk:pb≠kb:=ac2 hp hk (by decide)
 have n1:1≤nblk L:=by unfold nblk;omega
 gi_enter Tryz.func52,Tryz.ntmps52
 gi_wp2
 refine aa9 (P:=Tryz.prog) No _ rfl rfl (by kernel_rfl) 9 22 [0,1,2,3,4,5,6,7,8] [] (by kernel_rfl) (by rfl) (fun _ _ _=>True) (fun _ _ _ _ _ h _=>h) _ _ rfl rfl ?_
 gi_wp2_with (gi_at_call 58;refine(af8 _ w.drew pb L L _ q8 (by omega)).mono ?_;rintro e w1 ⟨rfl,rfl⟩)
 refine⟨rfl,by kernel_rfl,?_,(fun i hi=>absurd hi (by simp)),?_⟩
 ·intro W hK
  have d11:=hK.has (w:=w.drew) q
  have d8:=hK.has (w:=w.drew) q8
  repeat' (refine aa8 ?_ ?_)
  all_goals first|exact trivial|gi_wp2_with (gi_at_call 58;refine(af8 _ W pb L L _ d8 (by omega)).mono ?_;rintro e w1 ⟨rfl,rfl⟩)
 ·intro u W hK _
  simp only[putS]
  have hk':=hK.old (w:=w.drew) hk id
  have hp':=hK.old (w:=w.drew) hp id
  gi_wp2_with fail
  refine(giveC_took _ W kb cb (nblk L) N ks v hk' hs (hf.keep (w:=w.drew) hK id) n1 hN).mono ?_
  rintro e w2 ⟨rfl,hK2,v',h2⟩
  have hp2:=hK2.old hp' (by rintro(h|h)<;>contradiction)
  have f11:=ab3 hp2 11
  have c11:w2.cell? ⟨pb,11,none⟩=some (.int .i64 0):=by rw[aa0 hp2];rfl
  gi_wp2
  go_end0
  exact⟨by simp,((((Keep.refl _ w).drew.then hK.no).trans hK2 (by rintro k _ (h|h);exact .inl h;exact .inr (.inl h)))).setCell _ (fun _=>.inr (.inr rfl)),(aa2 hp2 _).trans rfl,v',(af4 _ hpk.symm).trans h2⟩
theorem indexP_hit (prb pb c:Nat) (hp:w.cell? ⟨prb,0,none⟩=some (.pointer (some ⟨pb,0,none⟩))) (h1:w.cell? ⟨pb,1,none⟩=some (.int .i64 0)) (h2:w.cell? ⟨pb,2,none⟩=some (.bool true)):
  CallsIn NF m Tryz.prog 238 #[.slice (some ⟨prb,0,none⟩) 1 c,.func (.func 213) #[] #[]] w fun e w'=>e=.returned (.int .i64 0)∧Keep No w w':=by
 gi_enter Tryz.func238,Tryz.ntmps238
 gi_wp2
 refine wpIn_loop_once ?_
 gi_wp2_with gi_in
 go_ret
 exact⟨by simp,by repeat (first|exact Keep.refl _ _|refine Keep.drew ?_|refine Keep.alloc ?_ _)⟩
theorem clearP {w:World} {prb c:Nat} {u:Value} (h:w.cell? ⟨prb,0,none⟩=some u) (hf:w.frozen? ⟨prb,0,none⟩=false):(Builtin.clear_ #[100] 0 #[.slice (some ⟨prb,0,none⟩) 1 c]).run Tryz.prog w=.ok (.tuple #[]) (w.setCell ⟨prb,0,none⟩ (.pointer none)):=by
 have e:(Builtin.clear_ #[100] 0 #[.slice (some ⟨prb,0,none⟩) 1 c]).run Tryz.prog w=(Sem.store .plain ⟨prb,0,none⟩ (.pointer none) (.pure (.tuple #[]))).run Tryz.prog w:=by kernel_rfl
 rw[e,ad2 rfl h hf]
 rfl
theorem deleteP_one (prb pb c:Nat) (hc:1≤c) (hp:w.cell? ⟨prb,0,none⟩=some (.pointer (some ⟨pb,0,none⟩))) (hf:w.frozen? ⟨prb,0,none⟩=false) (h1:w.cell? ⟨pb,1,none⟩=some (.int .i64 0)) (h2:w.cell? ⟨pb,2,none⟩=some (.bool true)):
  CallsIn NF m Tryz.prog 212 #[.slice (some ⟨prb,0,none⟩) 1 c,.func (.func 213) #[] #[]] w fun e w'=>e=.returned (.slice (some ⟨prb,0,none⟩) 0 c)∧Keep (At prb) w w':=by
 gi_enter Tryz.func212,Tryz.ntmps212
 gi_wp2_with (gi_at_call 238;refine(indexP_hit _ _ prb pb c hp h1 h2).mono ?_;rintro e w1 ⟨rfl,hK⟩;have hcl:=clearP (c:=c) (hK.has hp) ((hK.frozen (World.block_lt_of_cell? _ _ hp) id).trans hf))
 refine wpIn_loop_once ?_
 gi_wp2
 go_ret
 exact⟨by simp,hK.no.setCell _ (fun _=>rfl)⟩
theorem bury_one (kb prb pb c:Nat) (ks:Array Value) (hc:1≤c) (hk:w.heap[kb]?=some (.cells ks 114 (0,0))) (hs:ks[2]?=some (.slice (some ⟨prb,0,none⟩) 1 c)) (hkp:kb≠prb) (hp:w.cell? ⟨prb,0,none⟩=some (.pointer (some ⟨pb,0,none⟩))) (hf:w.frozen? ⟨prb,0,none⟩=false) (h1:w.cell? ⟨pb,1,none⟩=some (.int .i64 0)) (h2:w.cell? ⟨pb,2,none⟩=some (.bool true)):
  CallsIn NF m Tryz.prog 158 #[.pointer (some ⟨kb,0,none⟩)] w fun e w'=>e=.returned (.tuple #[])∧Keep (At2 kb prb) w w'∧w'.heap[kb]?=some (.cells (ks.setIfInBounds 2 (.slice (some ⟨prb,0,none⟩) 0 c)) 114 (0,0)):=by
 have q:w.cell? ⟨kb,2,none⟩=some (.slice (some ⟨prb,0,none⟩) 1 c):=(aa0 hk _).trans hs
 gi_enter Tryz.func158,Tryz.ntmps158
 gi_wp2_with (gi_at_call 212;refine(deleteP_one _ _ prb pb c hc hp hf h1 h2).mono ?_;rintro e w1 ⟨rfl,hK⟩;have hk1:=hK.old hk hkp;have c2:=(aa0 hk1 2).trans hs;have f2:=ab3 hk1 2)
 go_end0
 exact⟨by simp,(hK.mono (fun _ _ h=>.inr h)).setCell _ (fun _=>.inl rfl),aa2 hk1 _⟩
theorem orphan_one (kb prb pb c:Nat) (q:w.cell? ⟨kb,2,none⟩=some (.slice (some ⟨prb,0,none⟩) 1 c)) (hp:w.cell? ⟨prb,0,none⟩=some (.pointer (some ⟨pb,0,none⟩))) (h0:w.cell? ⟨pb,0,none⟩=some (.int .i64 1)) (h1:w.cell? ⟨pb,1,none⟩=some (.int .i64 0)) (h2:w.cell? ⟨pb,2,none⟩=some (.bool true)):
  CallsIn NF m Tryz.prog 157 #[.pointer (some ⟨kb,0,none⟩),.pointer (some ⟨pb,0,none⟩)] w fun e w'=>e=.returned (.tuple #[])∧Keep No w w':=by
 gi_enter Tryz.func157,Tryz.ntmps157
 gi_wp2_with (gi_at_call 54;refine(find_hit _ w kb prb pb c q hp h0).mono ?_;rintro e w1 ⟨rfl,hw⟩;have hw:=hw.symm;subst hw)
 gi_loopw [24] (fun i wr=>∃k:Nat,k≤1∧i=.int .i64 k∧Keep No w wr) (fun i _=>1-(intOf i).toNat)
 case atStart=>exact⟨0,by omega,rfl,Keep.refl _ _⟩
 case round=>
  obtain⟨k,hk,rfl,hK⟩:=hrel
  by_cases hlt:k<1
  ·obtain rfl:k=0:=by omega
   have d0:=hK.has h0
   have d1:=hK.has h1
   have d2:=hK.has hp
   gi_wp2
   gi_region
   all_goals gi_wp2
   all_goals go_roundw
   all_goals first|exact⟨1,by omega,by go_num,hK.drew⟩|simp[intOf]
  ·gi_wp2
   go_end0
   exact⟨by simp,hK⟩
end
def dead (st:Nat):Obj:=prc 128 (.int .i64 1) (.int .i64 0) (.bool true) (.int .u16 st) .nilFunc 0 0 0 (.slice none 0 0) (.slice none 0 0) (.int .i64 0) (.int .i64 (-1))
def stores {α:Type} (b:Nat):Nat→List Value→Sem α→Sem α
 | _,[],k=>k
 | i,v::vs,k=>.store .plain ⟨b,i,none⟩ v (stores b (i+1) vs k)
def am7 (cs:Array Value):Nat→List Value→Array Value
 | _,[]=>cs
 | i,v::vs=>am7 (cs.setIfInBounds i v) (i+1) vs
theorem al1 {P:Program} {α:Type} {b:Nat} {T:TypeId} {k:Sem α}:∀(vs:List Value) (i:Nat) (cs:Array Value) (w:World),w.heap[b]?=some (.cells cs T (0,0))→i+vs.length≤cs.size→(∀v∈vs,v.oneCell'=true)→
  ∃w',(stores b i vs k).run P w=k.run P w'∧Keep (At b) w w'∧w'.heap[b]?=some (.cells (am7 cs i vs) T (0,0))
 | [],i,cs,w,h,_,_=>⟨w,rfl,Keep.refl _ _,h⟩
 | v::vs,i,cs,w,h,hl,ho=>by
  simp only[List.length_cons]at hl
  have hc:w.cell? ⟨b,i,none⟩=some cs[i]:=by rw[aa0 h];simp
  obtain⟨w',h1,h2,h3⟩:=al1 (P:=P) (k:=k) vs (i+1) _ _ (aa2 (i:=i) h v) (by simp;omega) (fun x hx=>ho x (List.mem_cons_of_mem _ hx))
  refine⟨w',?_,(Keep.set1 v).then h2,h3⟩
  unfold stores
  rw[ad2 (ho v (List.mem_cons_self ..)) hc (ab3 h i)]
  exact h1
theorem af2 {F:Fence} {n:Nat} {P:Program} {w w':World} {ops:Array Oper} {rest:List Oper} {o:Oper} {a:Act} {Q:Exit→Act→World→Prop} (hg:o.guard=none) (s y:Operand) (t:TypeId) (hop:o.op=Op.store t s y) {v x:Value} (hs:a.eval s=v) (hy:a.eval y=x)
  (hrun:(Instr.storeAt t v x).run P w=.ok () w') (hK:wpListIn F n P ops Q rest (a.put o.dst undef) w'):wpListIn F n P ops Q (o::rest) a w:=by
 refine wpListIn_plain hg fun K hK'=>?_
 unfold Oper.wpIn
 refine⟨?_,?_⟩
 ·simp[Oper.about,hop]
 ·rw[Oper.semAt_plain F _ _ (by rw[hop];intro c hc';cases hc')]
  simp[execOp,hop,hs,hy,hrun,Result.andThen]
  exact hK' _ _ hK
def Five (a b c d e:Nat):Nat→Prop:=fun k=>k=a∨k=b∨k=c∨k=d∨k=e
section
variable (m:Nat) (w:World)
def deadV (st:Nat):Array Value:=#[.int .i64 1,.int .i64 0,.bool true,.int .u16 st,.nilFunc,.int .u16 0,.int .u16 0,.int .u16 0,.slice none 0 0,.slice none 0 0,.int .i64 0,.int .i64 (-1)]
theorem build_dead (st:Nat):(Instr.build 128 #[(0,.int .i64 1),(1,.int .i64 0),(2,.bool true),(3,.int .u16 st),(8,.int .i64 (-1))]).run Tryz.prog w=.ok (.agg (deadV st)) w:=by kernel_rfl
theorem store_dead {w:World} {pb:Nat} {A B P ib L fb st:Nat} {co:Int} (h:w.heap[pb]?=some (proc A B P ib L fb co)):∃w',(Instr.storeAt 128 (.pointer (some ⟨pb,0,none⟩)) (.agg (deadV st))).run Tryz.prog w=.ok () w'∧Keep (At pb) w w'∧w'.heap[pb]?=some (dead st):=by
 have e:(Instr.storeAt 128 (.pointer (some ⟨pb,0,none⟩)) (.agg (deadV st))).run Tryz.prog w=(stores pb 0 (deadV st).toList (.pure ())).run Tryz.prog w:=by kernel_rfl
 obtain⟨w',h1,h2,h3⟩:=al1 (P:=Tryz.prog) (k:=Sem.pure ()) (deadV st).toList 0 _ w h (by simp[deadV]) (by simp[deadV,Value.oneCell'])
 refine⟨w',?_,h2,?_⟩
 ·rw[e,h1];rfl
 ·rw[h3];simp[am7,deadV,dead,prc]
theorem store_ans {w:World} {rb:Nat} {a b c:Value} {x y:Int} (h:w.heap[rb]?=some (.cells #[a,b,c] 206 (0,0))):∃w',(Instr.storeAt 206 (.pointer (some ⟨rb,0,none⟩)) (.agg #[.int .u16 x,.int .u16 y,.nilFunc])).run Tryz.prog w=.ok () w'∧Keep (At rb) w w'∧w'.heap[rb]?=some (.cells #[.int .u16 x,.int .u16 y,.nilFunc] 206 (0,0)):=by
 have e:(Instr.storeAt 206 (.pointer (some ⟨rb,0,none⟩)) (.agg #[.int .u16 x,.int .u16 y,.nilFunc])).run Tryz.prog w=(stores rb 0 [.int .u16 x,.int .u16 y,.nilFunc] (.pure ())).run Tryz.prog w:=by kernel_rfl
 obtain⟨w',h1,h2,h3⟩:=al1 (P:=Tryz.prog) (k:=Sem.pure ()) [.int .u16 x,.int .u16 y,.nilFunc] 0 _ w h (by simp) (by simp[Value.oneCell'])
 refine⟨w',?_,h2,?_⟩
 ·rw[e,h1];rfl
 ·rw[h3];simp[am7]
set_option maxHeartbeats 8000000 in
theorem end_calls (kb prb pc pb cb sb N M A B P ib L fb st:Nat) (ks prs:Array Value) (v0 v1:Value) (hp:w.heap[pb]?=some (proc A B P ib L fb 0)) (hk:w.heap[kb]?=some (.cells ks 114 (0,0))) (hs0:ks[0]?=some v0) (hs1:ks[1]?=some v1) (hs2:ks[2]?=some (.slice (some ⟨prb,0,none⟩) 1 pc)) (hpc:1≤pc)
  (hr:w.heap[prb]?=some (.cells prs 119 (0,0))) (hr0:prs[0]?=some (.pointer (some ⟨pb,0,none⟩))) (hf0:Took 186 v0 w cb (nblk L) N) (hf1:Took 188 v1 w sb (nblk L) M) (hfd:∀i,i<6→w.cell? ⟨fb,i,none⟩=some (.int .i64 (-1))) (hL:1≤L) (hL':L≤128) (hN:N≤500) (hM:M≤500)
  (hcb:∃cs,w.heap[cb]?=some (.cells cs 186 (0,0))) (hsb:∃cs,w.heap[sb]?=some (.cells cs 188 (0,0))):
  CallsIn NF m Tryz.prog 100 #[.pointer (some ⟨kb,0,none⟩),.pointer (some ⟨pb,0,none⟩),.int .u16 st] w fun e w'=>e=.returned (.agg #[.int .u16 st,.int .u16 0,.nilFunc])∧Keep (Five kb prb pb cb sb) w w'∧w'.heap[pb]?=some (dead st)∧∃ks',w'.heap[kb]?=some (.cells ks' 114 (0,0))∧ks'[2]?=some (.slice (some ⟨prb,0,none⟩) 0 pc):=by
 obtain⟨ccs,hcb⟩:=hcb
 obtain⟨scs,hsb⟩:=hsb
 have hpk:pb≠kb:=ac2 hp hk (by decide)
 have hpr:pb≠prb:=ac2 hp hr (by decide)
 have hkr:kb≠prb:=ac2 hk hr (by decide)
 have hpcb:pb≠cb:=ac2 hp hcb (by decide)
 have hpsb:pb≠sb:=ac2 hp hsb (by decide)
 have hksb:kb≠sb:=ac2 hk hsb (by decide)
 have hcs:cb≠sb:=ac2 hcb hsb (by decide)
 have hrcb:prb≠cb:=ac2 hr hcb (by decide)
 have hrsb:prb≠sb:=ac2 hr hsb (by decide)
 have n1:1≤nblk L:=by unfold nblk;omega
 have q9:w.cell? ⟨pb,9,none⟩=some (.slice (some ⟨fb,0,none⟩) 6 6):=by rw[aa0 hp];rfl
 have lp:=ab2 hp
 gi_enter Tryz.func100,Tryz.ntmps100
 have K0:Keep No w (w.alloc (.cells #[.int .u16 0,.int .u16 0,.nilFunc] 206)):=(Keep.refl _ _).alloc _
 have r9:=K0.has q9
 have rb:(w.alloc (.cells #[.int .u16 0,.int .u16 0,.nilFunc] 206)).heap[w.heap.size]?=some (.cells #[.int .u16 0,.int .u16 0,.nilFunc] 206 (0,0)):=aa4 rfl
 gi_wp2
 generalize hw0:w.alloc (.cells #[.int .u16 0,.int .u16 0,.nilFunc] 206)=w0 at*
 gi_loop [14] (fun i=>∃k:Nat,k≤6∧i=.int .i64 k) (fun i=>6-(intOf i).toNat)
 case atStart=>exact⟨0,by omega,rfl⟩
 case round=>
  obtain⟨k,hk6,rfl⟩:=hrel
  by_cases hlt:k<6
  ·have d:=K0.has (hfd k hlt)
   gi_wp2
   go_round
   case rel=>exact⟨k+1,by omega,by go_num⟩
   case measure=>simp[intOf];omega
  ·gi_wp2_with fail
   refine(takeOut_in _ w0 kb pb cb N A B P ib L fb ks v0 (K0.old hp id) (K0.old hk id) hs0 (hf0.keep K0 id) hL hL' hN hpcb).mono ?_
   rintro e w1 ⟨rfl,K1,p1,x0,k1⟩
   have r1:=K1.old (K0.old hr id) (by rintro(h|h|h)<;>omega)
   have b1:=K1.old rb (by have:=ab2 hk;have:=ab2 hcb;rintro(h|h|h)<;>omega)
   have t1:Took 188 v1 w1 sb (nblk L) M:=(hf1.keep K0 id).keep K1 (by rintro(h|h|h)<;>omega)
   have q8:w1.cell? ⟨pb,8,none⟩=some (.slice (some ⟨ib,0,none⟩) L L):=by rw[aa0 p1];rfl
   have q10:w1.cell? ⟨pb,10,none⟩=some (.int .i64 0):=by rw[aa0 p1];rfl
   have s1:(ks.setIfInBounds 0 x0)[1]?=some v1:=(ac0 (by decide)).trans hs1
   have s2:(ks.setIfInBounds 0 x0)[2]?=some (.slice (some ⟨prb,0,none⟩) 1 pc):=(ac0 (by decide)).trans hs2
   have KK1:Keep (Five kb prb pb cb sb) w w1:=K0.no.trans K1 (by rintro k _ (h|h|h);exact .inl h;exact .inr (.inr (.inr (.inl h)));exact .inr (.inr (.inl h)))
   clear K0 K1 hfd hf0 hf1 rb
   gi_wp2
   refine aa9 (P:=Tryz.prog) No _ rfl rfl (by kernel_rfl) 9 58 [0,1,2,3,4,5,6,7,8] [] (by kernel_rfl) (by rfl) (fun _ _ _=>True) (fun _ _ _ _ _ h _=>h) _ _ rfl rfl ?_
   gi_wp2_with (gi_at_call 58;refine(af8 _ w1.drew pb L L _ q8 (by omega)).mono ?_;rintro e w1 ⟨rfl,rfl⟩)
   refine⟨rfl,by kernel_rfl,?_,(fun i hi=>absurd hi (by simp)),?_⟩
   ·intro W hK
    have d10:=hK.has (w:=w1.drew) q10
    have d8:=hK.has (w:=w1.drew) q8
    repeat' (refine aa8 ?_ ?_)
    all_goals first|exact trivial|gi_wp2_with (gi_at_call 58;refine(af8 _ W pb L L _ d8 (by omega)).mono ?_;rintro e w1 ⟨rfl,rfl⟩)
   ·intro u W hK _
    simp only[putS]
    have k2:=hK.old (w:=w1.drew) k1 id
    have p2:=hK.old (w:=w1.drew) p1 id
    gi_wp2_with fail
    refine(giveS_took _ W kb sb (nblk L) M _ v1 k2 s1 (t1.keep (w:=w1.drew) hK id) n1 hM).mono ?_
    rintro e w3 ⟨rfl,K3,x1,k3⟩
    have p3:=K3.old p2 (by rintro(h|h)<;>omega)
    have r3:=K3.old (hK.old (w:=w1.drew) r1 id) (by rintro(h|h)<;>omega)
    have b3:=K3.old (hK.old (w:=w1.drew) b1 id) (by have:=ab2 hk;have:=ab2 hsb;rintro(h|h)<;>omega)
    have s3:((ks.setIfInBounds 0 x0).setIfInBounds 1 x1)[2]?=some (.slice (some ⟨prb,0,none⟩) 1 pc):=(ac0 (by decide)).trans s2
    have KK3:Keep (Five kb prb pb cb sb) w w3:=(KK1.drew.then hK.no).trans K3 (by rintro k _ (h|h);exact .inl h;exact .inr (.inr (.inr (.inr h))))
    clear KK1 hK K3 k2 p2 k1 p1 r1 b1 t1 q8 q10
    have c0:w3.cell? ⟨pb,0,none⟩=some (.int .i64 1):=by rw[aa0 p3];rfl
    have c1:w3.cell? ⟨pb,1,none⟩=some (.int .i64 0):=by rw[aa0 p3];rfl
    gi_wp2
    refine aa9 (P:=Tryz.prog) No _ rfl rfl (by kernel_rfl) 11 58 [0,1,2,3,4,5,6,7,8,9,10] [] (by kernel_rfl) (by rfl) (fun _ _ _=>True) (fun _ _ _ _ _ h _=>h) _ _ rfl rfl ?_
    have hbd:=build_dead w3.drew st
    unfold deadV at hbd
    gi_wp2
    refine⟨rfl,by kernel_rfl,?_,(fun i hi=>absurd hi (by simp)),?_⟩
    ·intro W hK
     have d0:=hK.has (w:=w3.drew) c0
     have d1:=hK.has (w:=w3.drew) c1
     have hbd:=build_dead W st
     unfold deadV at hbd
     repeat' (refine aa8 ?_ ?_)
     all_goals first|exact trivial|gi_wp2
    ·intro u W hK _
     simp only[putS]
     have p4:=hK.old (w:=w3.drew) p3 id
     obtain⟨w5,hst,K5,p5⟩:=store_dead (st:=st) p4
     unfold deadV at hst
     have KK5:Keep (Five kb prb pb cb sb) w w5:=(KK3.drew.then hK.no).trans K5 (by rintro k _ h;exact .inr (.inr (.inl h)))
     have k5:=K5.old (hK.old (w:=w3.drew) k3 id) hpk.symm
     have r5:=K5.old (hK.old (w:=w3.drew) r3 id) hpr.symm
     have b5:=K5.old (hK.old (w:=w3.drew) b3 id) (by intro h;have:w.heap.size=pb:=h;omega)
     clear KK3 hK K5 p4 p3 k3 r3 b3 c0 c1 hbd
     gi_wp2_with (refine af2 rfl (.tmp 50) (.tmp 49) 128 rfl rfl rfl hst ?_)
     have g0:w5.cell? ⟨pb,0,none⟩=some (.int .i64 1):=by rw[aa0 p5];rfl
     have g1:w5.cell? ⟨pb,1,none⟩=some (.int .i64 0):=by rw[aa0 p5];rfl
     have g2:w5.cell? ⟨pb,2,none⟩=some (.bool true):=by rw[aa0 p5];rfl
     have gr:w5.cell? ⟨prb,0,none⟩=some (.pointer (some ⟨pb,0,none⟩)):=(aa0 r5 0).trans hr0
     have gk:w5.cell? ⟨kb,2,none⟩=some (.slice (some ⟨prb,0,none⟩) 1 pc):=(aa0 k5 2).trans s3
     refine(orphan_one _ w5 kb prb pb pc gk gr g0 g1 g2).mono ?_
     rintro e w6 ⟨rfl,K6⟩
     gi_wp2_with fail
     refine(bury_one _ w6 kb prb pb pc _ hpc (K6.old k5 id) s3 hkr (K6.has gr) (ab3 (K6.old r5 id) 0) (K6.has g1) (K6.has g2)).mono ?_
     rintro e w7 ⟨rfl,K7,k7⟩
     have b7:=K7.old (K6.old b5 id) (by have:=ab2 hk;have:=ab2 hr;rintro(h|h)<;>omega)
     have p7:=K7.old (K6.old p5 id) (by rintro(h|h)<;>omega)
     obtain⟨w8,hst8,K8,b8⟩:=store_ans (x:=st) (y:=0) b7
     gi_wp2_with (refine af2 rfl (.tmp 6) (.tmp 57) 206 rfl rfl rfl hst8 ?_)
     have c80:w8.cell? ⟨w.heap.size,0,none⟩=some (.int .u16 st):=by rw[aa0 b8];rfl
     have c81:w8.cell? ⟨w.heap.size,1,none⟩=some (.int .u16 0):=by rw[aa0 b8];rfl
     have c82:w8.cell? ⟨w.heap.size,2,none⟩=some .nilFunc:=by rw[aa0 b8];rfl
     refine bodyPost_ret (v:=.agg #[.int .u16 st,.int .u16 0,.nilFunc]) (by simp[results,Tryz.results100,go_sem,c80,c81,c82]) rfl ?_
     have ne:∀x,x<w.heap.size→¬At w.heap.size x:=fun x hx h=>absurd hx (by rw[show x=w.heap.size from h];exact Nat.lt_irrefl _)
     exact⟨rfl,(((KK5.then K6.no).trans K7 (by rintro k _ (h|h);exact .inl h;exact .inr (.inl h)))).trans K8 (fun k hk h=>absurd h (ne k hk)),K8.old p7 (ne _ lp),_,K8.old k7 (ne _ (ab2 hk)),aj6 s3⟩
end
section
variable (m:Nat) (w:World)
theorem wrong_calls (x:Nat):CallsIn NF m Tryz.prog 140 #[.int .u16 x] w fun e w'=>e=.returned (.agg #[.int .u16 0,.int .u16 x,.nilFunc])∧Keep No w w':=by
 gi_enter Tryz.func140,Tryz.ntmps140
 gi_wp2
 refine bodyPost_ret (v:=.agg #[.int .u16 0,.int .u16 x,.nilFunc]) (by simp[results,Tryz.results140,go_sem]) rfl ?_
 exact⟨rfl,by repeat (first|exact Keep.refl _ _|refine Keep.drew ?_|refine Keep.alloc ?_ _)⟩
theorem result_calls (x:Nat) (hx:x<65536):CallsIn NF m Tryz.prog 152 #[.int .i64 x] w fun e w'=>e=.returned (.agg #[.int .u16 x,.int .u16 0,.nilFunc])∧Keep No w w':=by
 gi_enter Tryz.func152,Tryz.ntmps152
 gi_wp2
 refine bodyPost_ret (v:=.agg #[.int .u16 x,.int .u16 0,.nilFunc]) (by simp[results,Tryz.results152,go_sem]) rfl ?_
 exact⟨rfl,by repeat (first|exact Keep.refl _ _|refine Keep.drew ?_|refine Keep.alloc ?_ _)⟩
theorem eqn116 {ad:Addr} {n c:Nat}:(binOp .eql 116 (.slice (some ad) n c) (.slice none 0 0)).run Tryz.prog w=.ok (.bool false) w:=by kernel_rfl
theorem eqz116:(binOp .eql 116 (.slice none 0 0) (.slice none 0 0)).run Tryz.prog w=.ok (.bool true) w:=by kernel_rfl
theorem clone_nil:CallsIn NF m Tryz.prog 141 #[.slice none 0 0] w fun e w'=>e=.returned (.slice none 0 0)∧Keep No w w':=by
 have hq:=eqz116 w
 gi_enter Tryz.func141,Tryz.ntmps141
 gi_wp2
 go_ret
 exact⟨by simp,Keep.refl _ _⟩
theorem info123:(Tryz.prog.info? 123).map (fun i=>(i.zero,i.size,i.bytes))=some (some (.int .u16 0),1,2):=by kernel_rfl
theorem ae7 {w w':World} {row:Option Nat} {S:Nat→Prop} (h:w.grownBy w' row) (hr:∀k,row=some k→k<w.heap.size→S k):Keep S w w':=⟨h.os,h.output,h.size,fun k hk hn=>h.block k hk fun e=>hn (hr k e.symm hk)⟩
theorem owns_empty {w:World} {e:TypeId} {size:Nat}:(w.alloc (.cells #[] e)).ownsRow w.heap.size e size (.slice (some ⟨w.heap.size,0,none⟩) 0 0) 0 []:=
 ⟨by simp,.inr ⟨w.heap.size,0,#[],rfl,Nat.le_refl _,aa4 rfl,Nat.le_refl _,Nat.zero_le _,by simp,by simp⟩⟩
theorem af0 {w:World} {base base':Nat} {e:TypeId} {size:Nat} {v:Value} {n:Nat} {xs:List Value} (h:w.ownsRow base e size v n xs) (hb:base'≤base):w.ownsRow base' e size v n xs:=by
 obtain⟨h1,h2⟩:=h
 refine⟨h1,?_⟩
 rcases h2 with h2|⟨g,cap,cur,a,b,c⟩
 ·exact .inl h2
 ·exact .inr ⟨g,cap,cur,a,Nat.le_trans hb b,c⟩
theorem clone_words (ad:Addr) (n c:Nat) (xs:List Value) (hl:xs.length=n) (hc:∀j u,xs[j]?=some u→w.cell? (ad.add j)=some u) (h1:∀u∈xs,u.oneCell'=true) (hn:n≤1000):CallsIn NF m Tryz.prog 141 #[.slice (some ad) n c] w fun e w'=>Keep No w w'∧∃v,e=.returned v∧w'.ownsRow w.heap.size 123 1 v n xs:=by
 obtain⟨i0,hi,hz0,hz1,hz2⟩:=info_parts info123
 have hq:=eqn116 w (ad:=ad) (n:=n) (c:=c)
 gi_enter Tryz.func141,Tryz.ntmps141
 gi_wp2_with (gi_at_builtin;refine wpListIn_append_own _ rfl (.tmp 5) (.tmp 6) 116 rfl w.heap.size 123 i0 (.int .u16 0) 1 2 Tryz.underlying116 hi hz0 hz1 hz2 rfl (by decide) _ 0 [] rfl owns_empty ad n c xs rfl (by omega) (fun j u hj=>((Keep.refl No w).alloc _).has (hc j u hj)) h1 (by unfold maxLen;omega) (by omega) (by simp) ?_;intro v' w1 hown hgrow _)
 go_ret
 refine⟨((Keep.refl No w).alloc (.cells #[] 123)).trans (ae7 (S:=At w.heap.size) hgrow (fun k h _=>(Option.some.inj (show some w.heap.size=some k from h)).symm)) (fun k hk h=>absurd hk (by rw[show k=w.heap.size from h];exact Nat.lt_irrefl _)),v',rfl,?_⟩
 simpa using hown
set_option maxHeartbeats 1000000 in
theorem event_calls (pb call r x:Nat) (h0:w.cell? ⟨pb,0,none⟩=some (.int .i64 1)) (hc:call<65536) (hr:r<65536) (hx:x<65536):CallsIn NF m Tryz.prog 98 #[.pointer (some ⟨pb,0,none⟩),.int .u16 call,.agg #[.int .u16 r,.int .u16 x,.nilFunc]] w fun e w'=>Keep No w w'∧e=.returned (.agg #[.int .i64 1,.int .i64 call,.int .i64 r,.int .i64 x]):=by
 have l0:=World.block_lt_of_cell? _ _ h0
 have K2:Keep No w ((w.alloc (.cells #[.int .u16 r,.int .u16 x,.nilFunc] 206)).alloc (.cells #[.int .i64 0,.int .i64 0,.int .i64 0,.int .i64 0] 59)):=((Keep.refl _ _).alloc _).alloc _
 have d0:=K2.has h0
 gi_enter Tryz.func98,Tryz.ntmps98
 gi_wp2
 gi_region
 all_goals gi_wp2
 all_goals refine bodyPost_ret (v:=.agg #[.int .i64 1,.int .i64 call,.int .i64 r,.int .i64 x]) (by simp[results,Tryz.results98,go_sem]) rfl ?_
 all_goals exact⟨by repeat (first|exact Keep.refl _ _|refine Keep.drew ?_|refine Keep.alloc ?_ _),rfl⟩
end
section
variable (m:Nat) (w:World)
set_option maxHeartbeats 8000000 in
theorem serve_pid (kb pb ib L c A:Nat) (h5:w.cell? ⟨pb,5,none⟩=some (.int .u16 A)) (h8:w.cell? ⟨pb,8,none⟩=some (.slice (some ⟨ib,0,none⟩) L c)) (h0:w.cell? ⟨pb,0,none⟩=some (.int .i64 1)):
  CallsIn NF m Tryz.prog 96 #[.pointer (some ⟨kb,0,none⟩),.pointer (some ⟨pb,0,none⟩),.int .u16 12] w fun e w'=>e=.returned (.agg #[.int .u16 1,.int .u16 0,.nilFunc])∧Keep No w w':=by
 gi_enter Tryz.func96,Tryz.ntmps96
 have K0:Keep No w (w.alloc (.cells #[.int .u16 0,.int .u16 0,.nilFunc] 206)):=(Keep.refl _ _).alloc _
 have rb:(w.alloc (.cells #[.int .u16 0,.int .u16 0,.nilFunc] 206)).heap[w.heap.size]?=some (.cells #[.int .u16 0,.int .u16 0,.nilFunc] 206 (0,0)):=aa4 rfl
 have q5:=K0.has h5
 have q8:=K0.has h8
 gi_wp2
 generalize hw0:w.alloc (.cells #[.int .u16 0,.int .u16 0,.nilFunc] 206)=w0 at*
 refine aa9 (P:=Tryz.prog) No _ rfl rfl (by kernel_rfl) 15 155 [0,1,2,3,4,5,6,7,8,9,10,11,12,13,14] [] (by kernel_rfl) (by rfl) (fun _ _ _=>True) (fun _ _ _ _ _ h _=>h) _ _ rfl rfl ?_
 gi_wp2_with (first|(gi_at_call 139;refine(argsOf12_calls _ w0.drew).mono ?_;rintro e w1 ⟨rfl,rfl⟩)|(gi_at_call 138;refine(words_zero pb A _ w0.drew).mono ?_;rintro e w1 ⟨rfl,rfl⟩))
 refine⟨rfl,by kernel_rfl,?_,(fun i hi=>absurd hi (by simp)),?_⟩
 ·intro W hK
  have d5:=hK.has (w:=w0.drew) q5
  have d8:=hK.has (w:=w0.drew) q8
  repeat' (refine aa8 ?_ ?_)
  all_goals first|exact trivial|gi_wp2_with (first|(gi_at_call 139;refine(argsOf12_calls _ W).mono ?_;rintro e w1 ⟨rfl,rfl⟩)|(gi_at_call 138;refine(words_zero pb A _ W).mono ?_;rintro e w1 ⟨rfl,rfl⟩))
 ·intro u W hK _
  simp only[putS]
  have b1:=hK.old (w:=w0.drew) rb id
  have KW:Keep No w W:=K0.drew.then hK
  have ne:∀x,x<w.heap.size→¬At w.heap.size x:=fun x hx h=>absurd hx (by rw[show x=w.heap.size from h];exact Nat.lt_irrefl _)
  gi_wp2_with fail
  refine(clone_nil _ W).mono ?_
  rintro e w1 ⟨rfl,K1⟩
  have d0:=K1.has (KW.has h0)
  gi_wp2_with fail
  refine(result_calls _ w1 1 (by decide)).mono ?_
  rintro e w2 ⟨rfl,K2⟩
  obtain⟨w8,hst8,K8,b8⟩:=store_ans (x:=1) (y:=0) (K2.old (K1.old b1 id) id)
  gi_wp2_with (refine af2 rfl (.tmp 6) (.tmp 135) 206 rfl rfl rfl hst8 ?_)
  have c80:w8.cell? ⟨w.heap.size,0,none⟩=some (.int .u16 1):=by rw[aa0 b8];rfl
  have c81:w8.cell? ⟨w.heap.size,1,none⟩=some (.int .u16 0):=by rw[aa0 b8];rfl
  have c82:w8.cell? ⟨w.heap.size,2,none⟩=some .nilFunc:=by rw[aa0 b8];rfl
  try simp only[Exit.inBlock,Exit.then]
  refine bodyPost_ret (v:=.agg #[.int .u16 1,.int .u16 0,.nilFunc]) (by simp[results,Tryz.results96,go_sem,c80,c81,c82]) rfl ?_
  exact⟨rfl,((KW.then K1).then K2).trans K8 (fun k hk h=>absurd h (ne k hk))⟩
set_option maxHeartbeats 8000000 in
theorem serve_fault (kb pb ib L c A:Nat) (h5:w.cell? ⟨pb,5,none⟩=some (.int .u16 A)) (h8:w.cell? ⟨pb,8,none⟩=some (.slice (some ⟨ib,0,none⟩) L c)) (hA:A<65536) (h:¬A+1≤L):
  CallsIn NF m Tryz.prog 96 #[.pointer (some ⟨kb,0,none⟩),.pointer (some ⟨pb,0,none⟩),.int .u16 1] w fun e w'=>e=.returned (.agg #[.int .u16 0,.int .u16 1,.nilFunc])∧Keep No w w':=by
 gi_enter Tryz.func96,Tryz.ntmps96
 have K0:Keep No w (w.alloc (.cells #[.int .u16 0,.int .u16 0,.nilFunc] 206)):=(Keep.refl _ _).alloc _
 have rb:(w.alloc (.cells #[.int .u16 0,.int .u16 0,.nilFunc] 206)).heap[w.heap.size]?=some (.cells #[.int .u16 0,.int .u16 0,.nilFunc] 206 (0,0)):=aa4 rfl
 have q5:=K0.has h5
 have q8:=K0.has h8
 gi_wp2
 generalize hw0:w.alloc (.cells #[.int .u16 0,.int .u16 0,.nilFunc] 206)=w0 at*
 refine aa9 (P:=Tryz.prog) No _ rfl rfl (by kernel_rfl) 15 155 [0,1,2,3,4,5,6,7,8,9,10,11,12,13,14] [] (by kernel_rfl) (by rfl) (fun _ _ _=>True) (fun _ _ _ _ _ h _=>h) _ _ rfl rfl ?_
 gi_wp2_with (first|(gi_at_call 139;refine(an2 _ w0.drew).mono ?_;rintro e w1 ⟨rfl,rfl⟩)|(gi_at_call 138;refine(words_no pb ib c L 1 A _ w0.drew q8 (by omega) (by omega) hA h).mono ?_;rintro e w1 ⟨rfl,rfl⟩))
 refine⟨rfl,by kernel_rfl,?_,(fun i hi=>absurd hi (by simp)),?_⟩
 ·intro W hK
  have d5:=hK.has (w:=w0.drew) q5
  have d8:=hK.has (w:=w0.drew) q8
  repeat' (refine aa8 ?_ ?_)
  all_goals first|exact trivial|gi_wp2_with (first|(gi_at_call 139;refine(an2 _ W).mono ?_;rintro e w1 ⟨rfl,rfl⟩)|(gi_at_call 138;refine(words_no pb ib c L 1 A _ W d8 (by omega) (by omega) hA h).mono ?_;rintro e w1 ⟨rfl,rfl⟩))
 ·intro u W hK _
  simp only[putS]
  have b1:=hK.old (w:=w0.drew) rb id
  have KW:Keep No w W:=K0.drew.then hK
  have ne:∀x,x<w.heap.size→¬At w.heap.size x:=fun x hx h=>absurd hx (by rw[show x=w.heap.size from h];exact Nat.lt_irrefl _)
  gi_wp2_with fail
  refine(wrong_calls _ W 1).mono ?_
  rintro e w2 ⟨rfl,K2⟩
  obtain⟨w8,hst8,K8,b8⟩:=store_ans (x:=0) (y:=1) (K2.old b1 id)
  gi_wp2_with (refine af2 rfl (.tmp 6) (.tmp 25) 206 rfl rfl rfl hst8 ?_)
  have c80:w8.cell? ⟨w.heap.size,0,none⟩=some (.int .u16 0):=by rw[aa0 b8];rfl
  have c81:w8.cell? ⟨w.heap.size,1,none⟩=some (.int .u16 1):=by rw[aa0 b8];rfl
  have c82:w8.cell? ⟨w.heap.size,2,none⟩=some .nilFunc:=by rw[aa0 b8];rfl
  try simp only[Exit.inBlock,Exit.then]
  refine bodyPost_ret (v:=.agg #[.int .u16 0,.int .u16 1,.nilFunc]) (by simp[results,Tryz.results96,go_sem,c80,c81,c82]) rfl ?_
  exact⟨rfl,(KW.then K2).trans K8 (fun k hk h=>absurd h (ne k hk))⟩
set_option maxHeartbeats 8000000 in
theorem serve_exit (kb prb pc pb cb sb N M A B P ib L fb st:Nat) (ks prs:Array Value) (v0 v1:Value) (hp:w.heap[pb]?=some (proc A B P ib L fb 0)) (hk:w.heap[kb]?=some (.cells ks 114 (0,0))) (hs0:ks[0]?=some v0) (hs1:ks[1]?=some v1) (hs2:ks[2]?=some (.slice (some ⟨prb,0,none⟩) 1 pc)) (hpc:1≤pc)
  (hr:w.heap[prb]?=some (.cells prs 119 (0,0))) (hr0:prs[0]?=some (.pointer (some ⟨pb,0,none⟩))) (hf0:Took 186 v0 w cb (nblk L) N) (hf1:Took 188 v1 w sb (nblk L) M) (hfd:∀i,i<6→w.cell? ⟨fb,i,none⟩=some (.int .i64 (-1))) (hL:1≤L) (hL':L≤128) (hN:N≤500) (hM:M≤500)
  (hcb:∃cs,w.heap[cb]?=some (.cells cs 186 (0,0))) (hsb:∃cs,w.heap[sb]?=some (.cells cs 188 (0,0))) (hA:A<65536) (h:A+1≤L) (hi:w.cell? ⟨ib,A,none⟩=some (.int .u16 st)):
  CallsIn NF m Tryz.prog 96 #[.pointer (some ⟨kb,0,none⟩),.pointer (some ⟨pb,0,none⟩),.int .u16 1] w fun e w'=>e=.returned (.agg #[.int .u16 st,.int .u16 0,.nilFunc])∧Keep (Five kb prb pb cb sb) w w'∧w'.heap[pb]?=some (dead st)∧∃ks',w'.heap[kb]?=some (.cells ks' 114 (0,0))∧ks'[2]?=some (.slice (some ⟨prb,0,none⟩) 0 pc):=by
 have h5:w.cell? ⟨pb,5,none⟩=some (.int .u16 A):=by rw[aa0 hp];rfl
 have h8:w.cell? ⟨pb,8,none⟩=some (.slice (some ⟨ib,0,none⟩) L L):=by rw[aa0 hp];rfl
 obtain⟨ccs,hcb⟩:=hcb
 obtain⟨scs,hsb⟩:=hsb
 have lk:=ab2 hk
 have lr:=ab2 hr
 have lp:=ab2 hp
 have lc:=ab2 hcb
 have ls:=ab2 hsb
 gi_enter Tryz.func96,Tryz.ntmps96
 have K0:Keep No w (w.alloc (.cells #[.int .u16 0,.int .u16 0,.nilFunc] 206)):=(Keep.refl _ _).alloc _
 have rb:(w.alloc (.cells #[.int .u16 0,.int .u16 0,.nilFunc] 206)).heap[w.heap.size]?=some (.cells #[.int .u16 0,.int .u16 0,.nilFunc] 206 (0,0)):=aa4 rfl
 have q5:=K0.has h5
 have q8:=K0.has h8
 gi_wp2
 generalize hw0:w.alloc (.cells #[.int .u16 0,.int .u16 0,.nilFunc] 206)=w0 at*
 refine aa9 (P:=Tryz.prog) No _ rfl rfl (by kernel_rfl) 15 155 [0,1,2,3,4,5,6,7,8,9,10,11,12,13,14] [] (by kernel_rfl) (by rfl) (fun _ _ _=>True) (fun _ _ _ _ _ h _=>h) _ _ rfl rfl ?_
 gi_wp2_with (first|(gi_at_call 139;refine(an2 _ w0.drew).mono ?_;rintro e w1 ⟨rfl,rfl⟩)|(gi_at_call 138;refine(ae8 pb ib L L 1 A _ w0.drew q8 (by omega) hA hL' (Nat.le_refl _) h).mono ?_;rintro e w1 ⟨rfl,rfl⟩))
 refine⟨rfl,by kernel_rfl,?_,(fun i hi=>absurd hi (by simp)),?_⟩
 ·intro W hK
  have d5:=hK.has (w:=w0.drew) q5
  have d8:=hK.has (w:=w0.drew) q8
  repeat' (refine aa8 ?_ ?_)
  all_goals first|exact trivial|gi_wp2_with (first|(gi_at_call 139;refine(an2 _ W).mono ?_;rintro e w1 ⟨rfl,rfl⟩)|(gi_at_call 138;refine(ae8 pb ib L L 1 A _ W d8 (by omega) hA hL' (Nat.le_refl _) h).mono ?_;rintro e w1 ⟨rfl,rfl⟩))
 ·intro u W hK _
  simp only[putS]
  have b1:=hK.old (w:=w0.drew) rb id
  have KW:Keep No w W:=K0.drew.then hK
  have ne:∀x,x<w.heap.size→¬At w.heap.size x:=fun x hx h=>absurd hx (by rw[show x=w.heap.size from h];exact Nat.lt_irrefl _)
  gi_wp2_with fail
  refine(clone_words _ W ⟨ib,A,none⟩ 1 1 [.int .u16 st] rfl (fun j u hj=>by
   match j,hj with
   | 0,hj=>simp at hj;subst hj;exact KW.has hi) (by simp[Value.oneCell']) (by omega)).mono ?_
  rintro e w1 ⟨K1,v,rfl,hown⟩
  obtain⟨g,cap,rfl,hg⟩:∃g cap,v=.slice (some ⟨g,0,none⟩) 1 cap∧w1.cell? ⟨g,0,none⟩=some (.int .u16 st):=by
   rcases hown.2 with⟨_,h⟩|⟨g,cap,cur,rfl,_⟩
   ·cases h
   ·exact⟨g,cap,rfl,(hown.cellAt 0 (by decide)).trans rfl⟩
  have KW1:Keep No w w1:=KW.then K1
  gi_wp2_with fail
  refine(end_calls _ w1 kb prb pc pb cb sb N M A B P ib L fb st ks prs v0 v1 (KW1.old hp id) (KW1.old hk id) hs0 hs1 hs2 hpc (KW1.old hr id) hr0 (hf0.keep KW1 id) (hf1.keep KW1 id) (fun i hi=>KW1.has (hfd i hi)) hL hL' hN hM ⟨_,KW1.old hcb id⟩ ⟨_,KW1.old hsb id⟩).mono ?_
  rintro e w2 ⟨rfl,K2,p2,ks',k2,k2'⟩
  have b2:=K2.old (K1.old b1 id) (by rintro(h|h|h|h|h)<;>omega)
  obtain⟨w8,hst8,K8,b8⟩:=store_ans (x:=st) (y:=0) b2
  gi_wp2_with (refine af2 rfl (.tmp 6) (.tmp 36) 206 rfl rfl rfl hst8 ?_)
  have c80:w8.cell? ⟨w.heap.size,0,none⟩=some (.int .u16 st):=by rw[aa0 b8];rfl
  have c81:w8.cell? ⟨w.heap.size,1,none⟩=some (.int .u16 0):=by rw[aa0 b8];rfl
  have c82:w8.cell? ⟨w.heap.size,2,none⟩=some .nilFunc:=by rw[aa0 b8];rfl
  try simp only[Exit.inBlock,Exit.then]
  refine bodyPost_ret (v:=.agg #[.int .u16 st,.int .u16 0,.nilFunc]) (by simp[results,Tryz.results96,go_sem,c80,c81,c82]) rfl ?_
  exact⟨rfl,(KW1.no.then K2).trans K8 (fun k hk h=>absurd h (ne k hk)),K8.old p2 (ne _ lp),ks',K8.old k2 (ne _ lk),k2'⟩
end
end Go.Fxa
namespace Go.Fxa
open Go.Conc
open Go.Proofs
open Go.RowKit
def RowT (T:TypeId) (k:IntKind) (w:World) (b n:Nat) (f:Nat→Int):Prop:=∃cs,w.heap[b]?=some (.cells cs T (0,0))∧cs.size=n∧∀i,i<n→cs[i]?=some (.int k (f i))
theorem RowT.row {T:TypeId} {k:IntKind} {w:World} {b n:Nat} {f:Nat→Int} (h:RowT T k w b n f):Row k w b n f:=let ⟨cs,h1,h2,h3⟩:=h;⟨cs,T,h1,h2,h3⟩
theorem RowT.keep {T:TypeId} {k:IntKind} {w w':World} {b n:Nat} {f:Nat→Int} {S:Nat→Prop} (h:RowT T k w b n f) (hK:Keep S w w') (hn:¬S b):RowT T k w' b n f:=let ⟨cs,h1,h2,h3⟩:=h;⟨cs,hK.old h1 hn,h2,h3⟩
theorem RowT.cell {T:TypeId} {k:IntKind} {w:World} {b n:Nat} {f:Nat→Int} (h:RowT T k w b n f) {i:Nat} (hi:i<n):w.cell? ⟨b,i,none⟩=some (.int k (f i)):=h.row.cell hi
structure KB where
 (kb prb pc pb cb sb ib fb N M L:Nat)
 img:Nat→Nat
structure KB.Ok (b:KB):Prop where
 L1:1≤b.L
 L2:b.L≤128
 nN:nblk b.L≤b.N
 N5:b.N≤500
 nM:nblk b.L≤b.M
 M5:b.M≤500
 pc:1≤b.pc
def KB.im (b:KB) (i:Nat→Nat):KB:={ b with img:=i }
theorem KB.Ok.im {b:KB} (h:b.Ok) (i:Nat→Nat):(b.im i).Ok:=⟨h.L1,h.L2,h.nN,h.N5,h.nM,h.M5,h.pc⟩
def KB.Fit (b:KB):Prop:=∀i,i<b.L→b.img i<65536
structure KB.At (b:KB) (w:World) (co:Bool) (A B P:Nat) (ks prs:Array Value) (v0 v1:Value):Prop where
 k:w.heap[b.kb]?=some (.cells ks 114 (0,0))
 k0:ks[0]?=some v0
 k1:ks[1]?=some v1
 k2:ks[2]?=some (.slice (some ⟨b.prb,0,none⟩) 1 b.pc)
 r:w.heap[b.prb]?=some (.cells prs 119 (0,0))
 r0:prs[0]?=some (.pointer (some ⟨b.pb,0,none⟩))
 p:w.heap[b.pb]?=some (proc A B P b.ib b.L b.fb (if co then 0 else -1))
 i:RowT 123 .u16 w b.ib b.L (fun j=>b.img j)
 f:RowT 3 .i64 w b.fb 6 (fun _=>-1)
 m0:if co then Took 186 v0 w b.cb (nblk b.L) b.N else Full 186 v0 w b.cb b.N
 m1:Took 188 v1 w b.sb (nblk b.L) b.M
 a:A<65536
 bb:B<65536
 pp:P<65536
def KB.foot (b:KB) (k:Nat):Prop:=k=b.kb∨k=b.prb∨k=b.pb∨k=b.cb∨k=b.sb∨k=b.ib∨k=b.fb
def KB.on (b:KB) (co:Bool) (A B P:Nat) (w:World):Prop:=∃ks prs v0 v1,b.At w co A B P ks prs v0 v1
def KB.off (b:KB) (w:World):Prop:=∃ks a c,w.heap[b.kb]?=some (.cells ks 114 (0,0))∧ks[2]?=some (.slice a 0 c)
theorem Took.blk {T:TypeId} {v:Value} {w:World} {cb n N:Nat} (h:Took T v w cb n N):∃cs,w.heap[cb]?=some (.cells cs T (0,0)):=by
 rcases h with⟨_,_,h⟩|⟨_,_,h⟩<;>exact⟨_,h⟩
section
variable {b:KB} {w w':World} {S:Nat→Prop} {co:Bool} {A B P:Nat} {ks prs:Array Value} {v0 v1:Value}
theorem KB.At.keep (h:b.At w co A B P ks prs v0 v1) (hK:Keep S w w') (hn:∀k,b.foot k→¬S k):b.At w' co A B P ks prs v0 v1:=by
 refine⟨hK.old h.k (hn _ (.inl rfl)),h.k0,h.k1,h.k2,hK.old h.r (hn _ (.inr (.inl rfl))),h.r0,hK.old h.p (hn _ (.inr (.inr (.inl rfl)))),h.i.keep hK (hn _ ?_),h.f.keep hK (hn _ ?_),?_,h.m1.keep hK (hn _ ?_),h.a,h.bb,h.pp⟩
 ·exact .inr (.inr (.inr (.inr (.inr (.inl rfl)))))
 ·exact .inr (.inr (.inr (.inr (.inr (.inr rfl)))))
 ·have:=h.m0
  have hc:=hn b.cb (.inr (.inr (.inr (.inl rfl))))
  cases co
  ·exact Full.keep this hK hc
  ·exact Took.keep this hK hc
 ·exact .inr (.inr (.inr (.inr (.inl rfl))))
theorem KB.on.keep (h:b.on co A B P w) (hK:Keep S w w') (hn:∀k,b.foot k→¬S k):b.on co A B P w':=let ⟨ks,prs,v0,v1,h⟩:=h;⟨ks,prs,v0,v1,h.keep hK hn⟩
theorem KB.off.keep (h:b.off w) (hK:Keep S w w') (hn:¬S b.kb):b.off w':=let ⟨ks,a,c,h1,h2⟩:=h;⟨ks,a,c,hK.old h1 hn,h2⟩
theorem KB.At.c0 (h:b.At w co A B P ks prs v0 v1):∃cs,w.heap[b.cb]?=some (.cells cs 186 (0,0)):=by
 have:=h.m0
 cases co
 ·exact⟨_,this.2⟩
 ·exact Took.blk this
theorem KB.At.lt (h:b.At w co A B P ks prs v0 v1):∀k,b.foot k→k<w.heap.size:=by
 obtain⟨_,hc⟩:=h.c0
 obtain⟨_,hs⟩:=h.m1.blk
 obtain⟨_,hi,_⟩:=h.i
 obtain⟨_,hf,_⟩:=h.f
 rintro k (e|e|e|e|e|e|e)<;>rw[e]
 ·exact ab2 h.k
 ·exact ab2 h.r
 ·exact ab2 h.p
 ·exact ab2 hc
 ·exact ab2 hs
 ·exact ab2 hi
 ·exact ab2 hf
theorem KB.At.ne (h:b.At w co A B P ks prs v0 v1):b.ib≠b.pb∧b.ib≠b.kb∧b.ib≠b.cb∧b.ib≠b.sb∧b.ib≠b.prb∧b.fb≠b.pb∧b.fb≠b.kb∧b.fb≠b.cb∧b.fb≠b.sb∧b.fb≠b.prb∧b.kb≠b.pb∧b.kb≠b.prb∧b.kb≠b.cb∧b.kb≠b.sb∧b.pb≠b.prb∧b.pb≠b.cb∧b.pb≠b.sb∧b.prb≠b.cb∧b.prb≠b.sb∧b.cb≠b.sb∧b.ib≠b.fb:=by
 obtain⟨_,hc⟩:=h.c0
 obtain⟨_,hs⟩:=h.m1.blk
 obtain⟨_,hi,_⟩:=h.i
 obtain⟨_,hf,_⟩:=h.f
 refine⟨ac2 hi h.p (by decide),ac2 hi h.k (by decide),ac2 hi hc (by decide),ac2 hi hs (by decide),ac2 hi h.r (by decide),ac2 hf h.p (by decide),ac2 hf h.k (by decide),ac2 hf hc (by decide),ac2 hf hs (by decide),ac2 hf h.r (by decide),ac2 h.k h.p (by decide),ac2 h.k h.r (by decide),ac2 h.k hc (by decide),ac2 h.k hs (by decide),ac2 h.p h.r (by decide),ac2 h.p hc (by decide),ac2 h.p hs (by decide),ac2 h.r hc (by decide),ac2 h.r hs (by decide),ac2 hc hs (by decide),ac2 hi hf (by decide)⟩
end
/-! ### what a process does -/
abbrev IsPut (L:Nat) (img:Nat→Nat) (s:Nat×Nat×Nat):Prop:=s.2.2+2≤L∧img s.2.2=3∧img (s.2.2+1)<L
def putI (L:Nat) (img:Nat→Nat) (s:Nat×Nat×Nat):Nat→Nat:=if IsPut L img s then fun j=>if j=img (s.2.2+1)then s.1 else img j else img
def Safe (L:Nat) (img:Nat→Nat) (s:Nat×Nat×Nat):Prop:=s.2.2+2≤L→img s.2.2≠10∧(img s.2.2=3→img (s.2.2+1)<L)∧(img s.2.2=11→img (s.2.2+1)=1∨img (s.2.2+1)=12)
def ac8 (L:Nat) (img:Nat→Nat) (s:Nat×Nat×Nat):Option (Nat×Nat×Nat)×List (Nat×Nat×Nat):=
 if IsPut L img s then(some (s.1,s.2.1,s.2.2+2),[])else
 let r:=ai2 L img s.1 s.2.1 s.2.2
 if r.1=0 then(some (r.2.2.1,r.2.2.2.1,r.2.2.2.2),[])
 else if r.1=1 then
  if r.2.1=12 then(some (1,0,r.2.2.2.2),[(12,1,0)])
  else if s.1+1≤L then(none,[(1,img s.1,0)])
  else(some (0,1,r.2.2.2.2),[(1,0,1)])
 else(none,[(1,65535,0)])
def runX (L:Nat) (img:Nat→Nat) (s:Nat×Nat×Nat):Nat→(Option (Nat×Nat×Nat)×List (Nat×Nat×Nat))×(Nat→Nat)
 | 0=>((some s,[]),img)
 | n+1=>match runX L img s n with
  | ((none,e),i)=>((none,e),i)
  | ((some t,e),i)=>(((ac8 L i t).1,e++(ac8 L i t).2),putI L i t)
def runE (L:Nat) (img:Nat→Nat) (s:Nat×Nat×Nat) (n:Nat):Option (Nat×Nat×Nat)×List (Nat×Nat×Nat):=(runX L img s n).1
def imgE (L:Nat) (img:Nat→Nat) (s:Nat×Nat×Nat) (n:Nat):Nat→Nat:=(runX L img s n).2
section
variable {L:Nat} {img:Nat→Nat} {s:Nat×Nat×Nat}
theorem runE_zero:runE L img s 0=(some s,[]):=rfl
theorem ai7 {j:Nat} {t:Nat×Nat×Nat} {e:List (Nat×Nat×Nat)} (h:runE L img s j=(some t,e)):runE L img s (j+1)=((ac8 L (imgE L img s j) t).1,e++(ac8 L (imgE L img s j) t).2):=by
 unfold runE imgE at*
 show(match runX L img s j with|((none,e),i)=>((none,e),i)|((some t,e),i)=>(((ac8 L i t).1,e++(ac8 L i t).2),putI L i t)).1=_
 generalize runX L img s j=r at*
 obtain⟨⟨o,e'⟩,i⟩:=r
 simp only[Prod.mk.injEq]at h
 obtain⟨rfl,rfl⟩:=h
 rfl
theorem ak9 {j:Nat} {t:Nat×Nat×Nat} {e:List (Nat×Nat×Nat)} (h:runE L img s j=(some t,e)):imgE L img s (j+1)=putI L (imgE L img s j) t:=by
 unfold runE imgE at*
 show(match runX L img s j with|((none,e),i)=>((none,e),i)|((some t,e),i)=>(((ac8 L i t).1,e++(ac8 L i t).2),putI L i t)).2=_
 generalize runX L img s j=r at*
 obtain⟨⟨o,e'⟩,i⟩:=r
 simp only[Prod.mk.injEq]at h
 obtain⟨rfl,rfl⟩:=h
 rfl
theorem runE_none {j:Nat} {e:List (Nat×Nat×Nat)} (h:runE L img s j=(none,e)):runE L img s (j+1)=(none,e):=by
 unfold runE at*
 show(match runX L img s j with|((none,e),i)=>((none,e),i)|((some t,e),i)=>(((ac8 L i t).1,e++(ac8 L i t).2),putI L i t)).1=_
 generalize runX L img s j=r at*
 obtain⟨⟨o,e'⟩,i⟩:=r
 simp only[Prod.mk.injEq]at h
 obtain⟨rfl,rfl⟩:=h
 rfl
end
theorem runE_over {L:Nat} {img:Nat→Nat} {s:Nat×Nat×Nat} {i:Nat} {e:List (Nat×Nat×Nat)} (h:runE L img s i=(none,e)):∀{n:Nat},i≤n→runE L img s n=(none,e)
 | n,hn=>by
  induction n with
  | zero=>obtain rfl:i=0:=by omega
          exact h
  | succ n ih=>
   by_cases c:i=n+1
   ·subst c;exact h
   ·exact runE_none (ih (by omega))
theorem stepE_len {L:Nat} {img:Nat→Nat} {s:Nat×Nat×Nat}:(ac8 L img s).2.length≤1:=by
 unfold ac8;split
 ·simp
 simp only;split<;>(try split)<;>(try split)<;>(try split)<;>simp
theorem runE_len {L:Nat} {img:Nat→Nat} {s:Nat×Nat×Nat}:∀n,(runE L img s n).2.length≤n
 | 0=>by simp[runE_zero]
 | n+1=>by
  have ih:=runE_len (L:=L) (img:=img) (s:=s) n
  cases hr:runE L img s n with
  | mk o e=>
   rw[hr]at ih
   cases o with
   | none=>rw[runE_none hr];simp only at ih ⊢;omega
   | some t=>
    have:=stepE_len (L:=L) (img:=imgE L img s n) (s:=t)
    rw[ai7 hr];simp only[List.length_append]at ih ⊢;omega
def evC (x:Nat×Nat×Nat):List Value:=[.int .i64 1,.int .i64 x.1,.int .i64 x.2.1,.int .i64 x.2.2]
def evsC:List (Nat×Nat×Nat)→List Value
 | []=>[]
 | x::l=>evC x++evsC l
theorem evsC_app:∀l l',evsC (l++l')=evsC l++evsC l'
 | [],_=>rfl
 | x::l,l'=>by simp only[List.cons_append,evsC,evsC_app l l',List.append_assoc]
theorem stepM_fit {L:Nat} {img:Nat→Nat} {A B P:Nat} (hL:L≤128) (hw:∀i,i<L→img i<65536) (hA:A<65536) (hB:B<65536) (hP:P<65536):(ai2 L img A B P).1≤2∧(ai2 L img A B P).2.1<65536∧(ai2 L img A B P).2.2.1<65536∧(ai2 L img A B P).2.2.2.1<65536∧(ai2 L img A B P).2.2.2.2<65536:=by
 unfold ai2
 split
 ·rename_i h
  have n0:=hw P (by omega)
  have n1:=hw (P+1) (by omega)
  split
  ·simp;omega
  split
  ·simp;omega
  split
  ·simp only;split<;>simp<;>omega
  split
  ·simp;omega
  split
  ·simp;omega
  have:(ai5 L img A (img P) (img (P+1))).1≤2∧(ai5 L img A (img P) (img (P+1))).2<65536:=by
   unfold ai5
   split
   ·rename_i h2
    have:=hw _ h2
    split
    ·simp;omega
    split
    ·simp;omega
    split
    ·simp;omega
    ·simp;omega
   ·simp;omega
  simp only
  omega
 ·simp;omega
end Go.Fxa
