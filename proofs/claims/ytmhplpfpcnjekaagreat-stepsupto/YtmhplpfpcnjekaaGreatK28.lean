/- New of the program. The Book is looked at. -/
import Derived.Test.YtmhplpfpcnjekaaGreatK27
namespace Go.Fxa
open Go.Conc
open Go.Proofs
open Go.RowKit
set_option maxRecDepth 1000000
section
variable (m:Nat) (w:World)
set_option maxHeartbeats 4000000 in
theorem kNew_no (core swap:Int) (v:Value) (n:Nat) (f:Nat→Int) (fa:Option Addr) (fc:Nat) (h:SlI w v n f) (hno:¬MayBe core swap n f):CallsIn NF m Tryz.prog 14 #[.agg #[.int .i64 core,.int .i64 swap,v,.slice fa 0 fc]] w fun e w'=>Keep No w w'∧e=.returned (.tuple #[.pointer none,.int .i64 1]):=by
 obtain⟨s,c,rfl⟩:∃s c,v=.slice s n c:=let ⟨_,s,c,e,_⟩:=h;⟨s,c,e⟩
 have K1:Keep No w (w.alloc (.cells #[.int .i64 core,.int .i64 swap,.slice s n c,.slice fa 0 fc] 25)):=(Keep.refl _ _).alloc _
 have h1:=h.keep K1
 gi_enter Tryz.func14,Tryz.ntmps14
 gi_wp2_with fail
 refine(mayBe_calls _ (w.alloc (.cells #[.int .i64 core,.int .i64 swap,.slice s n c,.slice fa 0 fc] 25)) core swap _ n f fa fc h1).mono ?_
 rintro e w1 ⟨K2,r,rfl,hr⟩
 cases r
 case true=>exact absurd (hr.1 rfl) hno
 clear hr
 gi_wp2
 go_ret2
 exact⟨K1.then K2,by simp⟩
def valOf:Result Value→Value
 | .ok x _=>x
 | _=>undef
def kernC (cb sb:Nat):Array Value:=#[.slice (some ⟨cb,0,none⟩) 1 1,.slice (some ⟨sb,0,none⟩) 1 1,.slice none 0 0,.int .i64 0,.pointer none,.pointer none,.pointer none,.pointer none,.pointer none,.pointer none,.pointer none,.pointer none,.pointer none,.pointer none,.pointer none,.pointer none,.pointer none,.pointer none,.pointer none,.pointer none,.slice none 0 0,.nilIface,.int .i64 0,.nilIface,.int .i64 0,.nilIface,.int .i64 0,.nilIface,.int .i64 0,.nilIface,.int .i64 0,.nilIface,.int .i64 0,.nilIface,.int .i64 0,.nilIface,.int .i64 0,.nilIface,.int .i64 0,.nilIface,.int .i64 0,.nilIface,.int .i64 0,.nilIface,.int .i64 0,.nilIface,.int .i64 0,.nilIface,.int .i64 0,.nilIface,.int .i64 0,.nilIface,.int .i64 0,.nilIface,.int .i64 0,.nilIface,.int .i64 0,.nilIface,.int .i64 0,.nilIface,.int .i64 0]
theorem build_state {a:Option Addr} {n c:Nat}:(Instr.build 125 #[(3,.slice a n c)]).run Tryz.prog w=.ok (.agg #[.int .u16 0,.int .u16 0,.int .u16 0,.slice a n c]) w:=by kernel_rfl
def procC (ib L fb:Nat):Array Value:=#[.int .i64 0,.int .i64 0,.bool false,.int .u16 0,.nilFunc,.int .u16 0,.int .u16 0,.int .u16 0,.slice (some ⟨ib,0,none⟩) L L,.slice (some ⟨fb,0,none⟩) 6 6,.int .i64 0,.int .i64 0]
theorem build_proc {ib fb L:Nat}:∃x,(Instr.build 128 #[(5,.agg #[.int .u16 0,.int .u16 0,.int .u16 0,.slice (some ⟨ib,0,none⟩) L L]),(6,.slice (some ⟨fb,0,none⟩) 6 6)]).run Tryz.prog w=.ok x w∧x.cells=procC ib L fb:=
 ⟨valOf ((Instr.build 128 #[(5,.agg #[.int .u16 0,.int .u16 0,.int .u16 0,.slice (some ⟨ib,0,none⟩) L L]),(6,.slice (some ⟨fb,0,none⟩) 6 6)]).run Tryz.prog w),by kernel_rfl,by kernel_rfl⟩
def PhiN (base C:Nat) (_i:Nat) (v:Value) (W:World):Prop:=∃cb,base≤cb∧v=.agg #[.slice (some ⟨cb,0,none⟩) 1 1]∧W.heap[cb]?=some (.cells #[.int .i64 0,.int .i64 C] 186 (0,0))
def PhiP (base n N8:Nat) (img:Nat→Nat):Nat→Value→World→Prop
 | 3,v,W=>∃ab,v=.slice (some ⟨ab,0,none⟩) n n∧RowT 123 .u16 W ab n (fun j=>img j)
 | 7,v,_=>v=.int .i64 (nblk n)
 | 8,v,W=>∃ib,base≤ib∧v=.slice (some ⟨ib,0,none⟩) N8 N8∧RowT 123 .u16 W ib N8 (fun j=>ah5 n img j)
 | 9,v,W=>∃ib,base≤ib∧v=.agg #[.int .u16 0,.int .u16 0,.int .u16 0,.slice (some ⟨ib,0,none⟩) N8 N8]∧RowT 123 .u16 W ib N8 (fun j=>ah5 n img j)
 | 10,v,W=>∃vb,v=.slice (some ⟨vb,0,none⟩) 1 1∧W.heap[vb]?=some (.cells #[.int .i64 (-1)] 3 (0,0))
 | 11,v,W=>∃fb,base≤fb∧v=.slice (some ⟨fb,0,none⟩) 6 6∧RowT 3 .i64 W fb 6 (fun _=>-1)
 | 12,v,W=>∃ib fb,base≤ib∧base≤fb∧v=.agg (procC ib N8 fb)∧RowT 123 .u16 W ib N8 (fun j=>ah5 n img j)∧RowT 3 .i64 W fb 6 (fun _=>-1)
 | 13,v,W=>∃pb ib fb,base≤pb∧base≤ib∧base≤fb∧v=.pointer (some ⟨pb,0,none⟩)∧W.heap[pb]?=some (proc0 ib N8 fb)∧RowT 123 .u16 W ib N8 (fun j=>ah5 n img j)∧RowT 3 .i64 W fb 6 (fun _=>-1)
 | _,_,_=>True
theorem PhiP.keep {base n N8:Nat} {img:Nat→Nat} (i:Nat) (hi:i∈[3,7,8,9,10,11,12,13]) (v:Value) (W W':World) (h:PhiP base n N8 img i v W) (hK:Keep No W W'):PhiP base n N8 img i v W':=by
 rcases(by simpa using hi:i=3∨i=7∨i=8∨i=9∨i=10∨i=11∨i=12∨i=13)with rfl|rfl|rfl|rfl|rfl|rfl|rfl|rfl
 ·obtain⟨ab,h1,h2⟩:=h;exact⟨ab,h1,h2.keep hK id⟩
 ·exact h
 ·obtain⟨ab,h1,h2,h3⟩:=h;exact⟨ab,h1,h2,h3.keep hK id⟩
 ·obtain⟨ab,h1,h2,h3⟩:=h;exact⟨ab,h1,h2,h3.keep hK id⟩
 ·obtain⟨ab,h1,h2⟩:=h;exact⟨ab,h1,hK.old h2 id⟩
 ·obtain⟨ab,h1,h2,h3⟩:=h;exact⟨ab,h1,h2,h3.keep hK id⟩
 ·obtain⟨a,b,h1,h2,h3,h4,h5⟩:=h;exact⟨a,b,h1,h2,h3,h4.keep hK id,h5.keep hK id⟩
 ·obtain⟨p,a,b,h0,h1,h2,h3,h4,h5,h6⟩:=h;exact⟨p,a,b,h0,h1,h2,h3,hK.old h4 id,h5.keep hK id,h6.keep hK id⟩
set_option maxHeartbeats 8000000 in
theorem kNew_ok (C M n N8:Nat) (v:Value) (img:Nat→Nat) (fa:Option Addr) (fc:Nat) (h:SlI w v n (fun i=>img i)) (hm:MayBe C M n (fun i=>img i)) (h8:8*nblk n=N8):CallsIn NF m Tryz.prog 14 #[.agg #[.int .i64 C,.int .i64 M,v,.slice fa 0 fc]] w fun e w'=>Keep No w w'∧∃b:KB,e=.returned (.tuple #[.pointer (some ⟨b.kb,0,none⟩),.int .i64 0])∧b.on false 0 0 0 w'∧(∀k,b.foot k→w.heap.size≤k)∧1≤b.pc∧b.N=C∧b.M=M∧b.L=N8∧b.img=ah5 n img:=by
 obtain⟨s,c,rfl⟩:∃s c,v=.slice s n c:=let ⟨_,s,c,e,_⟩:=h;⟨s,c,e⟩
 obtain⟨⟨m1,m2,m3,m4⟩,⟨m5,m6,m7⟩,m8⟩:=id hm
 obtain⟨bb,oo,rfl,hcell⟩:∃b o,s=some ⟨b,o,none⟩∧∀i,i<n→w.cell? ⟨b,o+i,none⟩=some (.int .i64 (img i)):=by
  obtain⟨_,s',c',e,hh⟩:=h
  cases e
  exact hh (by omega)
 have hw:∀i,i<n→img i<65536:=fun i hi=>by have h:=m7 i hi;simp only at h;omega
 have K1:Keep No w (w.alloc (.cells #[.int .i64 C,.int .i64 M,.slice (some ⟨bb,oo,none⟩) n c,.slice fa 0 fc] 25)):=(Keep.refl _ _).alloc _
 have hb1:(w.alloc (.cells #[.int .i64 C,.int .i64 M,.slice (some ⟨bb,oo,none⟩) n c,.slice fa 0 fc] 25)).heap[w.heap.size]?=some (.cells #[.int .i64 C,.int .i64 M,.slice (some ⟨bb,oo,none⟩) n c,.slice fa 0 fc] 25 (0,0)):=aa4 rfl
 have h1:=h.keep K1
 gi_enter Tryz.func14,Tryz.ntmps14
 gi_wp2_with fail
 refine(mayBe_calls _ (w.alloc (.cells #[.int .i64 C,.int .i64 M,.slice (some ⟨bb,oo,none⟩) n c,.slice fa 0 fc] 25)) C M _ n _ fa fc h1).mono ?_
 rintro e w1 ⟨K2,r,rfl,hr⟩
 cases r
 case false=>exact absurd (hr.2 hm) (by simp)
 clear hr
 have b2:=K2.old hb1 id
 have Kw1:Keep No w w1:=K1.then K2
 clear hb1 h1 h K1 K2
 have c0:w1.cell? ⟨w.heap.size,0,none⟩=some (.int .i64 C):=by rw[aa0 b2];rfl
 have c1:w1.cell? ⟨w.heap.size,1,none⟩=some (.int .i64 M):=by rw[aa0 b2];rfl
 have c2:w1.cell? ⟨w.heap.size,2,none⟩=some (.slice (some ⟨bb,oo,none⟩) n c):=by rw[aa0 b2];rfl
 have c3:w1.cell? ⟨w.heap.size,3,none⟩=some (.slice fa 0 fc):=by rw[aa0 b2];rfl
 gi_wp2
 refine aa9 (P:=Tryz.prog) No _ rfl rfl (by kernel_rfl) 5 50 [0,1,3,4] [2] (by kernel_rfl) (by rfl) (PhiN w.heap.size C)
  (fun _ _ _ _ _ h hK=>let ⟨cb,q1,q2,q3⟩:=h;⟨cb,q1,q2,hK.old q3 id⟩) _ _ rfl rfl ?_
 gi_wp2
 refine⟨rfl,by kernel_rfl,?_,?_,?_⟩
 ·intro W hK
  have d0:=hK.has (w:=w1.drew) c0
  have d1:=hK.has (w:=w1.drew) c1
  repeat' (refine aa8 ?_ ?_)
  all_goals first|exact trivial|gi_wp2
 ·intro i hi u W hK hu
  obtain rfl:i=2:=by simpa using hi
  refine ac4 rfl fun KK hKK=>?_
  show wpListIn NF m Tryz.prog _ _ _ (Act.put _ (some 12) (u 2)) _
  gi_wp2_with fail
  refine(newC_calls _ W C (by omega)).mono ?_
  rintro e w2 ⟨k2,cb,q1,rfl,q3⟩
  gi_wp2
  exact⟨_,rfl,k2,cb,Nat.le_trans (Nat.le_trans Kw1.size hK.size) q1,rfl,q3⟩
 intro u W hK hu
 obtain⟨cb,q1,q2,q3⟩:=hu 2 (by simp)
 show wpListIn NF m Tryz.prog _ _ _ (Act.put _ (some 12) (u 2)) _
 rw[q2]
 have KW:Keep No w W:=Kw1.drew.then hK
 have b3:=hK.old (heap_drew.trans b2) id
 clear hK hu q2 c0 c1 c2 c3
 gi_wp2_with fail
 refine(newS_calls _ W M (by omega)).mono ?_
 rintro e w2 ⟨k2,sb,q4,rfl,q5⟩
 have KW2:=KW.then k2
 have q3:=k2.old q3 id
 have b4:=k2.old b3 id
 have q4:w.heap.size≤sb:=Nat.le_trans KW.size q4
 have hal:w2.alloc (.cells #[.slice (some ⟨cb,0,none⟩) 1 1,.slice (some ⟨sb,0,none⟩) 1 1,.slice none 0 0,.int .i64 0,.pointer none,.pointer none,.pointer none,.pointer none,.pointer none,.pointer none,.pointer none,.pointer none,.pointer none,.pointer none,.pointer none,.pointer none,.pointer none,.pointer none,.pointer none,.pointer none,.slice none 0 0,.nilIface,.int .i64 0,.nilIface,.int .i64 0,.nilIface,.int .i64 0,.nilIface,.int .i64 0,.nilIface,.int .i64 0,.nilIface,.int .i64 0,.nilIface,.int .i64 0,.nilIface,.int .i64 0,.nilIface,.int .i64 0,.nilIface,.int .i64 0,.nilIface,.int .i64 0,.nilIface,.int .i64 0,.nilIface,.int .i64 0,.nilIface,.int .i64 0,.nilIface,.int .i64 0,.nilIface,.int .i64 0,.nilIface,.int .i64 0,.nilIface,.int .i64 0,.nilIface,.int .i64 0,.nilIface,.int .i64 0] 114)=w2.alloc (.cells (kernC cb sb) 114):=rfl
 clear b3 k2 KW
 gi_upto_region 4 with fail
 generalize Value.agg #[.slice (some ⟨cb,0,none⟩) 1 1,.slice (some ⟨sb,0,none⟩) 1 1,.slice none 0 0,.int .i64 0,.pointer none,.pointer none,.pointer none,.pointer none,.pointer none,.pointer none,.pointer none,.pointer none,.pointer none,.pointer none,.pointer none,.pointer none,.pointer none,.pointer none,.pointer none,.pointer none,.slice none 0 0,.nilIface,.int .i64 0,.nilIface,.int .i64 0,.nilIface,.int .i64 0,.nilIface,.int .i64 0,.nilIface,.int .i64 0,.nilIface,.int .i64 0,.nilIface,.int .i64 0,.nilIface,.int .i64 0,.nilIface,.int .i64 0,.nilIface,.int .i64 0,.nilIface,.int .i64 0,.nilIface,.int .i64 0,.nilIface,.int .i64 0,.nilIface,.int .i64 0,.nilIface,.int .i64 0,.nilIface,.int .i64 0,.nilIface,.int .i64 0,.nilIface,.int .i64 0,.nilIface,.int .i64 0,.nilIface,.int .i64 0]=big
 have K3:Keep No w2 (w2.alloc (.cells (kernC cb sb) 114)):=(Keep.refl _ _).alloc _
 have hk3:(w2.alloc (.cells (kernC cb sb) 114)).heap[w2.heap.size]?=some (.cells (kernC cb sb) 114 (0,0)):=aa4 rfl
 have KW3:=KW2.then K3
 have b5:=K3.old b4 id
 have q3:=K3.old q3 id
 have q5:=K3.old q5 id
 have hkb:w.heap.size≤w2.heap.size:=KW2.size
 clear hal b4 K3 KW2
 generalize w2.alloc (.cells (kernC cb sb) 114)=w3 at*
 generalize w2.heap.size=kb at*
 have c2:w3.cell? ⟨w.heap.size,2,none⟩=some (.slice (some ⟨bb,oo,none⟩) n c):=by rw[aa0 b5];rfl
 have c3:w3.cell? ⟨w.heap.size,3,none⟩=some (.slice fa 0 fc):=by rw[aa0 b5];rfl
 gi_wp2
 refine wpIn_loop_once ?_
 gi_wp2
 refine aa9 (P:=Tryz.prog) No _ rfl rfl (by kernel_rfl) 14 50 [0,1,2,4,5,6] [3,7,8,9,10,11,12,13] (by kernel_rfl) (by rfl) (PhiP w.heap.size n N8 img) PhiP.keep _ _ rfl rfl ?_
 gi_wp2
 refine⟨rfl,by kernel_rfl,?_,?_,?_⟩
 ·intro W hK
  have d2:=hK.has (w:=w3.drew) c2
  repeat' (refine aa8 ?_ ?_)
  all_goals first|exact trivial|gi_wp2
 ·intro i hi u W hK hu
  have KW:Keep No w W:=KW3.drew.then hK
  rcases(by simpa using hi:i=3∨i=7∨i=8∨i=9∨i=10∨i=11∨i=12∨i=13)with rfl|rfl|rfl|rfl|rfl|rfl|rfl|rfl
  ·refine ac4 rfl fun KK hKK=>?_
   show wpListIn NF m Tryz.prog _ _ _ (Act.put (Act.put (Act.put (Act.put (Act.put (Act.put (Act.put (Act.put _ (some 37) (u 3)) (some 41) (u 7)) (some 42) (u 8)) (some 43) (u 9)) (some 44) (u 10)) (some 45) (u 11)) (some 46) (u 12)) (some 47) (u 13)) _
   gi_wp2_with fail
   refine(toWords_calls _ W bb oo n c img (fun i hi=>KW.has (hcell i hi)) hw (by omega) (by omega)).mono ?_
   rintro e w4 ⟨k4,rfl,r4⟩
   gi_wp2
   exact⟨.slice (some ⟨W.heap.size,0,none⟩) n n,by kernel_rfl,k4,_,rfl,r4⟩
  ·refine ac4 rfl fun KK hKK=>?_
   show wpListIn NF m Tryz.prog _ _ _ (Act.put (Act.put (Act.put (Act.put (Act.put (Act.put (Act.put (Act.put _ (some 37) (u 3)) (some 41) (u 7)) (some 42) (u 8)) (some 43) (u 9)) (some 44) (u 10)) (some 45) (u 11)) (some 46) (u 12)) (some 47) (u 13)) _
   gi_wp2_with fail
   refine(of_calls _ W n (by omega)).mono ?_
   rintro e w4 ⟨rfl,hw4⟩
   have hw4:=hw4.symm
   subst hw4
   gi_wp2
   exact⟨.int .i64 (nblk n),by kernel_rfl,Keep.refl _ _,rfl⟩
  ·obtain⟨ab,e3,r3⟩:=hu 3 (by simp) (by decide)
   have e7:=hu 7 (by simp) (by decide)
   have e7:u 7=.int .i64 (nblk n):=e7
   refine ac4 rfl fun KK hKK=>?_
   show wpListIn NF m Tryz.prog _ _ _ (Act.put (Act.put (Act.put (Act.put (Act.put (Act.put (Act.put (Act.put _ (some 37) (u 3)) (some 41) (u 7)) (some 42) (u 8)) (some 43) (u 9)) (some 44) (u 10)) (some 45) (u 11)) (some 46) (u 12)) (some 47) (u 13)) _
   rw[e3,e7]
   gi_wp2_with fail
   refine(imageOf_calls _ W ab n (nblk n) N8 img r3 h8 (by unfold nblk at h8;omega) (by unfold nblk at h8;omega)).mono ?_
   rintro e w4 ⟨k4,rfl,r4⟩
   gi_wp2
   exact⟨.slice (some ⟨W.heap.size,0,none⟩) N8 N8,by rw[←e3,←e7];kernel_rfl,k4,_,KW.size,rfl,r4⟩
  ·obtain⟨ib,g1,e8,r8⟩:=hu 8 (by simp) (by decide)
   have hbd:=build_state W (a:=some ⟨ib,0,none⟩) (n:=N8) (c:=N8)
   refine ac4 rfl fun KK hKK=>?_
   show wpListIn NF m Tryz.prog _ _ _ (Act.put (Act.put (Act.put (Act.put (Act.put (Act.put (Act.put (Act.put _ (some 37) (u 3)) (some 41) (u 7)) (some 42) (u 8)) (some 43) (u 9)) (some 44) (u 10)) (some 45) (u 11)) (some 46) (u 12)) (some 47) (u 13)) _
   rw[e8]
   gi_wp2
   exact⟨.agg #[.int .u16 0,.int .u16 0,.int .u16 0,.slice (some ⟨ib,0,none⟩) N8 N8],by rw[←e8];kernel_rfl,Keep.refl _ _,ib,g1,rfl,r8⟩
  ·refine ac4 rfl fun KK hKK=>?_
   show wpListIn NF m Tryz.prog _ _ _ (Act.put (Act.put (Act.put (Act.put (Act.put (Act.put (Act.put (Act.put _ (some 37) (u 3)) (some 41) (u 7)) (some 42) (u 8)) (some 43) (u 9)) (some 44) (u 10)) (some 45) (u 11)) (some 46) (u 12)) (some 47) (u 13)) _
   gi_wp2
   exact⟨.slice (some ⟨W.heap.size,0,none⟩) 1 1,by kernel_rfl,(Keep.refl _ _).alloc _,_,rfl,aa4 rfl⟩
  ·obtain⟨vb,e10,r10⟩:=hu 10 (by simp) (by decide)
   refine ac4 rfl fun KK hKK=>?_
   show wpListIn NF m Tryz.prog _ _ _ (Act.put (Act.put (Act.put (Act.put (Act.put (Act.put (Act.put (Act.put _ (some 37) (u 3)) (some 41) (u 7)) (some 42) (u 8)) (some 43) (u 9)) (some 44) (u 10)) (some 45) (u 11)) (some 46) (u 12)) (some 47) (u 13)) _
   rw[e10]
   gi_wp2_with fail
   refine(repeat_calls _ W vb r10).mono ?_
   rintro e w4 ⟨k4,rfl,r4⟩
   gi_wp2
   exact⟨.slice (some ⟨W.heap.size,0,none⟩) 6 6,by rw[←e10];kernel_rfl,k4,_,KW.size,rfl,r4⟩
  ·obtain⟨ib,g1,e9,r9⟩:=hu 9 (by simp) (by decide)
   obtain⟨fb,g2,e11,r11⟩:=hu 11 (by simp) (by decide)
   obtain⟨x,hbx,hxc⟩:=build_proc W (ib:=ib) (fb:=fb) (L:=N8)
   refine ac4 rfl fun KK hKK=>?_
   show wpListIn NF m Tryz.prog _ _ _ (Act.put (Act.put (Act.put (Act.put (Act.put (Act.put (Act.put (Act.put _ (some 37) (u 3)) (some 41) (u 7)) (some 42) (u 8)) (some 43) (u 9)) (some 44) (u 10)) (some 45) (u 11)) (some 46) (u 12)) (some 47) (u 13)) _
   rw[e9,e11]
   gi_wp2
   exact⟨.agg #[.int .i64 0,.int .i64 0,.bool false,.int .u16 0,.nilFunc,.int .u16 0,.int .u16 0,.int .u16 0,.slice (some ⟨ib,0,none⟩) N8 N8,.slice (some ⟨fb,0,none⟩) 6 6,.int .i64 0,.int .i64 0],by rw[←e9,←e11];kernel_rfl,Keep.refl _ _,ib,fb,g1,g2,rfl,r9,r11⟩
  ·obtain⟨ib,fb,g1,g2,e12,r1,r2⟩:=hu 12 (by simp) (by decide)
   refine ac4 rfl fun KK hKK=>?_
   show wpListIn NF m Tryz.prog _ _ _ (Act.put (Act.put (Act.put (Act.put (Act.put (Act.put (Act.put (Act.put _ (some 37) (u 3)) (some 41) (u 7)) (some 42) (u 8)) (some 43) (u 9)) (some 44) (u 10)) (some 45) (u 11)) (some 46) (u 12)) (some 47) (u 13)) _
   have e12:u 12=.agg #[.int .i64 0,.int .i64 0,.bool false,.int .u16 0,.nilFunc,.int .u16 0,.int .u16 0,.int .u16 0,.slice (some ⟨ib,0,none⟩) N8 N8,.slice (some ⟨fb,0,none⟩) 6 6,.int .i64 0,.int .i64 0]:=e12
   rw[e12]
   gi_wp2
   exact⟨.pointer (some ⟨W.heap.size,0,none⟩),by rw[←e12];kernel_rfl,(Keep.refl _ _).alloc _,W.heap.size,ib,fb,KW.size,g1,g2,rfl,aa4 rfl,r1.keep ((Keep.refl No _).alloc _) id,r2.keep ((Keep.refl No _).alloc _) id⟩
 intro u W hK hu
 obtain⟨pb,ib,fb,g0,g1,g2,e13,p13,r1,r2⟩:=hu 13 (by simp)
 show wpListIn NF m Tryz.prog _ _ _ (Act.put (Act.put (Act.put (Act.put (Act.put (Act.put (Act.put (Act.put _ (some 37) (u 3)) (some 41) (u 7)) (some 42) (u 8)) (some 43) (u 9)) (some 44) (u 10)) (some 45) (u 11)) (some 46) (u 12)) (some 47) (u 13)) _
 rw[e13]
 have KW:Keep No w W:=KW3.drew.then hK
 have hkW:=hK.old (heap_drew.trans hk3) id
 have q3:=hK.old (heap_drew.trans q3) id
 have q5:=hK.old (heap_drew.trans q5) id
 have hnb:nblk N8≤M:=by unfold nblk at h8 m8 ⊢;omega
 have hL1:1≤N8:=by unfold nblk at h8;omega
 have hL2:N8≤128:=by unfold nblk at h8;omega
 have tkp:kb≠pb:=ac2 hkW p13 (by decide)
 have tkc:kb≠cb:=ac2 hkW q3 (by decide)
 have tcs:cb≠sb:=ac2 q3 q5 (by decide)
 have tcp:cb≠pb:=ac2 q3 p13 (by decide)
 obtain⟨i1,i2,_⟩:=id r1
 obtain⟨f1,f2,_⟩:=id r2
 have tik:ib≠kb:=ac2 i2 hkW (by decide)
 have tis:ib≠sb:=ac2 i2 q5 (by decide)
 have tip:ib≠pb:=ac2 i2 p13 (by decide)
 have tfk:fb≠kb:=ac2 f2 hkW (by decide)
 have tfs:fb≠sb:=ac2 f2 q5 (by decide)
 have tfp:fb≠pb:=ac2 f2 p13 (by decide)
 clear hK hu c2 c3 b5 hk3
 gi_wp2_with fail
 refine(admit_calls _ W kb pb sb M ib N8 fb (kernC cb sb) _ p13 hkW rfl rfl rfl ⟨rfl,q5⟩ hnb hL1 hL2 (by omega)).mono ?_
 rintro e w4 ⟨rfl,K4,hp4,v',ks',prb,pc,prs,a1,a2,a3,a4,a5,a6,a7,a8,a9⟩
 gi_wp2
 go_ret2
 have KZ:Keep No w w4:=KW.trans K4 (fun k hk e=>absurd hk (by rcases e with e|e|e<;>omega))
 refine⟨KZ,⟨kb,prb,pc,pb,cb,sb,ib,fb,C,M,N8,ah5 n img⟩,by simp,⟨ks',prs,_,v',⟨a1,a2.trans rfl,a3,a5,a8,a9,hp4,r1.keep K4 (by rintro(e|e|e)<;>contradiction),r2.keep K4 (by rintro(e|e|e)<;>contradiction),⟨rfl,K4.old q3 (by rintro(e|e|e);exact tkc e.symm;exact tcs e;exact tcp e)⟩,a4,by omega,by omega,by omega⟩⟩,?_,a6,rfl,rfl,rfl,rfl⟩
 have:=KW.size
 rintro k (e|e|e|e|e|e|e)<;>simp only at e<;>omega
end
structure Lists (T:Nat→Nat) (w:World) (tl:Nat→Value) (ls:List (Value×Int)):Prop where
 n5:tl 5=.slice none 0 0
 n7:tl 7=.slice none 0 0
 o9:w.ownsRow 0 23 1 (tl 9) ls.length (ls.map (·.1))
 o10:w.ownsRow 0 3 1 (tl 10) ls.length (ls.map fun x=>.int .i64 x.2)
 t9:∀g,(tl 9).ownBlock=some g→T g=7
 t10:∀g,(tl 10).ownBlock=some g→T g=8
 each:∀x∈ls,∃xb xc,x.1=.slice (some ⟨xb,0,none⟩) 2 xc∧T xb=6∧∀q,q<2→∃yb,w.cell? ⟨xb,q,none⟩=some (.slice (some ⟨yb,0,none⟩) 1 1)∧T yb=6∧w.cell? ⟨yb,0,none⟩=some (.int .i64 x.2)
theorem Lists.keep {T T':Nat→Nat} {w w':World} {tl:Nat→Value} {ls:List (Value×Int)} {S:Nat→Prop} (h:Lists T w tl ls) (hK:Keep S w w') (hn:∀k,6≤T k→T k≤8→¬S k) (hT:∀k,k<w.heap.size→6≤T k→T k≤8→T' k=T k):Lists T' w' tl ls:=by
 refine⟨h.n5,h.n7,aa3 h.o9 hK (fun g hg=>hn g (by rw[h.t9 g hg];omega) (by rw[h.t9 g hg];omega)),aa3 h.o10 hK (fun g hg=>hn g (by rw[h.t10 g hg];omega) (by rw[h.t10 g hg];omega)),fun g hg=>(hT g (h.o9.lt g hg).2 (by rw[h.t9 g hg];omega) (by rw[h.t9 g hg];omega)).trans (h.t9 g hg),fun g hg=>(hT g (h.o10.lt g hg).2 (by rw[h.t10 g hg];omega) (by rw[h.t10 g hg];omega)).trans (h.t10 g hg),fun x hx=>?_⟩
 obtain⟨xb,xc,e,t,hq⟩:=h.each x hx
 have lx:xb<w.heap.size:=by
  obtain⟨yb,h1,_⟩:=hq 0 (by omega)
  exact World.block_lt_of_cell? _ _ h1
 refine⟨xb,xc,e,(hT xb lx (by omega) (by omega)).trans t,fun q hq'=>?_⟩
 obtain⟨yb,h1,h2,h3⟩:=hq q hq'
 have ly:yb<w.heap.size:=World.block_lt_of_cell? _ _ h3
 exact⟨yb,(hK.cell (p:=⟨xb,q,none⟩) lx (hn xb (by omega) (by omega))).trans h1,(hT yb ly (by omega) (by omega)).trans h2,(hK.cell (p:=⟨yb,0,none⟩) ly (hn yb (by omega) (by omega))).trans h3⟩
theorem row_at {w:World} {e:TypeId} {v:Value} {l:List Value} {k:Nat} (h:w.ownsRow 0 e 1 v l.length l) (hk:k<l.length):∃g c,v=.slice (some ⟨g,0,none⟩) l.length c∧w.cell? ⟨g,k,none⟩=l[k]?:=by
 have h2:=h.2
 rcases h2 with⟨_,e0⟩|⟨g,cap,cur,rfl,hb,hg,hc,_⟩
 ·omega
 ·exact⟨g,cap,rfl,h.cellAt k (by omega)⟩
section
variable (m:Nat) (w:World)
set_option maxHeartbeats 16000000 in
theorem looks_calls (T:Nat→Nat) (bk mm:Nat) (tl:Nat→Value) (es fs ls:List (Value×Int)) (h:Book T w bk tl mm es fs) (hL:Lists T w tl ls) (he:es.length≤1000000000) (hf:fs.length≤1000000000) (hl:ls.length≤1000):
  CallsIn NF m Tryz.prog 34 #[.pointer (some ⟨bk,0,none⟩)] w fun e w'=>e=.returned (.bool true)∧Keep No w w':=by
 obtain⟨v1,v2,v3,v4,R,hE,hF⟩:=h
 obtain⟨a1,c1,hv1⟩:=ac1 R.o1
 obtain⟨a2,c2,hv2⟩:=ac1 R.o2
 obtain⟨a3,c3,hv3⟩:=ac1 R.o3
 obtain⟨a4,c4,hv4⟩:=ac1 R.o4
 obtain⟨a9,c9,hv9⟩:=ac1 hL.o9
 obtain⟨a10,c10,hv10⟩:=ac1 hL.o10
 have e1:(es.map (·.1)).length=es.length:=by simp
 have e2:(es.map fun x=>Value.int .i64 x.2).length=es.length:=by simp
 have e3:(fs.map (·.1)).length=fs.length:=by simp
 have e4:(fs.map fun x=>Value.int .i64 x.2).length=fs.length:=by simp
 rw[e1]at hv1
 rw[e2]at hv2
 rw[e3]at hv3
 rw[e4]at hv4
 have b1:w.cell? ⟨bk,1,none⟩=some (.slice a1 es.length c1):=by rw[aa0 R.blk,hv1];rfl
 have b2:w.cell? ⟨bk,2,none⟩=some (.slice a2 es.length c2):=by rw[aa0 R.blk,hv2];rfl
 have b3:w.cell? ⟨bk,3,none⟩=some (.slice a3 fs.length c3):=by rw[aa0 R.blk,hv3];rfl
 have b4:w.cell? ⟨bk,4,none⟩=some (.slice a4 fs.length c4):=by rw[aa0 R.blk,hv4];rfl
 have b5:w.cell? ⟨bk,5,none⟩=some (.slice none 0 0):=by rw[aa0 R.blk,hL.n5];rfl
 have b7:w.cell? ⟨bk,7,none⟩=some (.slice none 0 0):=by rw[aa0 R.blk,hL.n7];rfl
 have b9:w.cell? ⟨bk,9,none⟩=some (.slice a9 ls.length c9):=by rw[aa0 R.blk,hv9];rfl
 have b10:w.cell? ⟨bk,10,none⟩=some (.slice a10 ls.length c10):=by rw[aa0 R.blk,hv10];rfl
 have rE:∀k,k<es.length→∃g1 g2 a n c mk,a1=some ⟨g1,0,none⟩∧a2=some ⟨g2,0,none⟩∧w.cell? ⟨g1,k,none⟩=some (.slice a n c)∧w.cell? ⟨g2,k,none⟩=some (.int .i64 mk)∧n≤100000000∧(0<n→∃rb,a=some ⟨rb,0,none⟩∧∀i,i<n→w.cell? ⟨rb,i,none⟩=some (.int .i64 mk)):=fun k hk=>by
  obtain⟨g1,d1,q1,q2⟩:=row_at R.o1 (k:=k) (by simpa using hk)
  obtain⟨g2,d2,q3,q4⟩:=row_at R.o2 (k:=k) (by simpa using hk)
  rw[hv1]at q1
  rw[hv2]at q3
  injection q1 with q1
  injection q3 with q3
  obtain⟨N,hN,a,n,c,ex,hn,hr⟩:=hE es[k] (List.getElem_mem hk)
  refine⟨g1,g2,a,n,c,es[k].2,q1,q3,?_,?_,by omega,fun h0=>?_⟩
  ·rw[q2,←ex];simp[hk]
  ·rw[q4];simp[hk]
  ·obtain⟨rb,h1,_,h2⟩:=hr h0
   exact⟨rb,h1,h2⟩
 have rF:∀k,k<fs.length→∃g1 g2 a n c mk,a3=some ⟨g1,0,none⟩∧a4=some ⟨g2,0,none⟩∧w.cell? ⟨g1,k,none⟩=some (.slice a n c)∧w.cell? ⟨g2,k,none⟩=some (.int .i64 mk)∧n≤100000000∧(0<n→∃rb,a=some ⟨rb,0,none⟩∧∀i,i<n→∀q,q<4→w.cell? ⟨rb,i*4+q,none⟩=(evM mk)[q]?):=fun k hk=>by
  obtain⟨g1,d1,q1,q2⟩:=row_at R.o3 (k:=k) (by simpa using hk)
  obtain⟨g2,d2,q3,q4⟩:=row_at R.o4 (k:=k) (by simpa using hk)
  rw[hv3]at q1
  rw[hv4]at q3
  injection q1 with q1
  injection q3 with q3
  obtain⟨N,hN,a,n,c,ex,hn,hr⟩:=hF fs[k] (List.getElem_mem hk)
  refine⟨g1,g2,a,n,c,fs[k].2,q1,q3,?_,?_,by omega,fun h0=>?_⟩
  ·rw[q2,←ex];simp[hk]
  ·rw[q4];simp[hk]
  ·obtain⟨rb,h1,_,_,h2⟩:=hr h0
   exact⟨rb,h1,h2⟩
 have rL:∀k,k<ls.length→∃g1 g2 xb xc mk,a9=some ⟨g1,0,none⟩∧a10=some ⟨g2,0,none⟩∧w.cell? ⟨g1,k,none⟩=some (.slice (some ⟨xb,0,none⟩) 2 xc)∧w.cell? ⟨g2,k,none⟩=some (.int .i64 mk)∧∀q,q<2→∃yb,w.cell? ⟨xb,q,none⟩=some (.slice (some ⟨yb,0,none⟩) 1 1)∧w.cell? ⟨yb,0,none⟩=some (.int .i64 mk):=fun k hk=>by
  have o9:=hL.o9
  have o10:=hL.o10
  rw[show ls.length=(ls.map (·.1)).length by simp]at o9
  rw[show ls.length=(ls.map fun x=>Value.int .i64 x.2).length by simp]at o10
  obtain⟨g1,d1,q1,q2⟩:=row_at o9 (k:=k) (by simpa using hk)
  obtain⟨g2,d2,q3,q4⟩:=row_at o10 (k:=k) (by simpa using hk)
  rw[hv9]at q1
  rw[hv10]at q3
  injection q1 with q1
  injection q3 with q3
  obtain⟨xb,xc,ex,_,hr⟩:=hL.each ls[k] (List.getElem_mem hk)
  refine⟨g1,g2,xb,xc,ls[k].2,q1,q3,?_,?_,fun q hq=>?_⟩
  ·rw[q2,←ex];simp[hk]
  ·rw[q4];simp[hk]
  ·obtain⟨yb,h1,_,h2⟩:=hr q hq
   exact⟨yb,h1,h2⟩
 clear hE hF R hL e1 e2 e3 e4 hv1 hv2 hv3 hv4 hv9 hv10
 generalize es.length=ne at*
 generalize fs.length=nf at*
 generalize ls.length=nl at*
 gi_enter Tryz.func34,Tryz.ntmps34
 gi_wp2
 gi_loopw [3] (fun i wr=>∃k:Nat,k≤ne∧i=.int .i64 k∧Keep No w wr) (fun i _=>ne-(intOf i).toNat)
 case atStart=>exact⟨0,Nat.zero_le _,rfl,Keep.refl _ _⟩
 case round=>
  obtain⟨k,hk,rfl,hK⟩:=hrel
  have d1:=hK.has b1
  have d2:=hK.has b2
  by_cases hlt:k<ne
  ·obtain⟨g1,g2,a,n,c,mk,rfl,rfl,x1,x2,hn,hr⟩:=rE k hlt
   clear rE rF rL
   have y1:=hK.has x1
   have y2:=hK.has x2
   gi_wp2
   gi_loopw [4] (fun i wr'=>∃j:Nat,j≤n∧i=.int .i64 j∧Keep No w wr') (fun i _=>n-(intOf i).toNat)
   case atStart=>exact⟨0,Nat.zero_le _,rfl,hK⟩
   case round=>
    obtain⟨j,hj,rfl,hK'⟩:=hrel
    clear d1 d2 y1 y2
    have d1:=hK'.has b1
    have d2:=hK'.has b2
    have y1:=hK'.has x1
    have y2:=hK'.has x2
    by_cases hjn:j<n
    ·obtain⟨rb,rfl,hc⟩:=hr (by omega)
     have z:=hc j hjn
     have z1:=hK'.has z
     have hjn':(j:Int)<n:=by omega
     have hlt':(k:Int)<ne:=by omega
     gi_wp2
     refine aa9 (P:=Tryz.prog) No _ rfl rfl (by kernel_rfl) 17 233 [0,1,2,3,4,5,6,7,8,9,10,11,12,13,14,15,16] [] (by kernel_rfl) (by rfl) (fun _ _ _=>True) (fun _ _ _ _ _ h _=>h) _ _ rfl rfl ?_
     gi_wp2
     refine⟨rfl,by kernel_rfl,?_,(fun i hi=>absurd hi (by simp)),?_⟩
     ·intro V hV
      have p1:=hV.has (w:=wr.drew) d1
      have p2:=hV.has (w:=wr.drew) d2
      have p3:=hV.has (w:=wr.drew) y1
      have p4:=hV.has (w:=wr.drew) y2
      have p5:=hV.has (w:=wr.drew) z1
      repeat' (refine aa8 ?_ ?_)
      all_goals first|exact trivial|gi_wp2
     intro u1 V hV _
     simp only[putS]
     gi_wp2
     go_roundw
     case rel=>exact⟨j+1,by omega,by go_num,hK'.drew.then hV⟩
     case measure=>simp[intOf];omega
    ·have hjn':¬(j:Int)<n:=by omega
     have hlt':(k:Int)<ne:=by omega
     gi_wp2
     go_roundw
     case rel=>exact⟨k+1,by omega,by go_num,hK'⟩
     case measure=>simp[intOf];omega
  have hlt':¬(k:Int)<ne:=by omega
  gi_wp2
  clear d1 d2
  gi_loopw [5] (fun i wr=>∃k:Nat,k≤nf∧i=.int .i64 k∧Keep No w wr) (fun i _=>nf-(intOf i).toNat)
  case atStart=>exact⟨0,Nat.zero_le _,rfl,hK⟩
  case round=>
   clear hK hlt hlt' hk
   obtain⟨k,hk,rfl,hK⟩:=hrel
   have d1:=hK.has b3
   have d2:=hK.has b4
   by_cases hlt:k<nf
   ·obtain⟨g1,g2,a,n,c,mk,rfl,rfl,x1,x2,hn,hr⟩:=rF k hlt
    clear rE rF rL
    have y1:=hK.has x1
    have y2:=hK.has x2
    gi_wp2
    gi_loopw [6] (fun i wr'=>∃j:Nat,j≤n∧i=.int .i64 j∧Keep No w wr') (fun i _=>n-(intOf i).toNat)
    case atStart=>exact⟨0,Nat.zero_le _,rfl,hK⟩
    case round=>
     obtain⟨j,hj,rfl,hK'⟩:=hrel
     clear d1 d2 y1 y2
     have d1:=hK'.has b3
     have d2:=hK'.has b4
     have y1:=hK'.has x1
     have y2:=hK'.has x2
     by_cases hjn:j<n
     ·obtain⟨rb,rfl,hc⟩:=hr (by omega)
      have z0:w.cell? ⟨rb,j*4,none⟩=some (.int .i64 mk):=hc j hjn 0 (by omega)
      have z1:w.cell? ⟨rb,j*4+1,none⟩=some (.int .i64 0):=hc j hjn 1 (by omega)
      have z2:w.cell? ⟨rb,j*4+2,none⟩=some (.int .i64 0):=hc j hjn 2 (by omega)
      have z3:w.cell? ⟨rb,j*4+3,none⟩=some (.int .i64 0):=hc j hjn 3 (by omega)
      have s0:=hK'.has z0
      have s1:=hK'.has z1
      have s2:=hK'.has z2
      have s3:=hK'.has z3
      have hjn':(j:Int)<n:=by omega
      have hlt':(k:Int)<nf:=by omega
      have hbd:=build_evM wr.drew mk
      clear hr hc
      gi_wp2
      refine aa9 (P:=Tryz.prog) No _ rfl rfl (by kernel_rfl) 18 233 [0,1,2,3,4,5,6,7,8,9,10,11,12,13,14,15,16,17] [] (by kernel_rfl) (by rfl) (fun _ _ _=>True) (fun _ _ _ _ _ h _=>h) _ _ rfl rfl ?_
      gi_wp2
      refine⟨rfl,by kernel_rfl,?_,(fun i hi=>absurd hi (by simp)),?_⟩
      ·intro V hV
       have p1:=hV.has (w:=wr.drew) d1
       have p2:=hV.has (w:=wr.drew) d2
       have p3:=hV.has (w:=wr.drew) y1
       have p4:=hV.has (w:=wr.drew) y2
       have p5:=hV.has (w:=wr.drew) s0
       have p6:=hV.has (w:=wr.drew) s1
       have p7:=hV.has (w:=wr.drew) s2
       have p8:=hV.has (w:=wr.drew) s3
       have hbd:=build_evM V mk
       repeat' (refine aa8 ?_ ?_)
       all_goals first|exact trivial|gi_wp2
      intro u1 V hV _
      simp only[putS]
      gi_wp2
      go_roundw
      case rel=>exact⟨j+1,by omega,by go_num,hK'.drew.then hV⟩
      case measure=>simp[intOf];omega
     ·have hjn':¬(j:Int)<n:=by omega
      have hlt':(k:Int)<nf:=by omega
      gi_wp2
      go_roundw
      case rel=>exact⟨k+1,by omega,by go_num,hK'⟩
      case measure=>simp[intOf];omega
   have hlt':¬(k:Int)<nf:=by omega
   have d5:=hK.has b5
   have d7:=hK.has b7
   gi_wp2
   refine wpIn_loop_once ?_
   gi_wp2
   refine wpIn_loop_once ?_
   gi_wp2
   clear d1 d2 d5 d7
   gi_loopw [12] (fun i wr=>∃k:Nat,k≤nl∧i=.int .i64 k∧Keep No w wr) (fun i _=>nl-(intOf i).toNat)
   case atStart=>exact⟨0,Nat.zero_le _,rfl,hK⟩
   case round=>
    clear hK hlt hlt' hk
    obtain⟨k,hk,rfl,hK⟩:=hrel
    have d1:=hK.has b9
    have d2:=hK.has b10
    by_cases hlt:k<nl
    ·obtain⟨g1,g2,xb,xc,mk,rfl,rfl,x1,x2,hr⟩:=rL k hlt
     clear rE rF rL
     have y1:=hK.has x1
     have y2:=hK.has x2
     gi_wp2
     gi_loopw [13] (fun i wr'=>∃j:Nat,j≤2∧i=.int .i64 j∧Keep No w wr') (fun i _=>2-(intOf i).toNat)
     case atStart=>exact⟨0,Nat.zero_le _,rfl,hK⟩
     case round=>
      obtain⟨j,hj,rfl,hK'⟩:=hrel
      clear d1 d2 y1 y2
      have d1:=hK'.has b9
      have d2:=hK'.has b10
      have y1:=hK'.has x1
      have y2:=hK'.has x2
      by_cases hjn:j<2
      ·obtain⟨yb,z0,z1⟩:=hr j hjn
       have s0:=hK'.has z0
       have s1:=hK'.has z1
       have hjn':(j:Int)<2:=by omega
       have hlt':(k:Int)<nl:=by omega
       gi_wp2
       refine aa9 (P:=Tryz.prog) No _ rfl rfl (by kernel_rfl) 14 233 [0,1,2,3,4,5,6,7,8,9,10,11,12,13] [] (by kernel_rfl) (by rfl) (fun _ _ _=>True) (fun _ _ _ _ _ h _=>h) _ _ rfl rfl ?_
       gi_wp2
       refine⟨rfl,by kernel_rfl,?_,(fun i hi=>absurd hi (by simp)),?_⟩
       ·intro V hV
        have p1:=hV.has (w:=wr.drew) d1
        have p2:=hV.has (w:=wr.drew) d2
        have p3:=hV.has (w:=wr.drew) y1
        have p4:=hV.has (w:=wr.drew) y2
        have p5:=hV.has (w:=wr.drew) s0
        have p6:=hV.has (w:=wr.drew) s1
        repeat' (refine aa8 ?_ ?_)
        all_goals first|exact trivial|gi_wp2
       intro u1 V hV _
       simp only[putS]
       gi_wp2
       go_roundw
       case rel=>exact⟨j+1,by omega,by go_num,hK'.drew.then hV⟩
       case measure=>simp[intOf];omega
      ·have hjn':¬(j:Int)<2:=by omega
       have hlt':(k:Int)<nl:=by omega
       gi_wp2
       go_roundw
       case rel=>exact⟨k+1,by omega,by go_num,hK'⟩
       case measure=>simp[intOf];omega
    have hlt':¬(k:Int)<nl:=by omega
    gi_wp2
    go_ret
    exact⟨by simp,hK⟩
end
end Go.Fxa
