/- The processor: words of the image, the word that an operation speaks of. The processor: one instruction. Small functions, and loops over lists of numbers. -/
import Derived.Test.YtmhplpfpcnjekaaGreatK15
import Derived.WalkKit
import Derived.BigFrameIn
import Derived.BigGuardIn
namespace Go.Fxa
open Go.Conc
open Go.Proofs
open Go.RowKit
set_option maxRecDepth 1000000
theorem Keep.set1 {w:World} {b o:Nat} (u:Value):Keep (At b) w (w.setCell ⟨b,o,none⟩ u):=(Keep.refl _ _).setCell _ fun _=>rfl
section
variable (pb ib c L n a m:Nat) (w:World)
theorem ae8 (h8:w.cell? ⟨pb,8,none⟩=some (.slice (some ⟨ib,0,none⟩) L c)) (hn:1≤n) (ha:a<65536) (hL:L≤128) (hc:L≤c) (h:a+n≤L):
  CallsIn NF m Tryz.prog 138 #[.pointer (some ⟨pb,5,none⟩),.int .u16 a,.int .i64 n] w fun e w'=>e=.returned (.tuple #[.slice (some ⟨ib,a,none⟩) n n,.bool true])∧w'=w:=by
 gi_enter Tryz.func138,Tryz.ntmps138
 gi_wp2
 go_ret2
 exact⟨by simp,rfl⟩
theorem words_no (h8:w.cell? ⟨pb,8,none⟩=some (.slice (some ⟨ib,0,none⟩) L c)) (hn:1≤n) (hn':n≤128) (ha:a<65536) (h:¬a+n≤L):
  CallsIn NF m Tryz.prog 138 #[.pointer (some ⟨pb,5,none⟩),.int .u16 a,.int .i64 n] w fun e w'=>e=.returned (.tuple #[.slice none 0 0,.bool false])∧w'=w:=by
 gi_enter Tryz.func138,Tryz.ntmps138
 gi_wp2
 go_ret2
 exact⟨by simp,rfl⟩
theorem words_zero:
  CallsIn NF m Tryz.prog 138 #[.pointer (some ⟨pb,5,none⟩),.int .u16 a,.int .i64 0] w fun e w'=>e=.returned (.tuple #[.slice none 0 0,.bool true])∧w'=w:=by
 gi_enter Tryz.func138,Tryz.ntmps138
 gi_wp2
 go_ret2
 exact⟨rfl,rfl⟩
def spot (op A n:Nat):Nat:=if op=9 then A else n
theorem ag9 (op A:Nat) (h5:w.cell? ⟨pb,5,none⟩=some (.int .u16 A)) (h10:op≠10):
  CallsIn NF m Tryz.prog 244 #[.pointer (some ⟨pb,5,none⟩),.int .u16 op,.int .u16 n] w fun e w'=>e=.returned (.int .u16 (spot op A n:Nat))∧w'=w:=by
 by_cases h9:op=9
 ·have e:spot op A n=A:=if_pos h9
  rw[e]
  gi_enter Tryz.func244,Tryz.ntmps244
  gi_wp2
  all_goals go_ret
  all_goals exact⟨by simp,rfl⟩
 ·have e:spot op A n=n:=if_neg h9
  rw[e]
  gi_enter Tryz.func244,Tryz.ntmps244
  gi_wp2
  all_goals go_ret
  all_goals exact⟨by simp,rfl⟩
def ai5 (L:Nat) (img:Nat→Nat) (A op n:Nat):Nat×Nat:=
 if spot op A n<L then
  if op=2∨op=9 then(0,img (spot op A n))else if op=4 then(0,(A+img n) % 65536)else if op=5 then(0,(A+65536-img n) % 65536)else(2,A)
 else(2,A)
theorem wrap_u16 (x:Int):IntKind.u16.wrap x=x % 65536:=rfl
theorem wrap_add {a b:Nat}:IntKind.u16.wrap ((a:Int)+(b:Int))=(((a+b) % 65536:Nat):Int):=by rw[wrap_u16];omega
theorem wrap_sub {a b:Nat} (h:b<65536):IntKind.u16.wrap ((a:Int)-(b:Int))=(((a+65536-b) % 65536:Nat):Int):=by rw[wrap_u16];omega
def prc (T:TypeId) (c0 c1 c2 c3 c4:Value) (A B P:Nat) (im fd sw co:Value):Obj:=.cells #[c0,c1,c2,c3,c4,.int .u16 A,.int .u16 B,.int .u16 P,im,fd,sw,co] T (0,0)
theorem touch_calls (T:TypeId) (c0 c1 c2 c3 c4 fd sw co:Value) (A B P op:Nat) (img:Nat→Nat) (hb:w.heap[pb]?=some (prc T c0 c1 c2 c3 c4 A B P (.slice (some ⟨ib,0,none⟩) L c) fd sw co))
  (hi:∀i,i<L→w.cell? ⟨ib,i,none⟩=some (.int .u16 (img i))) (hw:∀i,i<L→img i<65536) (hA:A<65536) (hn:n<65536) (hL:L≤128) (hc:L≤c) (h3:op≠3) (h10:op≠10) (hne:ib≠pb):
  CallsIn NF m Tryz.prog 226 #[.pointer (some ⟨pb,5,none⟩),.int .u16 op,.int .u16 n] w fun e w'=>e=.returned (.int .i64 (ai5 L img A op n).1)∧Keep (At pb) w w'∧w'.heap[pb]?=some (prc T c0 c1 c2 c3 c4 (ai5 L img A op n).2 B P (.slice (some ⟨ib,0,none⟩) L c) fd sw co):=by
 have h5:w.cell? ⟨pb,5,none⟩=some (.int .u16 A):=by rw[aa0 hb];rfl
 have h8:w.cell? ⟨pb,8,none⟩=some (.slice (some ⟨ib,0,none⟩) L c):=by rw[aa0 hb];rfl
 have f5:w.frozen? ⟨pb,5,none⟩=false:=ab3 hb 5
 have hat:spot op A n<65536:=by unfold spot;split<;>assumption
 generalize hs:spot op A n=at_ at hat
 have hid:Hid (spot op A n=at_):=hs
 have e1:ai5 L img A op n=if at_<L then if op=2∨op=9 then(0,img at_)else if op=4 then(0,(A+img n) % 65536)else if op=5 then(0,(A+65536-img n) % 65536)else(2,A)else(2,A):=by unfold ai5;rw[hs]
 generalize hr:ai5 L img A op n=r at e1
 clear hr hs
 by_cases hlt:at_<L
 ·have hx:=hi at_ hlt
  have hxl:=hw at_ hlt
  rw[if_pos hlt]at e1
  by_cases h2:op=2
  ·rw[if_pos (.inl h2)]at e1
   subst h2 e1
   gi_enter Tryz.func226,Tryz.ntmps226
   gi_wp2_with (first|(gi_at_call 244;refine(ag9 pb n _ w 2 A h5 h10).mono ?_;rintro e w' ⟨rfl,rfl⟩;rw[hid.out])|(gi_at_call 138;refine(ae8 pb ib c L 1 at_ _ _ h8 (by omega) hat hL hc (by omega)).mono ?_;rintro e w' ⟨rfl,rfl⟩))
   go_ret
   exact⟨by simp,(Keep.refl _ _).setCell _ (fun _=>rfl),aa2 hb _⟩
  by_cases h9:op=9
  ·rw[if_pos (.inr h9)]at e1
   subst h9 e1
   gi_enter Tryz.func226,Tryz.ntmps226
   gi_wp2_with (first|(gi_at_call 244;refine(ag9 pb n _ w 9 A h5 h10).mono ?_;rintro e w' ⟨rfl,rfl⟩;rw[hid.out])|(gi_at_call 138;refine(ae8 pb ib c L 1 at_ _ _ h8 (by omega) hat hL hc (by omega)).mono ?_;rintro e w' ⟨rfl,rfl⟩))
   go_ret
   exact⟨by simp,(Keep.refl _ _).setCell _ (fun _=>rfl),aa2 hb _⟩
  rw[if_neg (by omega)]at e1
  have hn':at_=n:=by have:=hid.out;unfold spot at this;rw[if_neg h9]at this;exact this.symm
  subst hn'
  by_cases h4:op=4
  ·rw[if_pos h4]at e1
   subst h4 e1
   gi_enter Tryz.func226,Tryz.ntmps226
   gi_wp2_with (first|(gi_at_call 244;refine(ag9 pb _ _ w 4 A h5 h10).mono ?_;rintro e w' ⟨rfl,rfl⟩;rw[hid.out])|(gi_at_call 138;refine(ae8 pb ib c L 1 at_ _ _ h8 (by omega) hat hL hc (by omega)).mono ?_;rintro e w' ⟨rfl,rfl⟩))
   gi_region
   all_goals (gi_wp2;go_ret)
   all_goals exact⟨by simp,(Keep.set1 _).drew,(heap_drew.trans (aa2 hb _)).trans (by rw[wrap_add];rfl)⟩
  rw[if_neg h4]at e1
  by_cases h5':op=5
  ·rw[if_pos h5']at e1
   subst h5' e1
   gi_enter Tryz.func226,Tryz.ntmps226
   gi_wp2_with (first|(gi_at_call 244;refine(ag9 pb _ _ w 5 A h5 h10).mono ?_;rintro e w' ⟨rfl,rfl⟩;rw[hid.out])|(gi_at_call 138;refine(ae8 pb ib c L 1 at_ _ _ h8 (by omega) hat hL hc (by omega)).mono ?_;rintro e w' ⟨rfl,rfl⟩))
   gi_region
   all_goals (gi_wp2;go_ret)
   all_goals exact⟨by simp,(Keep.set1 _).drew,(heap_drew.trans (aa2 hb _)).trans (by rw[wrap_sub (by omega)];rfl)⟩
  rw[if_neg h5']at e1
  subst e1
  gi_enter Tryz.func226,Tryz.ntmps226
  gi_wp2_with (first|(gi_at_call 244;refine(ag9 pb _ _ w op A h5 h10).mono ?_;rintro e w' ⟨rfl,rfl⟩;rw[hid.out])|(gi_at_call 138;refine(ae8 pb ib c L 1 at_ _ _ h8 (by omega) hat hL hc (by omega)).mono ?_;rintro e w' ⟨rfl,rfl⟩))
  all_goals go_ret
  all_goals exact⟨by simp,Keep.refl _ _,hb⟩
 ·rw[if_neg hlt]at e1
  subst e1
  gi_enter Tryz.func226,Tryz.ntmps226
  gi_wp2_with (first|(gi_at_call 244;refine(ag9 pb _ _ w op A h5 h10).mono ?_;rintro e w' ⟨rfl,rfl⟩;rw[hid.out])|(gi_at_call 138;refine(words_no pb ib c L 1 at_ _ _ h8 (by omega) (by omega) hat (by omega)).mono ?_;rintro e w' ⟨rfl,rfl⟩))
  go_ret
  exact⟨by simp,Keep.refl _ _,hb⟩
end
def ai2 (L:Nat) (img:Nat→Nat) (A B P:Nat):Nat×Nat×Nat×Nat×Nat:=
 if P+2≤L then
  if img P=1 then(0,0,img (P+1),B,P+2)
  else if img P=6 then(0,0,A,B,img (P+1))
  else if img P=7 then(0,0,A,B,if A=0 then img (P+1)else P+2)
  else if img P=8 then(0,0,B,A,P+2)
  else if img P=11 then(1,img (P+1),A,B,P+2)
  else((ai5 L img A (img P) (img (P+1))).1,0,(ai5 L img A (img P) (img (P+1))).2,B,P+2)
 else(2,0,A,B,P)
section
variable (pb ib c L m:Nat) (w:World)
set_option maxHeartbeats 4000000 in
theorem step_calls (T:TypeId) (c0 c1 c2 c3 c4 fd sw co:Value) (A B P:Nat) (img:Nat→Nat) (r:Nat×Nat×Nat×Nat×Nat) (hr:ai2 L img A B P=r) (hb:w.heap[pb]?=some (prc T c0 c1 c2 c3 c4 A B P (.slice (some ⟨ib,0,none⟩) L c) fd sw co))
  (hi:∀i,i<L→w.cell? ⟨ib,i,none⟩=some (.int .u16 (img i))) (hw:∀i,i<L→img i<65536) (hA:A<65536) (hP:P<65536) (hL:L≤128) (hc:L≤c) (h3:P+2≤L→img P≠3) (h10:P+2≤L→img P≠10) (hne:ib≠pb):
  CallsIn NF m Tryz.prog 185 #[.pointer (some ⟨pb,5,none⟩)] w fun e w'=>e=.returned (.tuple #[.int .i64 r.1,.int .u16 r.2.1])∧Keep (At pb) w w'∧w'.heap[pb]?=some (prc T c0 c1 c2 c3 c4 r.2.2.1 r.2.2.2.1 r.2.2.2.2 (.slice (some ⟨ib,0,none⟩) L c) fd sw co):=by
 have q5:w.cell? ⟨pb,5,none⟩=some (.int .u16 A):=by rw[aa0 hb];rfl
 have q6:w.cell? ⟨pb,6,none⟩=some (.int .u16 B):=by rw[aa0 hb];rfl
 have q7:w.cell? ⟨pb,7,none⟩=some (.int .u16 P):=by rw[aa0 hb];rfl
 have q8:w.cell? ⟨pb,8,none⟩=some (.slice (some ⟨ib,0,none⟩) L c):=by rw[aa0 hb];rfl
 have f5:w.frozen? ⟨pb,5,none⟩=false:=ab3 hb 5
 have f6:w.frozen? ⟨pb,6,none⟩=false:=ab3 hb 6
 have f7:w.frozen? ⟨pb,7,none⟩=false:=ab3 hb 7
 unfold ai2 at hr
 by_cases hP2:P+2≤L
 ·rw[if_pos hP2]at hr
  have i0:=hi P (by omega)
  have i1:=hi (P+1) (by omega)
  have n0:=hw P (by omega)
  have n1:=hw (P+1) (by omega)
  have g3:=h3 hP2
  have g10:=h10 hP2
  clear h3 h10
  have hid:Hid (∀i,i<L→w.cell? ⟨ib,i,none⟩=some (.int .u16 (img i))):=hi
  clear hi
  generalize he:img P=op at*
  generalize hf:img (P+1)=x at*
  have w2:IntKind.u16.wrap ((P:Int)+2)=(P:Int)+2:=by rw[wrap_u16];omega
  by_cases h1:op=1
  ·rw[if_pos h1]at hr
   subst h1 hr
   gi_enter Tryz.func185,Tryz.ntmps185
   gi_wp2_with (gi_at_call 138;refine(ae8 pb ib c L 2 P _ _ q8 (by omega) hP hL hc (by omega)).mono ?_;rintro e w' ⟨rfl,rfl⟩)
   gi_region
   all_goals gi_wp2
   all_goals go_ret2
   all_goals exact⟨by simp,by repeat (first|exact Keep.refl (At pb) _|refine Keep.drew ?_|refine Keep.setCell ?_ _ (fun _=>rfl)),by simp[World.setCell,World.drew,Array.getElem?_modify,hb,prc]⟩
  rw[if_neg h1]at hr
  by_cases h6:op=6
  ·rw[if_pos h6]at hr
   subst h6 hr
   gi_enter Tryz.func185,Tryz.ntmps185
   gi_wp2_with (gi_at_call 138;refine(ae8 pb ib c L 2 P _ _ q8 (by omega) hP hL hc (by omega)).mono ?_;rintro e w' ⟨rfl,rfl⟩)
   gi_region
   all_goals gi_wp2
   all_goals go_ret2
   all_goals exact⟨by simp,by repeat (first|exact Keep.refl (At pb) _|refine Keep.drew ?_|refine Keep.setCell ?_ _ (fun _=>rfl)),by simp[World.setCell,World.drew,Array.getElem?_modify,hb,prc]⟩
  rw[if_neg h6]at hr
  by_cases h7:op=7
  ·rw[if_pos h7]at hr
   subst h7
   by_cases hA0:A=0
   ·rw[if_pos hA0]at hr
    subst hA0 hr
    gi_enter Tryz.func185,Tryz.ntmps185
    gi_wp2_with (gi_at_call 138;refine(ae8 pb ib c L 2 P _ _ q8 (by omega) hP hL hc (by omega)).mono ?_;rintro e w' ⟨rfl,rfl⟩)
    gi_region
    all_goals gi_wp2
    all_goals go_ret2
    all_goals exact⟨by simp,by repeat (first|exact Keep.refl (At pb) _|refine Keep.drew ?_|refine Keep.setCell ?_ _ (fun _=>rfl)),by simp[World.setCell,World.drew,Array.getElem?_modify,hb,prc]⟩
   ·rw[if_neg hA0]at hr
    subst hr
    gi_enter Tryz.func185,Tryz.ntmps185
    gi_wp2_with (gi_at_call 138;refine(ae8 pb ib c L 2 P _ _ q8 (by omega) hP hL hc (by omega)).mono ?_;rintro e w' ⟨rfl,rfl⟩)
    gi_region
    all_goals gi_wp2
    all_goals go_ret2
    all_goals exact⟨by simp,by repeat (first|exact Keep.refl (At pb) _|refine Keep.drew ?_|refine Keep.setCell ?_ _ (fun _=>rfl)),by simp[World.setCell,World.drew,Array.getElem?_modify,hb,prc]⟩
  rw[if_neg h7]at hr
  by_cases h8:op=8
  ·rw[if_pos h8]at hr
   subst h8 hr
   gi_enter Tryz.func185,Tryz.ntmps185
   gi_wp2_with (gi_at_call 138;refine(ae8 pb ib c L 2 P _ _ q8 (by omega) hP hL hc (by omega)).mono ?_;rintro e w' ⟨rfl,rfl⟩)
   gi_region
   all_goals gi_wp2
   all_goals gi_region
   all_goals gi_wp2
   all_goals go_ret2
   all_goals exact⟨by simp,by repeat (first|exact Keep.refl (At pb) _|refine Keep.drew ?_|refine Keep.setCell ?_ _ (fun _=>rfl)),by simp[World.setCell,World.drew,Array.getElem?_modify,hb,prc]⟩
  rw[if_neg h8]at hr
  by_cases h11:op=11
  ·rw[if_pos h11]at hr
   subst h11 hr
   gi_enter Tryz.func185,Tryz.ntmps185
   gi_wp2_with (gi_at_call 138;refine(ae8 pb ib c L 2 P _ _ q8 (by omega) hP hL hc (by omega)).mono ?_;rintro e w' ⟨rfl,rfl⟩)
   gi_region
   all_goals gi_wp2
   all_goals go_ret2
   all_goals exact⟨by simp,by repeat (first|exact Keep.refl (At pb) _|refine Keep.drew ?_|refine Keep.setCell ?_ _ (fun _=>rfl)),by simp[World.setCell,World.drew,Array.getElem?_modify,hb,prc]⟩
  rw[if_neg h11]at hr
  have kb:=aa2 (i:=7) hb (.int .u16 ((P:Int)+2))
  have kb':((w.setCell ⟨pb,7,none⟩ (.int .u16 ((P:Int)+2)))).heap[pb]?=some (prc T c0 c1 c2 c3 c4 A B (P+2) (.slice (some ⟨ib,0,none⟩) L c) fd sw co):=by rw[kb];rfl
  have ki:∀i,i<L→((w.setCell ⟨pb,7,none⟩ (.int .u16 ((P:Int)+2)))).cell? ⟨ib,i,none⟩=some (.int .u16 (img i)):=fun i hi=>(World.cell?_setCell_other _ _ _ _ (fun e=>hne (by injection e with e;exact e.symm))).trans (hid.out i hi)
  generalize hu:w.setCell ⟨pb,7,none⟩ (.int .u16 ((P:Int)+2))=u at*
  have HU:Hid (w.setCell ⟨pb,7,none⟩ (.int .u16 ((P:Int)+2))=u):=hu
  subst hr
  gi_enter Tryz.func185,Tryz.ntmps185
  gi_wp2_with (gi_at_call 138;refine(ae8 pb ib c L 2 P _ _ q8 (by omega) hP hL hc (by omega)).mono ?_;rintro e w' ⟨rfl,rfl⟩)
  gi_region
  all_goals gi_wp2_with fail
  all_goals
   refine(touch_calls pb ib c L x _ u.drew T c0 c1 c2 c3 c4 fd sw co A B (P+2) op img kb' ki hw hA n1 hL hc g3 g10 hne).mono ?_
   rintro e w1 ⟨rfl,hk,hh⟩
   gi_wp2
   go_ret2
   exact⟨by simp,Keep.then (b:=u) (by rw[←HU.out];exact Keep.set1 _) ⟨hk.os,hk.output,hk.size,hk.block⟩,hh⟩
 ·rw[if_neg hP2]at hr
  subst hr
  gi_enter Tryz.func185,Tryz.ntmps185
  gi_wp2_with (gi_at_call 138;refine(words_no pb ib c L 2 P _ _ q8 (by omega) (by omega) hP (by omega)).mono ?_;rintro e w' ⟨rfl,rfl⟩)
  go_ret2
  exact⟨by simp,Keep.refl _ _,hb⟩
end
theorem ret_int {k:IntKind} {a b:Int} (h:a=b):Ending.returned (.int k a)=.returned (.int k b):=by rw[h]
section
variable (m:Nat) (w:World)
def nblk (n:Nat):Nat:=(n+7) / 8
theorem of_calls (n:Nat) (h:n<1000000):CallsIn NF m Tryz.prog 48 #[.int .i64 n] w fun e w'=>e=.returned (.int .i64 (nblk n))∧w'=w:=by
 gi_enter Tryz.func48,Tryz.ntmps48
 gi_wp2
 go_ret
 refine⟨ret_int ?_,rfl⟩
 simp[nblk]
 omega
theorem ab4 (n:Nat) (h:n<1000000):CallsIn NF m Tryz.prog 109 #[.int .i64 n] w fun e w'=>e=.returned (.int .i64 (nblk n))∧w'=w:=by
 gi_enter Tryz.func109,Tryz.ntmps109
 gi_wp2
 all_goals go_ret
 all_goals
  refine⟨ret_int ?_,rfl⟩
  simp[nblk]
  omega
theorem num_calls (n:Int):CallsIn NF m Tryz.prog 70 #[.int .i64 n] w fun e w'=>e=.returned (.int .i64 n)∧w'=w:=by
 gi_enter Tryz.func70,Tryz.ntmps70
 gi_wp2
 go_ret
 exact⟨by simp,rfl⟩
theorem arguments1_calls:CallsIn NF m Tryz.prog 214 #[.int .i64 1] w fun e w'=>e=.returned (.int .i64 1)∧w'=w:=by
 gi_enter Tryz.func214,Tryz.ntmps214
 gi_wp2
 go_ret
 exact⟨by simp,rfl⟩
theorem arguments12_calls:CallsIn NF m Tryz.prog 214 #[.int .i64 12] w fun e w'=>e=.returned (.int .i64 0)∧w'=w:=by
 gi_enter Tryz.func214,Tryz.ntmps214
 gi_wp2
 go_ret
 exact⟨by simp,rfl⟩
theorem an2:CallsIn NF m Tryz.prog 139 #[.int .u16 1] w fun e w'=>e=.returned (.int .i64 1)∧w'=w:=by
 gi_enter Tryz.func139,Tryz.ntmps139
 gi_wp2
 go_ret
 exact⟨by simp,rfl⟩
theorem argsOf12_calls:CallsIn NF m Tryz.prog 139 #[.int .u16 12] w fun e w'=>e=.returned (.int .i64 0)∧w'=w:=by
 gi_enter Tryz.func139,Tryz.ntmps139
 gi_wp2
 go_ret
 exact⟨by simp,rfl⟩
theorem Keep.has {w w':World} (h:Keep No w w') {p:Addr} {u:Value} (hp:w.cell? p=some u):w'.cell? p=some u:=(h.cell (World.block_lt_of_cell? _ _ hp) (fun x=>x)).trans hp
def SlI (w:World) (v:Value) (n:Nat) (f:Nat→Int):Prop:=
 n<100000000∧∃s c,v=.slice s n c∧(0<n→∃b o,s=some ⟨b,o,none⟩∧∀i,i<n→w.cell? ⟨b,o+i,none⟩=some (.int .i64 (f i)))
theorem ah8 (v v':Value) (n:Nat) (f:Nat→Int) (h:SlI w v n f) (h':SlI w v' n f):CallsIn NF m Tryz.prog 78 #[v,v'] w fun e w'=>e=.returned (.bool true)∧Keep No w w':=by
 obtain⟨hn,s,c,rfl,hs⟩:=h
 obtain⟨_,s',c',rfl,hs'⟩:=h'
 by_cases h0:n=0
 ·subst h0
  gi_enter Tryz.func78,Tryz.ntmps78
  gi_wp2
  refine wpIn_loop_once ?_
  gi_wp2
  go_ret
  exact⟨by simp,Keep.refl _ _⟩
 ·obtain⟨b,o,rfl,hc⟩:=hs (by omega)
  obtain⟨b',o',rfl,hc'⟩:=hs' (by omega)
  clear hs hs'
  gi_enter Tryz.func78,Tryz.ntmps78
  gi_wp2
  gi_loopw [5] (fun i wr=>∃k:Nat,k≤n∧i=.int .i64 k∧Keep No w wr) (fun i _=>n-(intOf i).toNat)
  case atStart=>exact⟨0,Nat.zero_le _,rfl,Keep.refl _ _⟩
  case round=>
   obtain⟨k,hk,rfl,hK⟩:=hrel
   by_cases hlt:k<n
   ·have g1:=hK.has (hc k hlt)
    have g2:=hK.has (hc' k hlt)
    gi_wp2
    gi_region
    all_goals gi_wp2
    all_goals go_roundw
    all_goals first|exact⟨k+1,by omega,by go_num,hK.drew⟩|(simp[intOf];omega)
   ·gi_wp2
    go_ret
    exact⟨by simp,hK⟩
end
end Go.Fxa
