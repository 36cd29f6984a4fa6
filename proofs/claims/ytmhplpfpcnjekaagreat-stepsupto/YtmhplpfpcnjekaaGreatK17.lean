/- Rows of numbers in memory; the reference's loops over them. The processor: an instruction that writes a word. A region that draws its order: what may come in any order, then a chain. A region that draws its order: readers, some others, then a chain: walked as the text goes. Stores run one ac6 the other; blocks of memory by their cells; a builtin by its run. -/
import Derived.Test.YtmhplpfpcnjekaaGreatK16
import Derived.Handy
import Derived.BigRegionIn
import Derived.Outline
import Derived.OwnWalkIn
import Derived.LoopNIn
namespace Go.Fxa
open Go.Conc
open Go.Proofs
open Go.RowKit
set_option maxRecDepth 1000000
def Row (k:IntKind) (w:World) (b n:Nat) (f:Nat→Int):Prop:=
 ∃cs T,w.heap[b]?=some (.cells cs T (0,0))∧cs.size=n∧∀i,i<n→cs[i]?=some (.int k (f i))
section
variable {k:IntKind} {w w':World} {b n:Nat} {f g:Nat→Int}
theorem Row.cell (h:Row k w b n f) {i:Nat} (hi:i<n):w.cell? ⟨b,i,none⟩=some (.int k (f i)):=by
 obtain⟨cs,T,h1,_,h3⟩:=h
 rw[aa0 h1];exact h3 i hi
theorem Row.fz (h:Row k w b n f) (i:Nat):w.frozen? ⟨b,i,none⟩=false:=by
 obtain⟨cs,T,h1,_,_⟩:=h
 exact ab3 h1 i
theorem Row.lt (h:Row k w b n f):b<w.heap.size:=by
 obtain⟨cs,T,h1,_,_⟩:=h
 exact ab2 h1
theorem Row.keep {S:Nat→Prop} (h:Row k w b n f) (hk:Keep S w w') (hn:¬S b):Row k w' b n f:=by
 obtain⟨cs,T,h1,h2,h3⟩:=h
 exact⟨cs,T,hk.old h1 hn,h2,h3⟩
theorem Row.drew (h:Row k w b n f):Row k w.drew b n f:=h
def upd (f:Nat→Int) (i:Nat) (x:Int):Nat→Int:=fun j=>if j=i then x else f j
theorem Row.set (h:Row k w b n f) (i:Nat) (x:Int):Row k (w.setCell ⟨b,i,none⟩ (.int k x)) b n (upd f i x):=by
 obtain⟨cs,T,h1,h2,h3⟩:=h
 refine⟨_,T,aa2 h1 _,by simpa using h2,fun j hj=>?_⟩
 rw[Array.getElem?_setIfInBounds]
 by_cases e:i=j
 ·subst e;simp[upd,h2,hj]
 ·rw[if_neg e,h3 j hj];simp[upd,Ne.symm e]
theorem Row.ext (h:Row k w b n f) (e:∀i,i<n→f i=g i):Row k w b n g:=by
 obtain⟨cs,T,h1,h2,h3⟩:=h
 exact⟨cs,T,h1,h2,fun i hi=>by rw[h3 i hi,e i hi]⟩
theorem SlI.keep {v:Value} (h:SlI w v n f) (hk:Keep No w w'):SlI w' v n f:=by
 obtain⟨h0,s,c,h1,h2⟩:=h
 refine⟨h0,s,c,h1,fun hn=>?_⟩
 obtain⟨b,o,h3,h4⟩:=h2 hn
 exact⟨b,o,h3,fun i hi=>hk.has (h4 i hi)⟩
end
section
variable (m:Nat) (w:World)
theorem first_none (b n c:Nat) (f:Nat→Int) (x:Int) (h:Row .i64 w b n f) (hn:n≤256) (hf:∀i,i<n→f i≠x):CallsIn NF m Tryz.prog 114 #[.slice (some ⟨b,0,none⟩) n c,.int .i64 x] w fun e w'=>e=.returned (.int .i64 (-1))∧w'=w:=by
 gi_enter Tryz.func114,Tryz.ntmps114
 gi_wp2
 gi_loop [5] (fun i=>∃k:Nat,k≤n∧i=.int .i64 k) (fun i=>n-(intOf i).toNat)
 case atStart=>exact⟨0,Nat.zero_le _,rfl⟩
 case round=>
  obtain⟨k,hk,rfl⟩:=hrel
  by_cases hlt:k<n
  ·have g1:=h.cell hlt
   have g2:=hf k hlt
   have g3:(f k==x)=false:=by simp[g2]
   gi_wp2
   go_round
   case rel=>exact⟨k+1,by omega,by go_num⟩
   case measure=>simp[intOf];omega
  ·gi_wp2
   go_ret
   exact⟨by simp,rfl⟩
theorem first_zero (b n c:Nat) (f:Nat→Int) (x:Int) (h:Row .i64 w b n f) (hn':0<n) (hf:f 0=x):CallsIn NF m Tryz.prog 114 #[.slice (some ⟨b,0,none⟩) n c,.int .i64 x] w fun e w'=>e=.returned (.int .i64 0)∧w'=w:=by
 have g1:=h.cell hn'
 subst hf
 gi_enter Tryz.func114,Tryz.ntmps114
 gi_wp2
 refine wpIn_loop_once ?_
 gi_wp2
 go_ret
 exact⟨by simp,rfl⟩
theorem give_calls (b n c:Nat) (f:Nat→Int) (x:Int) (h:Row .i64 w b n f) (hn:n≤256):CallsIn NF m Tryz.prog 115 #[.slice (some ⟨b,0,none⟩) n c,.int .i64 x] w fun e w'=>e=.returned (.tuple #[])∧Keep (At b) w w'∧∃f',Row .i64 w' b n f':=by
 gi_enter Tryz.func115,Tryz.ntmps115
 gi_wp2
 gi_loopw [4] (fun i wr=>∃k:Nat,k≤n∧i=.int .i64 k∧Keep (At b) w wr∧∃f',Row .i64 wr b n f') (fun i _=>n-(intOf i).toNat)
 case atStart=>exact⟨0,Nat.zero_le _,rfl,Keep.refl _ _,f,h⟩
 case round=>
  obtain⟨k,hk,rfl,hK,f',hf'⟩:=hrel
  by_cases hlt:k<n
  ·have g1:=hf'.cell hlt
   have g3:=hf'.fz k
   cases g2:f' k==x
   ·gi_wp2
    go_roundw
    case rel=>exact⟨k+1,by omega,by go_num,hK,f',hf'⟩
    case measure=>simp[intOf];omega
   ·gi_wp2
    go_roundw
    case rel=>exact⟨k+1,by omega,by go_num,hK.setCell _ (fun _=>rfl),_,hf'.set k 0⟩
    case measure=>simp[intOf];omega
  ·gi_wp2
   go_end0
   exact⟨by simp,hK,f',hf'⟩
theorem take_calls (b n c nb:Nat) (f:Nat→Int) (h:Row .i64 w b n f) (hn:n≤256) (h1:1≤nb) (h2:nb≤n) (hf:∀i,i<n→f i=0):CallsIn NF m Tryz.prog 111 #[.slice (some ⟨b,0,none⟩) n c,.int .i64 1,.int .i64 nb] w fun e w'=>e=.returned (.bool true)∧Keep (At b) w w'∧Row .i64 w' b n (fun i=>if i<nb then 1 else 0):=by
 gi_enter Tryz.func111,Tryz.ntmps111
 gi_wp2
 refine wpIn_loop_once ?_
 gi_wp2
 gi_loop [8,9] (fun fr i=>∃k:Nat,k≤nb∧i=.int .i64 k∧fr=.bool true) (fun _ i=>nb-(intOf i).toNat)
 case atStart=>exact⟨0,Nat.zero_le _,rfl,rfl⟩
 case round=>
  obtain⟨k,hk,rfl,rfl⟩:=hrel
  by_cases hlt:k<nb
  ·have g1:=h.cell (show k<n by omega)
   rw[hf k (by omega)]at g1
   gi_wp2
   go_round
   case rel=>exact⟨k+1,by omega,by go_num,rfl⟩
   case measure=>simp[intOf];omega
  ·gi_wp2
   gi_loopw [10] (fun i wr=>∃k:Nat,k≤nb∧i=.int .i64 k∧Keep (At b) w wr∧Row .i64 wr b n (fun i=>if i<k then 1 else 0)) (fun i _=>nb-(intOf i).toNat)
   case atStart=>exact⟨0,Nat.zero_le _,rfl,Keep.refl _ _,h.ext fun i hi=>by simp[hf i hi]⟩
   case round=>
    obtain⟨k,hk,rfl,hK,hR⟩:=hrel
    by_cases hlt:k<nb
    ·have g1:=hR.cell (show k<n by omega)
     have g3:=hR.fz k
     gi_wp2
     go_roundw
     case rel=>exact⟨k+1,by omega,by go_num,hK.setCell _ (fun _=>rfl),(hR.set k 1).ext fun i hi=>by simp only[upd];split<;>split<;>(try split)<;>omega⟩
     case measure=>simp[intOf];omega
    ·have e:k=nb:=by omega
     subst e
     gi_wp2
     go_ret
     exact⟨by simp,hK,hR⟩
end
section
variable (pb ib c L m:Nat) (w:World)
theorem put_calls (T:TypeId) (c0 c1 c2 c3 c4 fd sw co:Value) (A B P n:Nat) (f:Nat→Int) (hb:w.heap[pb]?=some (prc T c0 c1 c2 c3 c4 A B P (.slice (some ⟨ib,0,none⟩) L c) fd sw co)) (hi:Row .u16 w ib L f) (hn:n<65536) (hL:L≤128) (hc:L≤c) (hlt:n<L):
  CallsIn NF m Tryz.prog 226 #[.pointer (some ⟨pb,5,none⟩),.int .u16 (3:Nat),.int .u16 n] w fun e w'=>e=.returned (.int .i64 0)∧w'=w.setCell ⟨ib,n,none⟩ (.int .u16 A):=by
 have h5:w.cell? ⟨pb,5,none⟩=some (.int .u16 A):=by rw[aa0 hb];rfl
 have h8:w.cell? ⟨pb,8,none⟩=some (.slice (some ⟨ib,0,none⟩) L c):=by rw[aa0 hb];rfl
 have hx:=hi.cell hlt
 have fx:=hi.fz n
 gi_enter Tryz.func226,Tryz.ntmps226
 gi_wp2_with (first|(gi_at_call 244;refine(ag9 pb n _ w 3 A h5 (by decide)).mono ?_;rintro e w' ⟨rfl,rfl⟩;rw[show spot 3 A n=n from rfl])|(gi_at_call 138;refine(ae8 pb ib c L 1 n _ _ h8 (by omega) hn hL hc (by omega)).mono ?_;rintro e w' ⟨rfl,rfl⟩))
 go_ret
 exact⟨by simp,rfl⟩
set_option maxHeartbeats 4000000 in
theorem stepP_calls (T:TypeId) (c0 c1 c2 c3 c4 fd sw co:Value) (A B P:Nat) (img:Nat→Nat) (hb:w.heap[pb]?=some (prc T c0 c1 c2 c3 c4 A B P (.slice (some ⟨ib,0,none⟩) L c) fd sw co)) (Ti:TypeId) (cs:Array Value) (hi:w.heap[ib]?=some (.cells cs Ti (0,0))) (hcs:cs.size=L) (hci:∀i,i<L→cs[i]?=some (.int .u16 (img i)))
  (hw:∀i,i<L→img i<65536) (hP:P<65536) (hL:L≤128) (hc:L≤c) (hP2:P+2≤L) (h3:img P=3) (hn:img (P+1)<L) (hne:ib≠pb):
  CallsIn NF m Tryz.prog 185 #[.pointer (some ⟨pb,5,none⟩)] w fun e w'=>e=.returned (.tuple #[.int .i64 0,.int .u16 0])∧Keep (fun k=>k=pb∨k=ib) w w'∧w'.heap[pb]?=some (prc T c0 c1 c2 c3 c4 A B (P+2) (.slice (some ⟨ib,0,none⟩) L c) fd sw co)∧w'.heap[ib]?=some (.cells (cs.setIfInBounds (img (P+1)) (.int .u16 A)) Ti (0,0)):=by
 have q7:w.cell? ⟨pb,7,none⟩=some (.int .u16 P):=by rw[aa0 hb];rfl
 have q8:w.cell? ⟨pb,8,none⟩=some (.slice (some ⟨ib,0,none⟩) L c):=by rw[aa0 hb];rfl
 have f7:w.frozen? ⟨pb,7,none⟩=false:=ab3 hb 7
 have i0:w.cell? ⟨ib,P,none⟩=some (.int .u16 (3:Nat)):=by rw[aa0 hi,hci P (by omega),h3]
 have i1:w.cell? ⟨ib,P+1,none⟩=some (.int .u16 (img (P+1))):=by rw[aa0 hi];exact hci _ (by omega)
 have n1:=hw (P+1) (by omega)
 generalize hx:img (P+1)=x at*
 have w2:IntKind.u16.wrap ((P:Int)+2)=(P:Int)+2:=by rw[wrap_u16];omega
 have kb:=aa2 (i:=7) hb (.int .u16 ((P:Int)+2))
 have kb':(w.setCell ⟨pb,7,none⟩ (.int .u16 ((P:Int)+2))).heap[pb]?=some (prc T c0 c1 c2 c3 c4 A B (P+2) (.slice (some ⟨ib,0,none⟩) L c) fd sw co):=by rw[kb];rfl
 have ki:=(af4 (p:=⟨pb,7,none⟩) (.int .u16 ((P:Int)+2)) hne).trans hi
 have rw':Row .u16 (w.setCell ⟨pb,7,none⟩ (.int .u16 ((P:Int)+2))).drew ib L (fun i=>img i):=⟨cs,Ti,ki,hcs,hci⟩
 have K1:Keep (fun k=>k=pb∨k=ib) w (w.setCell ⟨pb,7,none⟩ (.int .u16 ((P:Int)+2))):=(Keep.refl _ w).setCell _ (fun _=>.inl rfl)
 generalize hu:w.setCell ⟨pb,7,none⟩ (.int .u16 ((P:Int)+2))=u at*
 clear kb
 gi_enter Tryz.func185,Tryz.ntmps185
 gi_wp2_with (gi_at_call 138;refine(ae8 pb ib c L 2 P _ _ q8 (by omega) hP hL hc (by omega)).mono ?_;rintro e w' ⟨rfl,rfl⟩)
 gi_region
 all_goals gi_wp2_with fail
 all_goals
  refine(put_calls pb ib c L _ u.drew T c0 c1 c2 c3 c4 fd sw co A B (P+2) x _ kb' rw' n1 hL hc hn).mono ?_
  rintro e w1 ⟨rfl,rfl⟩
  gi_wp2
  go_ret2
  exact⟨by simp,K1.drew.setCell _ (fun _=>.inr rfl),(af4 (w:=u.drew) (p:=⟨ib,x,none⟩) _ (fun e=>hne e.symm)).trans kb',aa2 (w:=u.drew) ki _⟩
end
end Go.Fxa
namespace Go.Fxa
open Go.Conc
open Go.Proofs
open Go.RowKit
def aft (ops:Array Oper) (i:Nat):List Nat:=match ops[i]? with
 | none=>[]
 | some o=>(o.after.toList.filter (Region.binds .any)).map (·.on)
def reach (ops:Array Oper):Nat→List Nat→List Nat
 | 0,R=>R
 | j+1,R=>reach ops j (if R.contains j then aft ops j++R else R)
def freeOk (ops:Array Oper) (k:Nat):Bool:=
 ((List.range ops.size).all fun i=>(aft ops i).all fun j=>decide (j<i)) && (List.range ops.size).all fun i=>decide (i<k) || (List.range i).all fun j=>(reach ops i (aft ops i)).contains j
section
variable {ops:Array Oper} {l:Array Bool} {k:Nat}
def Lower (ops:Array Oper) (l:Array Bool):Prop:=∀i,l.getD i false=true→∀j∈aft ops i,l.getD j false=true
theorem mem_ready {i:Nat}:i∈Region.ready .any ops l ↔ i<ops.size∧l.getD i true=false∧∀j∈aft ops i,l.getD j false=true:=by
 unfold Region.ready
 rw[List.mem_filter,List.mem_range]
 refine and_congr_right fun hi=>?_
 rw[Bool.and_eq_true,Bool.not_eq_true']
 refine and_congr_right fun _=>?_
 have e:ops[i]?=some ops[i]:=Array.getElem?_eq_getElem hi
 unfold aft
 rw[e]
 simp only[Option.map_some,Option.getD_some,Array.all_eq_true',List.mem_map,List.mem_filter,Array.mem_toList_iff,Bool.or_eq_true,Bool.not_eq_true']
 constructor
 ·rintro h j ⟨ed,⟨he,hb⟩,rfl⟩
  rcases h ed he with h' | h'
  ·rw[h']at hb;cases hb
  ·exact h'
 ·intro h ed he
  cases hb:Region.binds .any ed with
  | false=>exact .inl rfl
  | true=>exact .inr (h _ ⟨ed,⟨he,hb⟩,rfl⟩)
theorem reach_listed (hl:Lower ops l):∀(j:Nat) (R:List Nat),(∀x∈R,l.getD x false=true)→∀x∈reach ops j R,l.getD x false=true
 | 0,R,h=>h
 | j+1,R,h=>by
  unfold reach
  split
  ·rename_i hc
   refine reach_listed hl j _ fun x hx=>?_
   rcases List.mem_append.1 hx with hx|hx
   ·exact hl j (h j (by simpa using hc)) x hx
   ·exact h x hx
  ·exact reach_listed hl j R h
theorem free_lt (h:freeOk ops k=true) {i j:Nat} (hj:j∈aft ops i):j<i:=by
 unfold freeOk at h
 rw[Bool.and_eq_true,List.all_eq_true]at h
 have hi:i<ops.size:=by
  by_cases hi:i<ops.size
  ·exact hi
  ·unfold aft at hj;rw[Array.getElem?_eq_none (by omega)]at hj;cases hj
 have:=h.1 i (List.mem_range.2 hi)
 rw[List.all_eq_true]at this
 simpa using this j hj
theorem free_all (h:freeOk ops k=true) (hl:Lower ops l) {i:Nat} (hi:i<ops.size) (hk:k≤i) (hr:∀j∈aft ops i,l.getD j false=true):∀j,j<i→l.getD j false=true:=by
 unfold freeOk at h
 rw[Bool.and_eq_true,List.all_eq_true,List.all_eq_true]at h
 have:=h.2 i (List.mem_range.2 hi)
 rw[Bool.or_eq_true,List.all_eq_true]at this
 rcases this with h' | h'
 ·have:=of_decide_eq_true h';omega
 ·intro j hj
  exact reach_listed hl i _ hr j (by simpa using h' j (List.mem_range.2 hj))
theorem getD_set {i j:Nat} {b:Bool} (hi:i<l.size):(l.setIfInBounds i true).getD j b=if j=i then true else l.getD j b:=by
 simp only[Array.getD_eq_getD_getElem?,Array.getElem?_setIfInBounds]
 by_cases e:i=j
 ·subst e;simp[hi]
 ·simp[e,Ne.symm e]
theorem lower_set (h:Lower ops l) {i:Nat} (hi:i<l.size) (hr:∀j∈aft ops i,l.getD j false=true):Lower ops (l.setIfInBounds i true):=by
 intro x hx j hj
 rw[getD_set hi]at hx ⊢
 by_cases e:j=i
 ·rw[if_pos e]
 ·rw[if_neg e]
  by_cases e2:x=i
  ·subst e2;exact hr j hj
  ·rw[if_neg e2]at hx;exact h x hx j hj
end
section
variable {F:Fence} {n:Nat} {P:Program} {ops:Array Oper} {Q:Exit→Act→World→Prop} {k:Nat} {S:Nat→Prop}
theorem chain_any (hok:freeOk ops k=true):∀(fuel m:Nat) (l:Array Bool) (a:Act) (w:World),k≤m→m+fuel=ops.size→l.size=ops.size→(∀j,l.getD j false=decide (j<m))→
  wpListIn F n P ops Q (ops.toList.drop m) a w→wpAnyIn F n P .any ops Q fuel l a w
 | 0,m,l,a,w,hk,hf,hs,hl,h=>by
  have hm:ops.toList.drop m=[]:=List.drop_eq_nil_of_le (by simp;omega)
  rw[hm]at h
  refine wpAnyIn_done ?_ h 0
  refine List.eq_nil_iff_forall_not_mem.2 fun i hi=>?_
  obtain⟨h1,h2,_⟩:=mem_ready.1 hi
  have:=hl i
  rw[Array.getD_eq_getD_getElem?,Array.getElem?_eq_getElem (by omega)]at this h2
  simp only[Option.getD_some]at this h2
  rw[h2]at this
  have:=of_decide_eq_false this.symm
  omega
 | fuel+1,m,l,a,w,hk,hf,hs,hl,h=>by
  have hm:m<ops.size:=by omega
  have e:ops.toList.drop m=ops[m]::ops.toList.drop (m+1):=by
   rw[List.drop_eq_getElem_cons (by simpa using hm)]
   simp
  have lo:Lower ops l:=fun i hi j hj=>by
   rw[hl]at hi ⊢
   have:=of_decide_eq_true hi
   have:=free_lt hok hj
   exact decide_eq_true (by omega)
  have gt:∀i,i<ops.size→l.getD i true=l.getD i false:=fun i hi=>by
   rw[Array.getD_eq_getD_getElem?,Array.getD_eq_getD_getElem?,Array.getElem?_eq_getElem (by omega)];rfl
  refine⟨fun hn=>?_,fun i hi=>?_⟩
  ·exfalso
   have:m∈Region.ready .any ops l:=mem_ready.2 ⟨hm,by rw[gt m hm,hl];exact decide_eq_false (by omega),fun j hj=>by rw[hl];exact decide_eq_true (free_lt hok hj)⟩
   rw[hn]at this
   cases this
  ·obtain⟨h1,h2,h3⟩:=mem_ready.1 hi
   rw[gt i h1,hl]at h2
   have h2:=of_decide_eq_false h2
   have hall:=free_all hok lo h1 (by omega) h3
   have him:i=m:=by
    by_cases e:i=m
    ·exact e
    ·have:=hall m (by omega)
     rw[hl]at this
     have:=of_decide_eq_true this
     omega
   subst him
   rw[e]at h
   unfold wpOpIn
   rw[Array.getElem?_eq_getElem hm]
   simp only
   have go:∀a w,wpListIn F n P ops Q (ops.toList.drop (i+1)) a w→wpAnyIn F n P .any ops Q fuel (l.setIfInBounds i true) a w:=fun a w h=>
    chain_any hok fuel (i+1) _ a w (by omega) (by omega) (by simp[hs]) (fun j=>by rw[getD_set (by omega),hl];by_cases e:j=i<;>simp[e];omega) h
   unfold wpListIn at h
   split at h
   ·rename_i hw;rw[if_pos hw];exact Oper.wpIn_mono go h
   ·rename_i hw;rw[if_neg hw];exact⟨h.1,go _ _ h.2⟩
def updV (u:Nat→Value) (i:Nat) (v:Value):Nat→Value:=fun j=>if j=i then v else u j
theorem al0 {i:Nat} {K K':Act→World→Prop} {a:Act} {w:World} (h:∀a w,K a w→K' a w) (hx:wpOpIn F n P ops Q i K a w):wpOpIn F n P ops Q i K' a w:=by
 unfold wpOpIn at hx ⊢
 split
 ·rename_i e;rw[e]at hx;exact h _ _ hx
 ·rename_i o e
  rw[e]at hx
  simp only at hx
  split
  ·rename_i hw;rw[if_pos hw]at hx;exact Oper.wpIn_mono h hx
  ·rename_i hw;rw[if_neg hw]at hx;exact⟨hx.1,h _ _ hx.2⟩
theorem free_any (hok:freeOk ops k=true) (hkn:k<ops.size) (A:(Nat→Value)→Act) (Φ:Nat→Value→World→Prop) (w:World) (hmono:∀i,i<k→∀v W W',Φ i v W→Keep S W W'→Φ i v W')
  (hop:∀i,i<k→∀u W,Keep S w W→(∀j∈aft ops i,Φ j (u j) W)→wpOpIn F n P ops Q i (fun a' W'=>∃v,a'=A (updV u i v)∧Keep S W W'∧Φ i v W') (A u) W)
  (hrest:∀u W,Keep S w W→(∀i,i<k→Φ i (u i) W)→wpListIn F n P ops Q (ops.toList.drop k) (A u) W):
  ∀(fuel:Nat) (l:Array Bool) (u:Nat→Value) (W:World),l.size=ops.size→l.toList.count true+fuel=ops.size→Lower ops l→(∀j,k≤j→l.getD j false=false)→Keep S w W→(∀i,i<k→l.getD i false=true→Φ i (u i) W)→
  wpAnyIn F n P .any ops Q fuel l (A u) W
 | 0,l,u,W,hs,hc,lo,hh,hK,hΦ=>by
  exfalso
  have:∀x∈l.toList,true=x:=by
   apply List.count_eq_length.1
   rw[Array.length_toList]
   omega
  have h7:=hh k (Nat.le_refl _)
  rw[Array.getD_eq_getD_getElem?,Array.getElem?_eq_getElem (by omega)]at h7
  have:=this l[k] (by simp)
  simp only[Option.getD_some]at h7
  rw[h7]at this
  cases this
 | fuel+1,l,u,W,hs,hc,lo,hh,hK,hΦ=>by
  have gt:∀i,i<ops.size→l.getD i true=l.getD i false:=fun i hi=>by
   rw[Array.getD_eq_getD_getElem?,Array.getD_eq_getD_getElem?,Array.getElem?_eq_getElem (by omega)];rfl
  by_cases hd:∀j,j<k→l.getD j false=true
  ·have hl:∀j,l.getD j false=decide (j<k):=fun j=>by
    by_cases e:j<k
    ·rw[hd j e];simp[e]
    ·rw[hh j (by omega)];simp[e]
   have hcnt:l.toList.count true=k:=by
    have e:l.toList=List.replicate k true++List.replicate (ops.size-k) false:=by
     refine List.ext_getElem? fun i=>?_
     by_cases hi:i<ops.size
     ·have:=hl i
      rw[Array.getD_eq_getD_getElem?,Array.getElem?_eq_getElem (by omega)]at this
      simp only[Option.getD_some]at this
      rw[List.getElem?_append]
      simp only[List.length_replicate,List.getElem?_replicate]
      rw[show l.toList[i]?=some l[i] by simp[hs,hi],this]
      by_cases hik:i<k
      ·simp[hik]
      ·simp[hik];omega
     ·rw[List.getElem?_eq_none (by simp;omega),List.getElem?_eq_none (by simp;omega)]
    rw[e]
    simp[List.count_append,List.count_replicate]
   exact chain_any hok (fuel+1) k l (A u) W (Nat.le_refl _) (by omega) hs hl (hrest u W hK fun i hi=>hΦ i hi (hd i hi))
  ·refine⟨fun hn=>?_,fun i hi=>?_⟩
   ·exfalso
    apply hd
    intro j
    induction j using Nat.strongRecOn with
    | _ j ih=>
     intro hj
     cases hv:l.getD j false with
     | true=>rfl
     | false=>
      have:j∈Region.ready .any ops l:=mem_ready.2 ⟨by omega,by rw[gt j (by omega)];exact hv,fun x hx=>ih x (free_lt hok hx) (by have:=free_lt hok hx;omega)⟩
      rw[hn]at this
      cases this
   ·obtain⟨h1,h2,h3⟩:=mem_ready.1 hi
    by_cases hik:i<k
    ·have hx:=hop i hik u W hK fun j hj=>hΦ j (by have:=free_lt hok hj;omega) (h3 j hj)
     refine al0 (fun a' W'=>?_) hx
     rintro⟨v,rfl,hK',hv⟩
     refine free_any hok hkn A Φ w hmono hop hrest fuel _ _ W' (by simp[hs]) (by rw[count_set h2];omega) (lower_set lo (by omega) h3) (fun j hj=>?_) (hK.then hK') fun j hj hl=>?_
     ·rw[getD_set (by omega),if_neg (by omega)];exact hh j hj
     ·unfold updV
      by_cases e:j=i
      ·rw[if_pos e];subst e;exact hv
      ·rw[if_neg e]
       rw[getD_set (by omega),if_neg e]at hl
       exact hmono j hj _ _ _ (hΦ j hj hl) hK'
    ·exfalso
     exact hd fun j hj=>free_all hok lo h1 (by omega) h3 j (by omega)
theorem region_free (id:Nat) (hm:P.follows .mixedOrders=true) (k:Nat) (hok:freeOk ops k=true) (hkn:k<ops.size) (A:(Nat→Value)→Act) (u0:Nat→Value) (Φ:Nat→Value→World→Prop) (w:World) (hmono:∀i,i<k→∀v W W',Φ i v W→Keep S W W'→Φ i v W')
  (hop:∀i,i<k→∀u W,Keep S w.drew W→(∀j∈aft ops i,Φ j (u j) W)→wpOpIn F n P ops Q i (fun a' W'=>∃v,a'=A (updV u i v)∧Keep S W W'∧Φ i v W') (A u) W)
  (hrest:∀u W,Keep S w.drew W→(∀i,i<k→Φ i (u i) W)→wpListIn F n P ops Q (ops.toList.drop k) (A u) W):(Code.region id ops true).wpIn F n P Q (A u0) w:=
 wpIn_region_any hm (free_any hok hkn A Φ w.drew hmono hop hrest ops.size _ u0 _ (by simp) (by simp[List.count_replicate]) (fun i hi=>by simp[Array.getD]at hi) (fun j _=>by simp[Array.getD]) (Keep.refl _ _) fun i _ hi=>by simp[Array.getD]at hi)
end
def dOf (ops:Array Oper) (i:Nat):Option Nat:=(ops[i]?).bind (·.dst)
def sel (ops:Array Oper):List Nat→List Oper
 | []=>[]
 | i::is=>match ops[i]? with
  | some o=>o::sel ops is
  | none=>sel ops is
def depOk (ops:Array Oper) (c:Nat) (i:Nat) (o:Oper):Bool:=
 (o.op.operands.toList.all fun x=>match x with
  | .tmp s=>(List.range c).all fun j=>!(dOf ops j==some s) || (aft ops i).contains j
  | _=>true) && (match o.guard with
  | none=>true
  | some (j,_)=>(aft ops i).contains j)
def mixOk (ops:Array Oper) (c N:Nat) (rs ss:List Nat):Bool:=
 freeOk ops c && decide (c<ops.size) && ((List.range c).all fun i=>rs.contains i !=ss.contains i) && rs.all (·<c) && ss.all (·<c) &&
 ((List.range c).all fun i=>match ops[i]? with
  | none=>false
  | some o=>depOk ops c i o && (match o.dst with|some d=>decide (d<N)|none=>false) && (match o.op with | .select _ _=>false | .defer _=>false|_=>true)) &&
 ((List.range c).all fun i=>(List.range c).all fun j=>i==j || !(dOf ops i==dOf ops j)) &&
 (rs.all fun i=>(aft ops i).all fun j=>rs.contains j)
def eachIn (F:Fence) (n:Nat) (P:Program) (ops:Array Oper) (a:Act) (W:World):List Oper→Prop
 | []=>True
 | o::os=>(if Region.wanted o (yielded ops a.tmps)then o.wpIn F n P a W (fun a' W'=>a'=a∧W'=W) (fun _ _ _=>False)else(∀f,o.about P W a.eval=some f→F.fn f)∧a.put o.dst undef=a)∧eachIn F n P ops a W os
def putS (ops:Array Oper):List Nat→(Nat→Value)→Act→Act
 | [],_,a=>a
 | i::is,u,a=>putS ops is u (a.put (dOf ops i) (u i))
def ak4 (ops:Array Oper) (c:Nat) (a:Act) (u:Nat→Value):Act:=
 ⟨Array.ofFn (n:=a.tmps.size) fun s=>match (List.range c).find? (fun i=>dOf ops i==some s.1)with|some i=>u i|none=>a.tmps[s.1],a.defers⟩
section
variable {ops:Array Oper} {c N:Nat} {rs ss:List Nat}
structure MixOk (ops:Array Oper) (c N:Nat) (rs ss:List Nat):Prop where
 free:freeOk ops c=true
 cl:c<ops.size
 one:∀i,i<c→(i∈rs∧i ∉ ss)∨(i ∉ rs∧i∈ss)
 rl:∀i∈rs,i<c
 sl:∀i∈ss,i<c
 dep:∀i o,i<c→ops[i]?=some o→depOk ops c i o=true
 dst:∀i,i<c→∃d,dOf ops i=some d∧d<N
 sel:∀i o,i<c→ops[i]?=some o→(∀cs b,o.op≠.select cs b)∧∀cl,o.op≠.defer cl
 ne:∀i j,i<c→j<c→i≠j→dOf ops i≠dOf ops j
 rr:∀i∈rs,∀j∈aft ops i,j∈rs
theorem mixOk.out (h:mixOk ops c N rs ss=true):MixOk ops c N rs ss:=by
 unfold mixOk at h
 simp only[Bool.and_eq_true,List.all_eq_true,List.mem_range,decide_eq_true_eq]at h
 obtain⟨⟨⟨⟨⟨⟨⟨h1,h2⟩,h3⟩,h4⟩,h5⟩,h6⟩,h7⟩,h8⟩:=h
 refine⟨h1,h2,fun i hi=>?_,fun i hi=>by simpa using h4 i hi,fun i hi=>by simpa using h5 i hi,fun i o hi ho=>?_,fun i hi=>?_,fun i o hi ho=>?_,fun i j hi hj hij=>?_,fun i hi j hj=>by simpa using h8 i hi j hj⟩
 ·have:=h3 i hi
  by_cases hr:i∈rs<;>by_cases hs:i∈ss<;>simp[hr,hs]at this ⊢
 ·have:=h6 i hi
  rw[ho]at this
  simp only[Bool.and_eq_true]at this
  exact this.1.1
 ·have:=h6 i hi
  have e:ops[i]?=some (ops[i]'(by omega)):=Array.getElem?_eq_getElem (by omega)
  rw[e]at this
  simp only[Bool.and_eq_true]at this
  have:=this.1.2
  unfold dOf
  rw[e]
  simp only[Option.bind_some]
  split at this
  ·rename_i d hd;exact⟨d,hd,by simpa using this⟩
  ·cases this
 ·have:=h6 i hi
  rw[ho]at this
  simp only[Bool.and_eq_true]at this
  have:=this.2
  refine⟨fun cs b e=>?_,fun cl e=>?_⟩<;>(rw[e]at this;cases this)
 ·have:=h7 i hi j hj
  simp[hij]at this
  exact this
theorem mix_size (a:Act) (u:Nat→Value):(ak4 ops c a u).tmps.size=a.tmps.size:=by simp[ak4]
theorem mix_at (M:MixOk ops c N rs ss) {a:Act} (hN:a.tmps.size=N) (u:Nat→Value) {i d:Nat} (hi:i<c) (hd:dOf ops i=some d) (hdN:d<N):(ak4 ops c a u).tmps[d]?=some (u i):=by
 unfold ak4
 simp only[Array.getElem?_ofFn,hN,hdN]
 have:(List.range c).find? (fun j=>dOf ops j==some d)=some i:=by
  refine List.find?_eq_some_iff_getElem.2 ⟨by simp[hd],i,by simpa using hi,by simp,fun j hj=>?_⟩
  have:=M.ne j i (by omega) hi (by omega)
  rw[hd]at this
  simpa using this
 simp[this]
theorem ai8 (a:Act) (u:Nat→Value) {s:Nat} (h:∀i,i<c→dOf ops i≠some s):(ak4 ops c a u).tmps[s]?=a.tmps[s]?:=by
 unfold ak4
 by_cases hs:s<a.tmps.size
 ·simp only[Array.getElem?_ofFn,hs]
  have:(List.range c).find? (fun j=>dOf ops j==some s)=none:=by
   refine List.find?_eq_none.2 fun j hj=>?_
   simpa using h j (by simpa using hj)
  simp[this]
 ·rw[Array.getElem?_eq_none (by simpa using hs),Array.getElem?_eq_none (by simpa using hs)]
theorem act_ext {a b:Act} (h:∀s:Nat,a.tmps[s]?=b.tmps[s]?) (hd:a.defers=b.defers):a=b:=by
 obtain⟨ta,da⟩:=a
 obtain⟨tb,db⟩:=b
 simp only at h hd
 rw[hd,Array.ext_getElem? (fun i=>h i)]
theorem put_at (a:Act) (d:Nat) (v:Value) (s:Nat):(a.put (some d) v).tmps[s]?=if s=d then(if d<a.tmps.size then some v else none)else a.tmps[s]?:=by
 simp only[Act.put,Array.getElem?_setIfInBounds]
 by_cases e:d=s
 ·subst e;simp
 ·simp[e,Ne.symm e]
theorem mix_put (M:MixOk ops c N rs ss) {a:Act} (hN:a.tmps.size=N) (u:Nat→Value) {i:Nat} (hi:i<c) (v:Value):(ak4 ops c a u).put (dOf ops i) v=ak4 ops c a (updV u i v):=by
 obtain⟨d,hd,hdN⟩:=M.dst i hi
 rw[hd]
 refine act_ext (fun s=>?_) rfl
 rw[put_at]
 by_cases e:s=d
 ·subst e
  rw[if_pos rfl,mix_size,if_pos (by omega),mix_at M hN _ hi hd hdN]
  simp[updV]
 ·rw[if_neg e]
  by_cases hs:∃j,j<c∧dOf ops j=some s
  ·obtain⟨j,hj,hjs⟩:=hs
   obtain⟨d',hd',hdN'⟩:=M.dst j hj
   have:s<N:=by rw[hjs]at hd';cases hd';exact hdN'
   rw[mix_at M hN _ hj hjs this,mix_at M hN _ hj hjs this]
   have:j≠i:=fun e2=>by subst e2;rw[hjs]at hd;cases hd;exact e rfl
   simp[updV,this]
  ·have hs':∀j,j<c→dOf ops j≠some s:=fun j hj he=>hs ⟨j,hj,he⟩
   rw[ai8 _ _ hs',ai8 _ _ hs']
end
section
variable {F:Fence} {n:Nat} {P:Program} {ops:Array Oper} {o:Oper} {a a':Act} {W:World}
theorem put_val {d:Nat} {v v':Value} (hd:d<a.tmps.size) (h:a.put (some d) v=a.put (some d) v'):v=v':=by
 have:=congrArg (fun x:Act=>x.tmps[d]?) h
 simp only[put_at,if_pos hd,if_true]at this
 exact Option.some.inj this
theorem op_move (hF:F.round=none) {Φ:Value→World→Prop} (hs:(∀cs b,o.op≠.select cs b)∧∀cl,o.op≠.defer cl) {d:Nat} (hd:o.dst=some d) (hda:d<a.tmps.size) (he:∀x∈o.op.operands,a.eval x=a'.eval x)
  (h:o.wpIn F n P a W (fun b W'=>∃v,b=a.put (some d) v∧Φ v W') (fun _ _ _=>False)) {Q:Exit→Act→World→Prop}:o.wpIn F n P a' W (fun b W'=>∃v,b=a'.put (some d) v∧Φ v W') Q:=by
 obtain⟨h1,h2⟩:=h
 refine⟨fun f hf=>h1 f (by rw[about_congr o W he];exact hf),?_⟩
 rw[hF,Oper.semAt_none]at h2 ⊢
 rw[←execOp_congr o hs.1 he]
 revert h2
 generalize (execOp a.eval o).run P W=r
 intro h2
 have key:∀v W',(∃v',a.put o.dst v=a.put (some d) v'∧Φ v' W')→∃v',a'.put o.dst v=a'.put (some d) v'∧Φ v' W':=by
  rintro v W' ⟨v',e,hΦ⟩
  rw[hd]at e ⊢
  have:=put_val hda e
  subst this
  exact⟨_,rfl,hΦ⟩
 match r,h2 with
 | .ok (.value v) w',h2=>exact key _ _ h2
 | .ok .skip w',h2=>exact key _ _ h2
 | .ok (.defer dd) w',h2=>
  exfalso
  obtain⟨v,e,_⟩:=h2
  have:=congrArg Act.defers e
  rw[hd]at this
  simp[Act.put]at this
 | .ok (.enter f args) w',h2=>
  refine⟨h2.1,h2.2.mono fun e w'' hh=>?_⟩
  match e,hh with
  | .returned v,hh=>exact key _ _ hh
  | .panicked ch,hh=>exact hh.elim
  | .outgrown,hh=>exact hh.elim fun _ hw=>hw.elim fun _ hf=>hf.elim
 | .ok (.row row args) w',h2=>exact⟨h2.1,fun c cs hr=>let ⟨v,w'',hR,hS⟩:=h2.2 c cs hr;⟨v,w'',key _ _ hR,hS⟩⟩
 | .ok (.round l f tmps assign body) w',h2=>
  refine⟨h2.1,h2.2.mono fun e w'' hh=>?_⟩
  match e,hh with
  | .returned v,hh=>exact key _ _ hh
  | .panicked ch,hh=>exact hh.elim
  | .outgrown,hh=>exact hh.elim fun _ hw=>hw.elim fun _ hf=>hf.elim
 | .halt (.panic v) w',h2=>exact h2.elim
theorem wanted_congr {ts ts':Array Value} (h:∀j b,o.guard=some (j,b)→yielded ops ts j=yielded ops ts' j):Region.wanted o (yielded ops ts)=Region.wanted o (yielded ops ts'):=by
 unfold Region.wanted
 split
 ·rfl
 ·rename_i j b hg;rw[h j b hg]
theorem eval_tmp (a:Act) (s:Nat):a.eval (.tmp s)=(a.tmps[s]?).getD undef:=by
 show a.tmps.getD s undef=_
 rw[Array.getD_eq_getD_getElem?]
theorem opIn_move {c N:Nat} {rs ss:List Nat} (M:MixOk ops c N rs ss) (hF:F.round=none) {Φ:Value→World→Prop} {i:Nat} (hi:i<c) (hN:a.tmps.size=N)
  (he:∀s,(∀j,j<c→dOf ops j=some s→j∈aft ops i)→a.tmps[s]?=a'.tmps[s]?)
  (h:wpOpIn F n P ops (fun _ _ _=>False) i (fun b W'=>∃v,b=a.put (dOf ops i) v∧Φ v W') a W) {Q:Exit→Act→World→Prop}:wpOpIn F n P ops Q i (fun b W'=>∃v,b=a'.put (dOf ops i) v∧Φ v W') a' W:=by
 obtain⟨d,hd,hdN⟩:=M.dst i hi
 have ho:∃o,ops[i]?=some o:=⟨_,Array.getElem?_eq_getElem (by have:=M.cl;omega)⟩
 obtain⟨o,ho⟩:=ho
 have hdo:o.dst=some d:=by unfold dOf at hd;rw[ho]at hd;exact hd
 have hdep:=M.dep i o hi ho
 unfold depOk at hdep
 rw[Bool.and_eq_true,List.all_eq_true]at hdep
 have heo:∀x∈o.op.operands,a.eval x=a'.eval x:=fun x hx=>by
  have:=hdep.1 x (by simpa using hx)
  cases x with
  | tmp s=>
   simp only[List.all_eq_true,List.mem_range,Bool.or_eq_true,Bool.not_eq_true',beq_eq_false_iff_ne]at this
   rw[eval_tmp,eval_tmp,he s fun j hj hs=>by rcases this j hj with h|h;exact absurd hs h;simpa using h]
  | const v=>rfl
  | global g=>rfl
  | func g=>rfl
 have hw:Region.wanted o (yielded ops a.tmps)=Region.wanted o (yielded ops a'.tmps):=wanted_congr fun j b hg=>by
  have h2:=hdep.2
  rw[hg]at h2
  have hj:j∈aft ops i:=by simpa using h2
  unfold yielded
  show(match (dOf ops j).bind (a.tmps[·]?)with|some (.bool b)=>some b|_=>none)=(match (dOf ops j).bind (a'.tmps[·]?)with|some (.bool b)=>some b|_=>none)
  obtain⟨d',hd',_⟩:=M.dst j (by have:=free_lt M.free hj;omega)
  rw[hd']
  simp only[Option.bind_some]
  rw[he d' fun j' hj' hs=>by
   by_cases e:j'=j
   ·exact e ▸ hj
   ·exact absurd (hs.trans hd'.symm) (M.ne j' j hj' (by have:=free_lt M.free hj;omega) e)]
 unfold wpOpIn at h ⊢
 rw[ho]at h ⊢
 simp only at h ⊢
 rw[hd]at h ⊢
 rw[←hw]
 split
 ·rename_i hw'
  rw[if_pos hw']at h
  exact op_move hF (M.sel i o hi ho) hdo (by omega) heo h
 ·rename_i hw'
  rw[if_neg hw']at h
  refine⟨fun f hf=>h.1 f (by rw[about_congr o W heo];exact hf),?_⟩
  obtain⟨v,e,hΦ⟩:=h.2
  rw[hdo]at e ⊢
  have:=put_val (by omega) e
  subst this
  exact⟨_,rfl,hΦ⟩
end
section
variable {F:Fence} {n:Nat} {P:Program} {ops:Array Oper} {c N:Nat} {rs ss:List Nat}
theorem list_ex (hd:F.depth=none) {C:Act→Prop}:∀(l:List Oper) (a:Act) (W:World),wpListIn F n P ops (fun e a' _=>e=.normal∧C a') l a W→∃a1,C a1
 | [],a,W,h=>⟨a,h.2⟩
 | o::l,a,W,h=>by
  have room:∀k,F.room k:=fun k d hdd=>by rw[hd]at hdd;cases hdd
  unfold wpListIn at h
  split at h
  ·obtain⟨_,h2⟩:=h
   revert h2
   generalize (o.semAt F.round a.eval).run P W=r
   intro h2
   have go:∀a W,wpListIn F n P ops (fun e a' _=>e=.normal∧C a') l a W→∃a1,C a1:=fun a W h=>list_ex hd l a W h
   match r,h2 with
   | .ok (.value v) w',h2=>exact go _ _ h2
   | .ok .skip w',h2=>exact go _ _ h2
   | .ok (.defer dd) w',h2=>exact go _ _ h2
   | .ok (.enter f args) w',h2=>
    obtain⟨e,w'',fr,hR,_⟩:=h2.2.2 [] (room _)
    match e,hR with
    | .returned v,hh=>exact go _ _ hh
    | .panicked ch,hh=>cases hh.1
    | .outgrown,hh=>exact hh.elim fun _ hw=>hw.elim fun _ hf=>by cases hf.1
   | .ok (.row row args) w',h2=>
    obtain⟨v,w'',hR,_⟩:=h2.2 default [] (room _)
    exact go _ _ hR
   | .ok (.round l' f tmps assign body) w',h2=>
    obtain⟨e,w'',hR,_⟩:=h2.2.2 default [] (room _)
    match e,hR with
    | .returned v,hh=>exact go _ _ hh
    | .panicked ch,hh=>cases hh.1
    | .outgrown,hh=>exact hh.elim fun _ hw=>hw.elim fun _ hf=>by cases hf.1
   | .halt (.panic v) w',h2=>cases h2.1
  ·exact list_ex hd l _ _ h.2
theorem each_mem {a:Act} {W:World}:∀(l:List Nat),eachIn F n P ops a W (sel ops l)→∀i∈l,∀o,ops[i]?=some o→(if Region.wanted o (yielded ops a.tmps)then o.wpIn F n P a W (fun a' W'=>a'=a∧W'=W) (fun _ _ _=>False)else(∀f,o.about P W a.eval=some f→F.fn f)∧a.put o.dst undef=a)
 | [],_,i,hi,_,_=>by cases hi
 | j::l,h,i,hi,o,ho=>by
  unfold sel at h
  rcases List.mem_cons.1 hi with e|hi
  ·subst e
   rw[ho]at h
   exact h.1
  ·cases hj:ops[j]? with
   | none=>rw[hj]at h;exact each_mem l h i hi o ho
   | some oj=>rw[hj]at h;exact each_mem l h.2 i hi o ho
theorem af6:∀(l:List Nat) (u:Nat→Value) (a:Act) (s:Nat),(∀i∈l,dOf ops i≠some s)→(putS ops l u a).tmps[s]?=a.tmps[s]?
 | [],_,_,_,_=>rfl
 | i::l,u,a,s,h=>by
  unfold putS
  rw[af6 l u _ s fun j hj=>h j (List.mem_cons_of_mem _ hj)]
  have:=h i (List.mem_cons_self ..)
  cases hd:dOf ops i with
  | none=>rfl
  | some d=>rw[put_at,if_neg];rintro rfl;exact this hd
theorem put_size (a:Act) (d:Option Nat) (v:Value):(a.put d v).tmps.size=a.tmps.size:=by cases d<;>simp[Act.put]
theorem put_defers (a:Act) (d:Option Nat) (v:Value):(a.put d v).defers=a.defers:=by cases d<;>rfl
theorem putS_size:∀(l:List Nat) (u:Nat→Value) (a:Act),(putS ops l u a).tmps.size=a.tmps.size
 | [],_,_=>rfl
 | i::l,u,a=>by unfold putS;rw[putS_size l,put_size]
theorem ao3:∀(l:List Nat) (u:Nat→Value) (a:Act),(putS ops l u a).defers=a.defers
 | [],_,_=>rfl
 | i::l,u,a=>by unfold putS;rw[ao3 l,put_defers]
theorem putS_at (M:MixOk ops c N rs ss):∀(l:List Nat) (u:Nat→Value) (a:Act),(∀i∈l,i<c)→a.tmps.size=N→∀i∈l,∀d,dOf ops i=some d→(putS ops l u a).tmps[d]?=some (u i)
 | [],_,_,_,_,i,hi,_,_=>by cases hi
 | j::l,u,a,hl,hN,i,hi,d,hd=>by
  unfold putS
  by_cases hil:i∈l
  ·exact putS_at M l u _ (fun x hx=>hl x (List.mem_cons_of_mem _ hx)) (by rw[put_size];exact hN) i hil d hd
  ·have e:i=j:=by rcases List.mem_cons.1 hi with e|e;exact e;exact absurd e hil
   subst e
   obtain⟨d',hd',hdN⟩:=M.dst i (hl i hi)
   rw[hd]at hd'
   cases hd'
   rw[af6 l u _ d,hd,put_at,if_pos rfl,if_pos (by omega)]
   intro x hx he
   by_cases e:x=i
   ·exact hil (e ▸ hx)
   ·exact M.ne x i (hl x (List.mem_cons_of_mem _ hx)) (hl i hi) e (he.trans hd.symm)
def vOf (ops:Array Oper) (a1:Act) (i:Nat):Value:=(a1.tmps[(dOf ops i).getD 0]?).getD undef
structure MixRest (F:Fence) (n:Nat) (P:Program) (ops:Array Oper) (S:Nat→Prop) (Q:Exit→Act→World→Prop) (a:Act) (w:World) (c:Nat) (rs ss:List Nat) (l:List Oper) (l':List Oper) (Φ:Nat→Value→World→Prop) (a1:Act):Prop where
 act:a1=putS ops rs (vOf ops a1) a
 each:∀W,Keep S w.drew W→eachIn F n P ops a1 W l
 spec:∀i∈ss,∀u W,Keep S w.drew W→(∀j∈ss,j∈aft ops i→Φ j (u j) W)→wpOpIn F n P ops (fun _ _ _=>False) i (fun a' W'=>∃v,a'=(putS ops ss u a1).put (dOf ops i) v∧Keep S W W'∧Φ i v W') (putS ops ss u a1) W
 rest:∀u W,Keep S w.drew W→(∀j∈ss,Φ j (u j) W)→wpListIn F n P ops Q l' (putS ops ss u a1) W
theorem aa9 (S:Nat→Prop) (id:Nat) (hF:F.round=none) (hF2:F.depth=none) (hm:P.follows .mixedOrders=true) {Q:Exit→Act→World→Prop} {a:Act} {w:World} (c N:Nat) (rs ss:List Nat) (hok:mixOk ops c N rs ss=true) (hN:a.tmps.size=N) (Φ:Nat→Value→World→Prop)
  (hmono:∀i∈ss,∀v W W',Φ i v W→Keep S W W'→Φ i v W') (l l':List Oper) (hl:sel ops rs=l) (hl':ops.toList.drop c=l')
  (h:wpListIn F n P ops (fun e a1 _=>e=.normal∧MixRest F n P ops S Q a w c rs ss l l' Φ a1) l a w.drew):(Code.region id ops true).wpIn F n P Q a w:=by
 subst hl hl'
 have M:=mixOk.out hok
 obtain⟨a1,hA,hE,hS,hR⟩:=list_ex hF2 (C:=MixRest F n P ops S Q a w c rs ss (sel ops rs) (ops.toList.drop c) Φ) _ _ _ h
 have a1N:a1.tmps.size=N:=by rw[hA,putS_size];exact hN
 have a1V:∀i∈rs,∀d,dOf ops i=some d→a1.tmps[d]?=some (vOf ops a1 i):=fun i hi d hd=>by
  have:=putS_at M rs (vOf ops a1) a (fun x hx=>M.rl x hx) hN i hi d hd
  rw[←hA]at this
  exact this
 have a1O:∀s,(∀i∈rs,dOf ops i≠some s)→a1.tmps[s]?=a.tmps[s]?:=fun s hs=>by
  have:=af6 rs (vOf ops a1) a s hs
  rw[←hA]at this
  exact this
 have a1D:a1.defers=a.defers:=by rw[hA,ao3]
 refine Eq.mp ?_ (region_free (S:=S) (F:=F) (n:=n) (P:=P) (ops:=ops) (Q:=Q) id hm c M.free M.cl (ak4 ops c a) (fun i=>vOf ops a i) (fun i v W=>if i∈rs then v=vOf ops a1 i else Φ i v W) w ?_ ?_ ?_)
 ·congr 1
  refine act_ext (fun s=>?_) rfl
  by_cases hs:∃j,j<c∧dOf ops j=some s
  ·obtain⟨j,hj,hjs⟩:=hs
   obtain⟨d',hd',hdN'⟩:=M.dst j hj
   have hsN:s<N:=by rw[hjs]at hd';cases hd';exact hdN'
   rw[mix_at M hN _ hj hjs hsN]
   unfold vOf
   rw[hjs]
   simp only[Option.getD_some]
   rw[Array.getElem?_eq_getElem (by omega)]
   rfl
  ·exact ai8 _ _ fun j hj he=>hs ⟨j,hj,he⟩
 ·intro i hi v W W' hv hK
  by_cases hr:i∈rs
  ·simp only[if_pos hr]at hv ⊢;exact hv
  ·simp only[if_neg hr]at hv ⊢
   rcases M.one i hi with⟨h1,_⟩|⟨_,h2⟩
   ·exact absurd h1 hr
   ·exact hmono i h2 v W W' hv hK
 ·intro i hi u W hK hdep
  by_cases hr:i∈rs
  ·have hag:∀s,(∀j,j<c→dOf ops j=some s→j∈aft ops i)→a1.tmps[s]?=(ak4 ops c a u).tmps[s]?:=fun s hs=>by
    by_cases hx:∃j,j<c∧dOf ops j=some s
    ·obtain⟨j,hj,hjs⟩:=hx
     obtain⟨d',hd',hdN'⟩:=M.dst j hj
     have hsN:s<N:=by rw[hjs]at hd';cases hd';exact hdN'
     have hja:=hs j hj hjs
     have hjr:=M.rr i hr j hja
     have:=hdep j hja
     rw[if_pos hjr]at this
     rw[mix_at M hN _ hj hjs hsN,a1V j hjr s hjs,this]
    ·rw[ai8 _ _ fun j hj he=>hx ⟨j,hj,he⟩,a1O s fun j hj he=>hx ⟨j,M.rl j hj,he⟩]
   have ho:∃o,ops[i]?=some o:=⟨_,Array.getElem?_eq_getElem (by have:=M.cl;omega)⟩
   obtain⟨o,ho⟩:=ho
   obtain⟨d,hd,hdN⟩:=M.dst i hi
   have hdo:o.dst=some d:=by unfold dOf at hd;rw[ho]at hd;exact hd
   have hx:=each_mem rs (hE W hK) i hr o ho
   have same:∀v,a1.put (some d) v=a1→v=vOf ops a1 i:=fun v e=>by
    have h1:=congrArg (fun x:Act=>x.tmps[d]?) e
    simp only[put_at,if_true,if_pos (show d<a1.tmps.size by omega)]at h1
    rw[a1V i hr d hd]at h1
    exact Option.some.inj h1
   have self:a1.put (some d) (vOf ops a1 i)=a1:=act_ext (fun s=>by
    rw[put_at]
    by_cases e:s=d
    ·subst e;rw[if_pos rfl,if_pos (by omega),a1V i hr s hd]
    ·rw[if_neg e]) (put_defers _ _ _)
   have hw:wpOpIn F n P ops (fun _ _ _=>False) i (fun b W'=>∃v,b=a1.put (dOf ops i) v∧(v=vOf ops a1 i∧W'=W)) a1 W:=by
    unfold wpOpIn
    rw[ho,hd]
    simp only
    split
    ·rename_i hw
     rw[if_pos hw]at hx
     exact Oper.wpIn_mono (fun b W' ⟨e1,e2⟩=>⟨vOf ops a1 i,by rw[self];exact e1,rfl,e2⟩) hx
    ·rename_i hw
     rw[if_neg hw]at hx
     refine⟨hx.1,undef,by rw[hdo],?_⟩
     rw[hdo]at hx
     exact⟨same _ hx.2,trivial⟩
   refine al0 (fun b W'=>?_) (opIn_move M hF hi a1N hag hw (Q:=Q))
   rintro⟨v,rfl,rfl,rfl⟩
   exact⟨_,mix_put M hN u hi _,Keep.refl _ _,by simp only[if_pos hr]⟩
  ·have his:i∈ss:=by
    rcases M.one i hi with⟨h1,_⟩|⟨_,h2⟩
    ·exact absurd h1 hr
    ·exact h2
   have nr:∀j∈ss,j ∉ rs:=fun j hj hjr=>by
    rcases M.one j (M.sl j hj)with⟨_,h2⟩|⟨h1,_⟩
    ·exact h2 hj
    ·exact h1 hjr
   have hx:=hS i his u W hK fun j hj hja=>by
    have:=hdep j hja
    rw[if_neg (nr j hj)]at this
    exact this
   have hag:∀s,(∀j,j<c→dOf ops j=some s→j∈aft ops i)→(putS ops ss u a1).tmps[s]?=(ak4 ops c a u).tmps[s]?:=fun s hs=>by
    by_cases hx:∃j,j<c∧dOf ops j=some s
    ·obtain⟨j,hj,hjs⟩:=hx
     obtain⟨d',hd',hdN'⟩:=M.dst j hj
     have hsN:s<N:=by rw[hjs]at hd';cases hd';exact hdN'
     rw[mix_at M hN _ hj hjs hsN]
     rcases M.one j hj with⟨h1,h2⟩|⟨h1,h2⟩
     ·have:=hdep j (hs j hj hjs)
      rw[if_pos h1]at this
      rw[af6 ss u a1 s,a1V j h1 s hjs,this]
      intro x hx he
      exact M.ne x j (M.sl x hx) hj (fun e=>h2 (e ▸ hx)) (he.trans hjs.symm)
     ·exact putS_at M ss u a1 (fun x hx=>M.sl x hx) a1N j h2 s hjs
    ·rw[ai8 _ _ fun j hj he=>hx ⟨j,hj,he⟩,af6 ss u a1 s fun j hj he=>hx ⟨j,M.sl j hj,he⟩,a1O s fun j hj he=>hx ⟨j,M.rl j hj,he⟩]
   refine al0 (fun b W'=>?_) (opIn_move M hF hi (by rw[putS_size];exact a1N) hag hx (Q:=Q))
   rintro⟨v,rfl,hK',hv⟩
   exact⟨_,mix_put M hN u hi _,hK',by simp only[if_neg hr];exact hv⟩
 ·intro u W hK hΦ
  have nr:∀j∈ss,j ∉ rs:=fun j hj hjr=>by
   rcases M.one j (M.sl j hj)with⟨_,h2⟩|⟨h1,_⟩
   ·exact h2 hj
   ·exact h1 hjr
  have e:ak4 ops c a u=putS ops ss u a1:=by
   refine act_ext (fun s=>?_) (by rw[ao3];exact a1D.symm)
   by_cases hx:∃j,j<c∧dOf ops j=some s
   ·obtain⟨j,hj,hjs⟩:=hx
    obtain⟨d',hd',hdN'⟩:=M.dst j hj
    have hsN:s<N:=by rw[hjs]at hd';cases hd';exact hdN'
    rw[mix_at M hN _ hj hjs hsN]
    rcases M.one j hj with⟨h1,h2⟩|⟨h1,h2⟩
    ·have:=hΦ j hj
     rw[if_pos h1]at this
     rw[af6 ss u a1 s,a1V j h1 s hjs,this]
     intro x hx he
     exact M.ne x j (M.sl x hx) hj (fun e=>h2 (e ▸ hx)) (he.trans hjs.symm)
    ·exact(putS_at M ss u a1 (fun x hx=>M.sl x hx) a1N j h2 s hjs).symm
   ·rw[ai8 _ _ fun j hj he=>hx ⟨j,hj,he⟩,af6 ss u a1 s fun j hj he=>hx ⟨j,M.sl j hj,he⟩,a1O s fun j hj he=>hx ⟨j,M.rl j hj,he⟩]
  rw[e]
  exact hR u W hK fun j hj=>by
   have:=hΦ j (M.sl j hj)
   rw[if_neg (nr j hj)]at this
   exact this
end
section
variable {P:Program} {α:Type} {w:World} {a:Addr} {u:Value}
theorem ad2 {v:Value} {c:Sem α} (hv:v.oneCell'=true) (h:w.cell? a=some u) (hf:w.frozen? a=false):(Sem.store .plain a v c).run P w=c.run P (w.setCell a v):=by
 cases v<;>first|(simp[Value.oneCell']at hv;done)|simp only[Sem.run,h,hf,Bool.false_eq_true,if_false]
theorem aj1 {c:Value→Sem α} (h:w.cell? a=some u):(Sem.load .plain a c).run P w=(c u).run P w:=by
 simp only[Sem.run,h]
end
section
variable {F:Fence} {n:Nat} {P:Program} {w w':World} {ops:Array Oper} {rest:List Oper} {o:Oper} {a:Act} {Q:Exit→Act→World→Prop}
theorem list_copy (hg:o.guard=none) (s y:Operand) (ts:Array TypeId) (hop:o.op=Op.call { callee:=Callee.builtin .copy,args:=#[s,y],argTypes:=ts }) {v v2 x:Value} (hs:a.eval s=v) (hy:a.eval y=v2)
  (hrun:(Builtin.copy_ ts o.type #[v,v2]).run P w=.ok x w') (hK:wpListIn F n P ops Q rest (a.put o.dst x) w'):wpListIn F n P ops Q (o::rest) a w:=by
 refine wpListIn_plain hg fun K hK'=>?_
 unfold Oper.wpIn
 refine⟨?_,?_⟩
 ·simp[Oper.about,hop,resolve,Target.leads,Sem.run_pure]
 ·rw[Oper.semAt_plain F _ _ (by rw[hop];intro c hc';cases hc')]
  simp[execOp,hop,resolve,invoke,builtin,hs,hy,hrun,Result.andThen]
  exact hK' _ _ hK
theorem aj3 (hg:o.guard=none) (s y:Operand) (ts:Array TypeId) (hop:o.op=Op.call { callee:=Callee.builtin .append,args:=#[s,y],argTypes:=ts }) {v v2 x:Value} (hs:a.eval s=v) (hy:a.eval y=v2)
  (hrun:(Builtin.append_ ts o.type #[v,v2]).run P w=.ok x w') (hK:wpListIn F n P ops Q rest (a.put o.dst x) w'):wpListIn F n P ops Q (o::rest) a w:=by
 refine wpListIn_plain hg fun K hK'=>?_
 unfold Oper.wpIn
 refine⟨?_,?_⟩
 ·simp[Oper.about,hop,resolve,Target.leads,Sem.run_pure]
 ·rw[Oper.semAt_plain F _ _ (by rw[hop];intro c hc';cases hc')]
  simp[execOp,hop,resolve,invoke,builtin,hs,hy,hrun,Result.andThen]
  exact hK' _ _ hK
end
theorem set_same {ks:Array Value} {i:Nat} {v:Value} (h:ks[i]?=some v):ks.setIfInBounds i v=ks:=by
 apply Array.ext_getElem?
 intro j
 rw[Array.getElem?_setIfInBounds]
 by_cases e:i=j
 ·subst e;rw[if_pos rfl,h];split
  ·rfl
  ·rename_i hlt;rw[Array.getElem?_eq_none (by omega)]at h;cases h
 ·rw[if_neg e]
theorem ac0 {ks:Array Value} {i j:Nat} {v:Value} (h:i≠j):(ks.setIfInBounds i v)[j]?=ks[j]?:=by rw[Array.getElem?_setIfInBounds,if_neg h]
theorem aj6 {ks:Array Value} {i:Nat} {v u:Value} (h:ks[i]?=some u):(ks.setIfInBounds i v)[i]?=some v:=by
 rw[Array.getElem?_setIfInBounds,if_pos rfl,if_pos (Array.getElem?_eq_some_iff.1 h).1]
theorem ac2 {w:World} {b c:Nat} {x y:Array Value} {T U:TypeId} {f g:Nat×Nat} (h:w.heap[b]?=some (.cells x T f)) (k:w.heap[c]?=some (.cells y U g)) (n:T≠U):b≠c:=fun e=>by
 subst e;rw[h]at k;cases k;exact n rfl
/-! ### readers and others of a region, one by one -/
section
variable {F:Fence} {n:Nat} {P:Program} {W:World} {ops:Array Oper} {o:Oper} {os:List Oper} {a:Act}
theorem op_falsify {C:Act→World→Prop} {K:Act→World→Prop} (h:o.wpIn F n P a W K (fun e a' w'=>e=.normal∧C a' w')):o.wpIn F n P a W K (fun _ _ _=>False):=by
 obtain⟨h1,h2⟩:=h
 refine⟨h1,?_⟩
 revert h2
 generalize (o.semAt F.round a.eval).run P W=r
 intro h2
 match r,h2 with
 | .ok (.value v) w',h2=>exact h2
 | .ok .skip w',h2=>exact h2
 | .ok (.defer dd) w',h2=>exact h2
 | .ok (.enter f args) w',h2=>
  refine⟨h2.1,h2.2.mono fun e w'' hh=>?_⟩
  match e,hh with
  | .returned v,hh=>exact hh
  | .panicked ch,hh=>cases hh.1
  | .outgrown,hh=>exact hh.elim fun _ hw=>hw.elim fun _ hf=>by cases hf.1
 | .ok (.row row args) w',h2=>exact⟨h2.1,h2.2⟩
 | .ok (.round l f tmps assign body) w',h2=>
  refine⟨h2.1,h2.2.mono fun e w'' hh=>?_⟩
  match e,hh with
  | .returned v,hh=>exact hh
  | .panicked ch,hh=>cases hh.1
  | .outgrown,hh=>exact hh.elim fun _ hw=>hw.elim fun _ hf=>by cases hf.1
 | .halt (.panic v) w',h2=>cases h2.1
theorem aa8 (h:wpListIn F n P ops (fun e a' W'=>e=.normal∧a'=a∧W'=W) [o] a W) (hs:eachIn F n P ops a W os):eachIn F n P ops a W (o::os):=by
 refine⟨?_,hs⟩
 unfold wpListIn at h
 split at h
 ·rename_i hw
  rw[if_pos hw]
  exact Oper.wpIn_mono (fun _ _ hx=>hx.2) (op_falsify h)
 ·rename_i hw
  rw[if_neg hw]
  exact⟨h.1,h.2.2.1⟩
theorem op_list {i:Nat} {K:Act→World→Prop} (hi:ops[i]?=some o) (h:wpListIn F n P ops (fun e a' W'=>e=.normal∧K a' W') [o] a W):wpOpIn F n P ops (fun _ _ _=>False) i K a W:=by
 unfold wpOpIn
 rw[hi]
 simp only
 unfold wpListIn at h
 split at h
 ·rename_i hw
  rw[if_pos hw]
  exact Oper.wpIn_mono (fun _ _ hx=>hx.2) (op_falsify h)
 ·rename_i hw
  rw[if_neg hw]
  exact⟨h.1,h.2.2⟩
theorem ac4 {i:Nat} {K:Act→World→Prop} (hi:ops[i]?=some o) (h:∀KK:Act→World→Prop,(∀a' W',K a' W'→KK a' W')→wpListIn F n P ops (fun e a' W'=>e=.normal∧KK a' W') [o] a W):wpOpIn F n P ops (fun _ _ _=>False) i K a W:=
 op_list hi (h K fun _ _ h=>h)
end
def Four (x y f s:Value) (Z:Array Value):Array Value:=#[x,y,f,s]++Z
theorem four_get {x y f s:Value} {Z:Array Value}:(Four x y f s Z)[0]?=some x∧(Four x y f s Z)[1]?=some y∧(Four x y f s Z)[2]?=some f∧(Four x y f s Z)[3]?=some s:=by
 unfold Four
 refine⟨?_,?_,?_,?_⟩<;>(rw[Array.getElem?_append_left (by simp)];rfl)
theorem four_set {x y f s v:Value} {Z:Array Value}:(Four x y f s Z).setIfInBounds 0 v=Four v y f s Z∧(Four x y f s Z).setIfInBounds 1 v=Four x v f s Z∧(Four x y f s Z).setIfInBounds 2 v=Four x y v s Z∧(Four x y f s Z).setIfInBounds 3 v=Four x y f v Z:=by
 unfold Four
 refine⟨?_,?_,?_,?_⟩<;>(rw[Array.setIfInBounds_append_left (by simp)];rfl)
end Go.Fxa
