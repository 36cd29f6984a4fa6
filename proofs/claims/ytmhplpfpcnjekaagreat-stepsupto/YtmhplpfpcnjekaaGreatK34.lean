/- picks: its frames. The World of the law: its Book, its pairs. picks, whole, beside leavers. step: its frames. step: Look, Pids, and what does nothing. step, whole, beside leavers. The World's beginning; a pair more. An index that is reckoned at the machine. -/
import Derived.Test.YtmhplpfpcnjekaaGreatK33
namespace Go.Fxa
open Go.Conc
open Go.Proofs
open Go.RowKit
set_option maxRecDepth 1000000
def qk0 (P:Program):Code:=piece (ai6 P 76)
def qk1 (P:Program):Code:=ac6 1 (ai6 P 76)
theorem qk0_ops:(qk0 Tryz.prog).allOps (ac5 Tryz.prog)=true:=by kernel_rfl
theorem picks_box (m:Nat) (w:World) (f:Nat→Value) (wv pid n ka ra:Value):(qk0 Tryz.prog).wpIn NF m Tryz.prog (Ends fun tm w'=>∃g X,tm=TN 67 (ups g [(0,wv),(2,pid),(3,n),(5,.pointer (some ⟨X,0,none⟩))])∧Keep No w w'∧w.heap.size≤X∧w'.heap[X]?=some (.cells #[ka,ra] 83 (0,0))) ⟨TN 67 (ups f [(0,wv),(1,.agg #[ka,ra]),(2,pid),(3,n)]),[]⟩ w:=by
 unfold qk0
 rw[body76]
 dsimp only[Tryz.f76,Option.getD,piece]
 refine ac7 (by simp only[TN,List.range,List.range.loop,List.map,ups,Nat.reduceEqDiff,reduceIte];rfl) ?_
 gi_wp2
 exact⟨rfl,rfl,_,w.heap.size,af1 rfl (by simp),(Keep.refl _ _).alloc _,Nat.le_refl _,aa4 rfl⟩
section
variable (wv pv0 pid n ka told er:Value) (cs:List Frame) (f:Nat→Value) (X:Nat) (c0:Frame)
def qA (P:Program:=Tryz.prog):Frame×List Frame:=run P 1 (Frame.enter P 76 #[wv,pv0,pid,n] .normal,cs)
theorem qA_a:logs Tryz.prog 1 (Frame.enter Tryz.prog 76 #[wv,pv0,pid,n] .normal,cs)=some []:=by kernel_rfl
theorem qA_b:ae2 (qA wv pv0 pid n cs)=(76,[.code (qk0 Tryz.prog),.code (qk1 Tryz.prog)],[],.run,.normal,none,cs):=by kernel_rfl
theorem qA_c:ad0 (qA wv pv0 pid n cs) [0,1,2,3]=[wv,pv0,pid,n]:=by kernel_rfl
theorem qA_d:(qA wv pv0 pid n cs).1.tmps.size=67:=by kernel_rfl
def qB (P:Program:=Tryz.prog):Frame×List Frame:=(Frame.mk 76 (TN 67 (ups f [(0,wv),(2,pid),(3,n),(5,.pointer (some ⟨X,0,none⟩))])) [.code (qk1 P)] [] .run .normal none,cs)
theorem qB_a:logs Tryz.prog 3 (qB wv pid n cs f X)=some []:=by kernel_rfl
theorem qB_b (ad:Addr):ag7 Tryz.prog (run Tryz.prog 3 (qB wv pid n cs f X)) [.pointer (some ad)]=some ([⟨X,0,none⟩],.pointer (some ad)):=by kernel_rfl
theorem qB_c:logs Tryz.prog 3 (did (run Tryz.prog 3 (qB wv pid n cs f X)) ka)=some []:=by kernel_rfl
def qC (P:Program:=Tryz.prog):Frame:=(below (run P 3 (did (run P 3 (qB wv pid n cs f X P)) ka))).1
theorem qC_a:run Tryz.prog 3 (did (run Tryz.prog 3 (qB wv pid n cs f X)) ka)=(Frame.enter Tryz.prog 19 #[ka,pid,n] .normal,qC wv pid n ka cs f X::cs):=by kernel_rfl
def qD (P:Program:=Tryz.prog):Frame×List Frame:=run P 6 ((qC wv pid n ka cs f X P).finish (.tuple #[told,er]),cs)
theorem qD_a:logs Tryz.prog 6 ((qC wv pid n ka cs f X).finish (.tuple #[told,er]),cs)=some []:=by kernel_rfl
theorem qD_b:ae2 (qD wv pid n ka told er cs f X)=(76,[.code (pkR Tryz.prog)],[],.run,.normal,none,cs):=by kernel_rfl
theorem qD_c:ad0 (qD wv pid n ka told er cs f X) [0,2,3,5,9,10]=[wv,pid,n,.pointer (some ⟨X,0,none⟩),told,er]:=by kernel_rfl
theorem qD_d:(qD wv pid n ka told er cs f X).1.tmps.size=67:=by kernel_rfl
theorem qE_a (b:Bool) (todo:List Item):logs Tryz.prog 1 (Frame.mk 76 (TN 67 (ups f [(8,.bool b)])) todo [] .returning .normal none,c0::cs)=some []:=by kernel_rfl
theorem qE_b (b:Bool) (todo:List Item):run Tryz.prog 1 (Frame.mk 76 (TN 67 (ups f [(8,.bool b)])) todo [] .returning .normal none,c0::cs)=(c0.finish (.bool b),cs):=by kernel_rfl
end
theorem picks_goes_gen {Od:Old} {v:World} {c0:Frame} {cs:List Frame} {R:Frame×List Frame→World→Prop} {Q:World→Value→World→Prop} {Q2:Value→World→World→Prop} {wb:Nat} {ka ra:Addr} {pid n er:Int}
  (hp:∀v1 c1 (cs1:List Frame) R1,Keep No v v1→(∀told v',Q v1 told v'→Goes Od Tryz.prog (Frame.finish c1 (.tuple #[told,.int .i64 er]),cs1) v' R1)→Goes Od Tryz.prog (Frame.enter Tryz.prog 19 #[.pointer (some ka),.int .i64 pid,.int .i64 n] .normal,c1::cs1) v1 R1)
  (hr:∀v1 told v2 v3 X f,Keep No v v1→v.heap.size≤X→v1.heap[X]?=some (.cells #[.pointer (some ka),.pointer (some ra)] 83 (0,0))→Q v1 told v2→Keep No v2 v3→(pkR Tryz.prog).wpIn NF 0 Tryz.prog (Rets fun tm w'=>(∃g,tm=TN 67 (ups g [(8,.bool true)]))∧Q2 told v3 w') ⟨TN 67 (ups f [(0,.pointer (some ⟨wb,0,none⟩)),(2,.int .i64 pid),(3,.int .i64 n),(5,.pointer (some ⟨X,0,none⟩)),(9,told),(10,.int .i64 er)]),[]⟩ v3)
  (hk:∀v1 told v2 v3 v4,Keep No v v1→Q v1 told v2→Keep No v2 v3→Q2 told v3 v4→Goes Od Tryz.prog (c0.finish (.bool true),cs) v4 R):
  Goes Od Tryz.prog (Frame.enter Tryz.prog 76 #[.pointer (some ⟨wb,0,none⟩),.agg #[.pointer (some ka),.pointer (some ra)],.int .i64 pid,.int .i64 n] .normal,c0::cs) v R:=by
 refine Goes.logs (qA_a _ _ _ _ _) ?_
 rw[show run Tryz.prog 1 (Frame.enter Tryz.prog 76 #[.pointer (some ⟨wb,0,none⟩),.agg #[.pointer (some ka),.pointer (some ra)],.int .i64 pid,.int .i64 n] .normal,c0::cs)=qA (.pointer (some ⟨wb,0,none⟩)) (.agg #[.pointer (some ka),.pointer (some ra)]) (.int .i64 pid) (.int .i64 n) (c0::cs)from rfl,
  ag2 (l:=[(0,.pointer (some ⟨wb,0,none⟩)),(1,.agg #[.pointer (some ka),.pointer (some ra)]),(2,.int .i64 pid),(3,.int .i64 n)]) (qA_b _ _ _ _ _) (qA_c _ _ _ _ _) (qA_d _ _ _ _ _)]
 refine Goes.part (m:=0) nr76 rfl qk0_ops (fun v1 _=>picks_box 0 v1 _ _ _ _ _ _) fun v1 tm v2 K1 ⟨g,X,e,K2,lX,hX⟩=>?_
 subst e
 have k2:=K1.then K2
 refine Goes.logs (x:=qB (.pointer (some ⟨wb,0,none⟩)) (.int .i64 pid) (.int .i64 n) (c0::cs) g X) (qB_a _ _ _ _ _ _) ?_
 refine Goes.reads (qB_b _ _ _ _ _ _ ka) ⟨by rw[aa0 hX];rfl,trivial⟩ ?_
 refine Goes.logs (qB_c _ _ _ _ _ _ _) ?_
 rw[qC_a]
 refine hp v2 _ _ _ k2 fun told v3 hq=>?_
 refine Goes.logs (qD_a _ _ _ _ _ _ _ _ _) ?_
 rw[show run Tryz.prog 6 ((qC (.pointer (some ⟨wb,0,none⟩)) (.int .i64 pid) (.int .i64 n) (.pointer (some ka)) (c0::cs) g X).finish (.tuple #[told,.int .i64 er]),c0::cs)=qD (.pointer (some ⟨wb,0,none⟩)) (.int .i64 pid) (.int .i64 n) (.pointer (some ka)) told (.int .i64 er) (c0::cs) g X from rfl,
  ag2 (l:=[(0,.pointer (some ⟨wb,0,none⟩)),(2,.int .i64 pid),(3,.int .i64 n),(5,.pointer (some ⟨X,0,none⟩)),(9,told),(10,.int .i64 er)]) (qD_b _ _ _ _ _ _ _ _ _) (qD_c _ _ _ _ _ _ _ _ _) (qD_d _ _ _ _ _ _ _ _ _)]
 refine Goes.rets (m:=0) nr76 rfl pkR_ops (fun v4 K4=>hr v2 told v3 v4 X _ k2 (Nat.le_trans K1.size lX) hX hq K4) fun v4 tm todo v5 K4 ⟨⟨g5,e⟩,hq2⟩=>?_
 subst e
 refine Goes.logs (qE_a _ _ _ _ _) ?_
 rw[qE_b]
 exact hk v2 told v3 v4 v5 k2 hq K4 hq2
end Go.Fxa
namespace Go.Fxa
open Go.Conc
open Go.Proofs
open Go.RowKit
structure Two where
 (kb:KB) (qb:QB)
 st:Option (Bool×Nat×Nat×Nat)
def rowV:List Two→List Value
 | []=>[]
 | p::l=>.pointer (some ⟨p.kb.kb,0,none⟩)::.pointer (some ⟨p.qb.rb,0,none⟩)::rowV l
theorem rowV_app:∀l l',rowV (l++l')=rowV l++rowV l'
 | [],_=>rfl
 | _::l,l'=>by simp only[List.cons_append,rowV,rowV_app l l']
theorem rowV_at:∀(l:List Two) (i:Nat) (p:Two),l[i]?=some p→(rowV l)[i*2]?=some (.pointer (some ⟨p.kb.kb,0,none⟩))∧(rowV l)[i*2+1]?=some (.pointer (some ⟨p.qb.rb,0,none⟩))
 | [],i,p,h=>by simp at h
 | q::l,0,p,h=>by
  simp only[List.getElem?_cons_zero,Option.some.injEq]at h
  subst h
  exact⟨rfl,rfl⟩
 | q::l,i+1,p,h=>by
  have h':l[i]?=some p:=by simpa using h
  have:=rowV_at l i p h'
  rw[show(i+1)*2=i*2+1+1 by omega]
  simpa [rowV]using this
def SameAt (p p':Two):Prop:=p'.kb.kb=p.kb.kb∧p'.qb.rb=p.qb.rb∧(∀k,p'.kb.foot k→p.kb.foot k)∧∀k,p'.qb.foot k→p.qb.foot k
theorem SameAt.refl (p:Two):SameAt p p:=⟨rfl,rfl,fun _ h=>h,fun _ h=>h⟩
structure WS (T:Nat→Nat) (w:World) (wb bk mm:Nat) (tl:Nat→Value) (ls:List (Value×Int)) (ps:Value) (l:List Two):Prop where
 book:BookX T w bk tl mm ls
 blk:w.heap[wb]?=some (.cells #[.pointer (some ⟨bk,0,none⟩),ps] 78 (0,0))
 twb:T wb=9
 row:w.ownsRow 0 83 2 ps l.length (rowV l)
 trow:∀g,ps.ownBlock=some g→T g=9
 pair:∀(i:Nat) (p:Two),l[i]?=some p→PairOk p.kb p.qb w p.st
 tk:∀(i:Nat) (p:Two) (k:Nat),l[i]?=some p→p.kb.foot k→T k=10+2*i
 tq:∀(i:Nat) (p:Two) (k:Nat),l[i]?=some p→p.qb.foot k→T k=11+2*i
def Moves (T:Nat→Nat) (v:World) (T':Nat→Nat) (v':World):Prop:=Keep (fun k=>1≤T k) v v'∧∀k,k<v.heap.size→T' k=T k
theorem Moves.refl (T:Nat→Nat) (v:World):Moves T v T v:=⟨Keep.refl _ _,fun _ _=>rfl⟩
theorem Moves.trans {T T' T'':Nat→Nat} {v v' v'':World} (h:Moves T v T' v') (h':Moves T' v' T'' v''):Moves T v T'' v'':=
 ⟨h.1.trans h'.1 fun k hk e=>by rw[h.2 k hk]at e;exact e,fun k hk=>(h'.2 k (Nat.lt_of_lt_of_le hk h.1.size)).trans (h.2 k hk)⟩
theorem Moves.no {T:Nat→Nat} {v v':World} (h:Keep No v v'):Moves T v T v':=⟨h.no,fun _ _=>rfl⟩
section
variable {T T':Nat→Nat} {w w':World} {wb bk mm mm':Nat} {tl tl':Nat→Value} {ls ls':List (Value×Int)} {ps:Value} {l l':List Two} {S:Nat→Prop}
theorem BookX.high (h:BookX T w bk tl mm ls):∀k,w.heap.size≤k→T k=0:=by obtain⟨_,_,_,_,h3,_⟩:=h;exact h3
theorem WS.lt (h:WS T w wb bk mm tl ls ps l) {k:Nat} (hk:1≤T k):k<w.heap.size:=by
 rcases Nat.lt_or_ge k w.heap.size with a|a
 ·exact a
 ·have:=h.book.high k a;omega
theorem WS.acts (h:WS T w wb bk mm tl ls ps l) (i:Nat) (hK:Keep S w w') (hS:∀k,S k→1≤T k→T k≤8∨T k=10+2*i∨T k=11+2*i) (B:BookX T' w' bk tl' mm' ls') (hT:∀k,k<w.heap.size→T' k=T k)
  (hl:l'.length=l.length) (hrow:rowV l'=rowV l) (hs:∀(j:Nat) (p':Two),l'[j]?=some p'→∃p,l[j]?=some p∧SameAt p p') (hi:∀p':Two,l'[i]?=some p'→PairOk p'.kb p'.qb w' p'.st) (ho:∀(j:Nat) (p':Two),j≠i→l'[j]?=some p'→l[j]?=some p'):WS T' w' wb bk mm' tl' ls' ps l':=by
 have nine:∀k,T k=9→¬S k:=fun k hk hs=>by rcases hS k hs (by omega)with a|a|a<;>omega
 have retag:∀k,1≤T k→T' k=T k:=fun k hk=>hT k (h.lt hk)
 refine⟨B,hK.old h.blk (nine _ h.twb),(retag _ (by rw[h.twb];omega)).trans h.twb,?_,fun g hg=>(retag _ (by rw[h.trow g hg];omega)).trans (h.trow g hg),fun j p' hj=>?_,fun j p' k hj hk=>?_,fun j p' k hj hk=>?_⟩
 ·rw[hl,hrow]
  exact aa3 h.row hK fun g hg=>nine g (h.trow g hg)
 ·by_cases e:j=i
  ·subst e
   exact hi p' hj
  ·have hj':=ho j p' e hj
   refine(h.pair j p' hj').keep hK (fun k hk hs=>?_) (fun k hk hs=>?_)
   ·have t:=h.tk j p' k hj' hk
    rcases hS k hs (by omega)with a|a|a<;>omega
   ·have t:=h.tq j p' k hj' hk
    rcases hS k hs (by omega)with a|a|a<;>omega
 ·obtain⟨p,hp,s⟩:=hs j p' hj
  have t:=h.tk j p k hp (s.2.2.1 k hk)
  exact(retag k (by omega)).trans t
 ·obtain⟨p,hp,s⟩:=hs j p' hj
  have t:=h.tq j p k hp (s.2.2.2 k hk)
  exact(retag k (by omega)).trans t
theorem WS.books (h:WS T w wb bk mm tl ls ps l) (hK:Keep S w w') (hS:∀k,S k→1≤T k→T k≤8) (B:BookX T' w' bk tl' mm' ls') (hT:∀k,k<w.heap.size→T' k=T k):WS T' w' wb bk mm' tl' ls' ps l:=
 h.acts l.length hK (fun k hs h1=>.inl (hS k hs h1)) B hT rfl rfl (fun _ p hp=>⟨p,hp,SameAt.refl p⟩) (fun p hp=>by simp at hp) (fun _ _ _ hp=>hp)
theorem WS.keep (h:WS T w wb bk mm tl ls ps l) (hK:Keep S w w') (hn:∀k,1≤T k→¬S k):WS T w' wb bk mm tl ls ps l:=
 h.books hK (fun k hs h1=>(hn k h1 hs).elim) (h.book.keep hK fun k a _=>hn k a) (fun _ _=>rfl)
theorem WS.keepNo (h:WS T w wb bk mm tl ls ps l) (hK:Keep No w w'):WS T w' wb bk mm tl ls ps l:=h.keep hK fun _ _ x=>x
theorem rowV_set:∀(l:List Two) (i:Nat) (p p':Two),l[i]?=some p→SameAt p p'→rowV (l.set i p')=rowV l
 | [],i,p,p',h,_=>by simp at h
 | q::l,0,p,p',h,s=>by
  simp only[List.getElem?_cons_zero,Option.some.injEq]at h
  subst h
  simp only[List.set_cons_zero,rowV,s.1,s.2.1]
 | q::l,i+1,p,p',h,s=>by
  have h':l[i]?=some p:=by simpa using h
  simp only[List.set_cons_succ,rowV,rowV_set l i p p' h' s]
theorem WS.onPair (h:WS T w wb bk mm tl ls ps l) {i:Nat} {p p':Two} (hp:l[i]?=some p) (s:SameAt p p') (hK:Keep S w w') (hS:∀k,S k→1≤T k→T k≤8∨T k=10+2*i∨T k=11+2*i) (B:BookX T' w' bk tl' mm' ls') (hT:∀k,k<w.heap.size→T' k=T k) (hi:PairOk p'.kb p'.qb w' p'.st):WS T' w' wb bk mm' tl' ls' ps (l.set i p'):=by
 have hlt:i<l.length:=(List.getElem?_eq_some_iff.1 hp).1
 refine h.acts i hK hS B hT (by simp) (rowV_set l i p p' hp s) (fun j q hq=>?_) (fun q hq=>?_) (fun j q hj hq=>?_)
 ·by_cases e:j=i
  ·subst e
   rw[List.getElem?_set_self hlt]at hq
   cases hq
   exact⟨p,hp,s⟩
  ·rw[List.getElem?_set_ne (Ne.symm e)]at hq
   exact⟨q,hq,SameAt.refl q⟩
 ·rw[List.getElem?_set_self hlt]at hq
  cases hq
  exact hi
 ·rw[List.getElem?_set_ne (Ne.symm hj)]at hq
  exact hq
end
section
variable {T:Nat→Nat} {v:World} {wb bk mm:Nat} {tl:Nat→Value} {ls:List (Value×Int)} {ps:Value} {l:List Two} {i:Nat} {p:Two} {c0:Frame} {cs:List Frame} {R:Frame×List Frame→World→Prop} {pid n:Int}
theorem ao4 {Od:Old} {F0 F:Nat→Prop} {evs:List (Nat×Nat×Nat)} {er:Int} {p':Two} {Ψ0:World→Prop} (h:WS T v wb bk mm tl ls ps l) (hp:l[i]?=some p) (hmm:mm≤100000000) (s:SameAt p p') (hF0:∀k,F0 k→p.kb.foot k) (hF:∀k,F k→p.qb.foot k) (hl:evs.length≤1000)
  (hpick:∀v1 c1 (cs1:List Frame) R1,Keep No v v1→(∀told v',Keep F0 v1 v'∧ToldE v.heap.size told v' evs∧Ψ0 v'→Goes Od Tryz.prog (Frame.finish c1 (.tuple #[told,.int .i64 er]),cs1) v' R1)→Goes Od Tryz.prog (Frame.enter Tryz.prog 19 #[.pointer (some ⟨p.kb.kb,0,none⟩),.int .i64 pid,.int .i64 n] .normal,c1::cs1) v1 R1)
  (hΨ0:∀w1 w2,Keep No w1 w2→Ψ0 w1→Ψ0 w2)
  (hdoc:∀m v3,Keep F0 v v3→Ψ0 v3→CallsIn NF m Tryz.prog 32 #[.pointer (some ⟨p.qb.rb,0,none⟩),.int .i64 pid,.int .i64 n] v3 fun e w'=>∃told',e=.returned (.tuple #[told',.int .i64 er])∧Keep F v3 w'∧ToldE 0 told' w' evs∧PairOk p'.kb p'.qb w' p'.st)
  (hk:∀T' v' p',SameAt p p'→WS T' v' wb bk (mm+1) tl ls ps (l.set i p')→Moves T v T' v'→Goes Od Tryz.prog (c0.finish (.bool true),cs) v' R):
  Goes Od Tryz.prog (Frame.enter Tryz.prog 76 #[.pointer (some ⟨wb,0,none⟩),.agg #[.pointer (some ⟨p.kb.kb,0,none⟩),.pointer (some ⟨p.qb.rb,0,none⟩)],.int .i64 pid,.int .i64 n] .normal,c0::cs) v R:=by
 have tk:=fun k=>h.tk i p k hp
 have tq:=fun k=>h.tq i p k hp
 have hi0:=h.book.high
 have fresh:∀told w,ToldE v.heap.size told w evs→∀g,told.ownBlock=some g→v.heap.size≤g∧T g=0:=fun told w ht g hg=>by
  have:=((show w.ownsRow v.heap.size 59 4 told evs.length (evsC evs)from ht).lt g hg).1
  exact⟨this,hi0 g this⟩
 refine picks_goes_gen (er:=er) (Q:=fun v1 told v'=>Keep F0 v1 v'∧ToldE v.heap.size told v' evs∧Ψ0 v')
  (Q2:=fun told v3 v4=>PairOk p'.kb p'.qb v4 p'.st∧Keep (fun k=>F k∨KeepS T told k) v3 v4∧∃T',BookX T' v4 bk tl (mm+1) ls∧∀k,k<v3.heap.size→T' k=ad4 T told 6 k)
  (fun v1 c1 cs1 R1 K1 hg=>hpick v1 c1 cs1 R1 K1 hg) (fun v1 told v2 v3 X f K1 lX hX hq K3=>?_) (fun v1 told v2 v3 v4 K1 hq K3 hq2=>?_)
 ·obtain⟨k12,ht,hψ⟩:=hq
  have k3:Keep F0 v v3:=K1.no.then (k12.then K3.no)
  have nF0:∀k,1≤T k→T k≤9→¬F0 k:=fun k a b hf=>by have:=tk k (hF0 k hf);omega
  have hX3:v3.heap[X]?=some (.cells #[.pointer (some ⟨p.kb.kb,0,none⟩),.pointer (some ⟨p.qb.rb,0,none⟩)] 83 (0,0)):=by
   exact(k12.then K3.no).old hX fun hf=>by have:=tk X (hF0 X hf);have:=hi0 X lX;omega
  refine wpIn_mono (picks_rest 0 v3 f T wb bk mm tl ls ps (h.book.keep k3 fun k a b=>nF0 k a (by omega)) (k3.old h.blk (nF0 _ (by rw[h.twb];omega) (by rw[h.twb];omega))) X p.kb.kb p.qb.rb hX3 pid n er told evs (af0 (ht.more K3) (Nat.zero_le _)) (fun g hg=>(fresh told v2 ht g hg).2) hl hmm
   F (fun k hf=>by have:=tq k (hF k hf);omega) (fun g hg hf=>by have:=tq g (hF g hf);have:=(fresh told v2 ht g hg).2;omega) (fun hf=>by have:=tq wb (hF wb hf);have:=h.twb;omega)
   (fun w=>PairOk p'.kb p'.qb w p'.st) (fun w1 w2 hK hP=>hP.keep hK (fun k hf hs=>?_) (fun k hf hs=>?_)) (fun m=>hdoc m v3 k3 (hΨ0 _ _ K3 hψ))) fun e a w' hh=>⟨hh.1,hh.2.1,hh.2.2.1,hh.2.2.2⟩
  ·have:=tk k (s.2.2.1 k hf)
   rcases hs with a|a
   ·omega
   ·have:=(fresh told v2 ht k a).2;omega
  ·have:=tq k (s.2.2.2 k hf)
   rcases hs with a|a
   ·omega
   ·have:=(fresh told v2 ht k a).2;omega
 ·obtain⟨k12,ht,hψ⟩:=hq
  obtain⟨hP,K4,T',B',hT'⟩:=hq2
  have k3:Keep F0 v v3:=K1.no.then (k12.then K3.no)
  have hT:∀k,k<v.heap.size→T' k=T k:=fun k hk=>by
   rw[hT' k (Nat.lt_of_lt_of_le hk k3.size)]
   unfold ad4
   rw[if_neg fun e=>by have:=(fresh told v2 ht k e).1;omega]
  have KK:Keep (fun k=>F0 k∨F k∨(1≤T k∧T k≤5)) v v4:=(k3.mono fun k _ e=>.inl e).trans K4 fun k hk e=>by
   rcases e with a|a|a
   ·exact .inr (.inl a)
   ·exact .inr (.inr a)
   ·have:=(fresh told v2 ht k a).1;omega
  refine hk T' v4 p' s (h.onPair hp s KK (fun k hs h1=>?_) B' hT hP) ⟨KK.mono fun k _ e=>?_,hT⟩
  ·rcases hs with a|a|a
   ·exact .inr (.inl (tk k (hF0 k a)))
   ·exact .inr (.inr (tq k (hF k a)))
   ·exact .inl (by omega)
  ·rcases e with a|a|a
   ·have:=tk k (hF0 k a);omega
   ·have:=tq k (hF k a);omega
   ·exact a.1
theorem told_nil (w:World) (b:Nat):ToldE b (.slice none 0 0) w []:=World.ownsRow_nil _ _ _ _
theorem picks_goes_lost {Od:Old} (h:WS T v wb bk mm tl ls ps l) (hp:l[i]?=some p) (hmm:mm≤100000000) (hlost:∀w,PairOk p.kb p.qb w p.st→((∃co A B P,p.kb.on co A B P w)∧pid≠1∨p.kb.off w)∧∃th,p.qb.has th w∧(th=false∨pid≠1))
  (hk:∀T' v' p',SameAt p p'→WS T' v' wb bk (mm+1) tl ls ps (l.set i p')→Moves T v T' v'→Goes Od Tryz.prog (c0.finish (.bool true),cs) v' R):
  Goes Od Tryz.prog (Frame.enter Tryz.prog 76 #[.pointer (some ⟨wb,0,none⟩),.agg #[.pointer (some ⟨p.kb.kb,0,none⟩),.pointer (some ⟨p.qb.rb,0,none⟩)],.int .i64 pid,.int .i64 n] .normal,c0::cs) v R:=by
 have P0:=h.pair i p hp
 have no:∀(F:Nat→Prop) k,F k→¬No k:=fun _ _ _ x=>x
 refine ao4 (F0:=No) (F:=No) (evs:=[]) (er:=2) (Ψ0:=fun w=>PairOk p.kb p.qb w p.st) h hp hmm (SameAt.refl p) (fun _ x=>x.elim) (fun _ x=>x.elim) (by simp) (fun v1 c1 cs1 R1 K1 hg=>?_) (fun w1 w2 hK hP=>hP.keep hK (no _) (no _)) (fun m v3 _ hψ=>?_) hk
 ·have P1:=P0.keep K1 (no _) (no _)
  exact pick_goes_no (hlost v1 P1).1 fun v' K'=>hg _ v' ⟨K',told_nil _ _,P1.keep K' (no _) (no _)⟩
 ·obtain⟨th,h1,h2⟩:=(hlost v3 hψ).2
  refine(rpick_none m v3 p.qb th pid n h1 h2).mono ?_
  rintro e w' ⟨rfl,rfl⟩
  exact⟨_,rfl,Keep.refl _ _,told_nil _ _,hψ⟩
theorem picks_goes {Od:Old} (h:WS T v wb bk mm tl ls ps l) (hp:l[i]?=some p) (hmm:mm≤100000000)
  (hk:∀T' v' p',SameAt p p'→WS T' v' wb bk (mm+1) tl ls ps (l.set i p')→Moves T v T' v'→Goes Od Tryz.prog (c0.finish (.bool true),cs) v' R):
  Goes Od Tryz.prog (Frame.enter Tryz.prog 76 #[.pointer (some ⟨wb,0,none⟩),.agg #[.pointer (some ⟨p.kb.kb,0,none⟩),.pointer (some ⟨p.qb.rb,0,none⟩)],.int .i64 pid,.int .i64 n] .normal,c0::cs) v R:=by
 have P0:=h.pair i p hp
 have tk:=fun k=>h.tk i p k hp
 have tq:=fun k=>h.tq i p k hp
 have no:∀(F:Nat→Prop) k,F k→¬No k:=fun _ _ _ x=>x
 cases e:p.st with
 | none=>exact picks_goes_lost h hp hmm (fun w hP=>by have hon:=hP.on;rw[e]at hon;exact⟨.inr hon.1,false,hon.2.has,.inl rfl⟩) hk
 | some s=>
  obtain⟨co,A,B,P⟩:=s
  by_cases hpid:pid=1
  ·subst hpid
   have on:∀w,PairOk p.kb p.qb w p.st→p.kb.on co A B P w∧p.qb.on co A B P w:=fun w hP=>by have hon:=hP.on;rw[e]at hon;exact hon
   by_cases hn:n<1∨1000<n
   ·refine ao4 (F0:=No) (F:=No) (evs:=[]) (er:=4) (Ψ0:=fun w=>PairOk p.kb p.qb w p.st) h hp hmm (SameAt.refl p) (fun _ x=>x.elim) (fun _ x=>x.elim) (by simp) (fun v1 c1 cs1 R1 K1 hg=>?_) (fun w1 w2 hK hP=>hP.keep hK (no _) (no _)) (fun m v3 _ hψ=>?_) hk
    ·have P1:=P0.keep K1 (no _) (no _)
     exact pick_goes_steps (on v1 P1).1 hn fun v' K'=>hg _ v' ⟨K',told_nil _ _,P1.keep K' (no _) (no _)⟩
    ·refine(rpick_bad m v3 p.qb n (on v3 hψ).2.has hn).mono ?_
     rintro e w' ⟨rfl,rfl⟩
     exact⟨_,rfl,Keep.refl _ _,told_nil _ _,hψ⟩
   ·obtain⟨N,rfl⟩:∃N:Nat,n=N:=⟨n.toNat,by omega⟩
    have sf:=P0.safe _ e
    have fitq:p.qb.Fit:=fun j hj=>by rw[←P0.img];exact P0.fit j (by rw[P0.L];exact hj)
    refine ao4 (F0:=p.kb.foot) (F:=p.qb.foot) (evs:=(runE p.kb.L p.kb.img (A,B,P) N).2) (er:=0) (p':=⟨p.kb.at (A,B,P) N,p.qb.at (A,B,P) N,stOf (runE p.kb.L p.kb.img (A,B,P) N).1⟩)
     (Ψ0:=fun w=>(∀s,(runE p.kb.L p.kb.img (A,B,P) N).1=some s→(p.kb.at (A,B,P) N).on true s.1 s.2.1 s.2.2 w)∧((runE p.kb.L p.kb.img (A,B,P) N).1=none→p.kb.off w)) h hp hmm ⟨rfl,rfl,fun _ x=>x,fun _ x=>x⟩ (fun _ x=>x) (fun _ x=>x) (Nat.le_trans (runE_len N) (by omega))
     (fun v1 c1 cs1 R1 K1 hg=>?_) (fun w1 w2 hK hP=>⟨fun s hs=>(hP.1 s hs).keep hK (no _),fun hs=>(hP.2 hs).keep hK id⟩) (fun m v3 k3 hψ=>?_) hk
    ·have P1:=P0.keep K1 (no _) (no _)
     refine pick_goes_on (s0:=(A,B,P)) P0.ok P0.fit sf (by omega) (by omega) (on v1 P1).1 fun v2 told v' K2 ⟨r,evs,q1,q2,q3,q4,q5⟩=>hg told v' ⟨K2.no.then q2,?_,?_,?_⟩
     ·rw[q1]
      exact af0 q3 (Nat.le_trans K1.size K2.size)
     ·rw[q1]
      exact fun s hs=>(q4 s hs).1
     ·rw[q1]
      exact q5
    ·have eL:=P0.L
     have eI:=P0.img
     have old:∀k,p.qb.foot k→k<v3.heap.size:=fun k hk=>Nat.lt_of_lt_of_le (h.lt (by have:=tq k hk;omega)) k3.size
     have dis:∀k,p.qb.foot k→¬p.kb.foot k:=fun k a b=>by have:=tq k a;have:=tk k b;omega
     refine(rpick_run m v3 p.qb P0.okq fitq co A B P N (by rw[←eL,←eI];exact sf.sf N) ((on v P0).2.keep k3 dis) old (by omega) (by omega)).mono ?_
     rintro e w' ⟨told',rfl,K4,ht,q4,q5⟩
     refine⟨told',rfl,K4,?_,?_⟩
     ·rw[eL,eI]
      exact af0 ht (Nat.zero_le _)
     ·have P0':=P0
      rw[e]at P0'
      exact P0'.next (fun s hs=>(hψ.1 s hs).keep K4 fun k a b=>dis k b a) (fun hs=>(hψ.2 hs).keep K4 fun b=>dis _ b (.inl rfl)) (fun s hs=>(q4 s hs).1) q5
  ·exact picks_goes_lost h hp hmm (fun w hP=>by have hon:=hP.on;rw[e]at hon;exact⟨.inl ⟨⟨co,A,B,P,hon.1⟩,hpid⟩,true,hon.2.has,.inr hpid⟩) hk
end
end Go.Fxa
namespace Go.Fxa
open Go.Conc
open Go.Proofs
open Go.RowKit
set_option maxRecDepth 1000000
def sp0 (P:Program):Code:=piece (ai6 P 33)
def spX (P:Program):Code:=ac6 2 (ai6 P 33)
theorem spX_ops:(spX Tryz.prog).allOps (ac5 Tryz.prog)=true:=by kernel_rfl
theorem step_box (m:Nat) (w:World) (f:Nat→Value) (wv kd on pid n co sw pr fi:Value):(sp0 Tryz.prog).wpIn NF m Tryz.prog (Ends fun tm w'=>∃g O,tm=TN 104 (ups g [(0,wv),(3,.pointer (some ⟨O,0,none⟩))])∧Keep No w w'∧w.heap.size≤O∧w'.heap[O]?=some (.cells #[kd,on,pid,n,co,sw,pr,fi] 28 (0,0))) ⟨TN 104 (ups f [(0,wv),(1,.agg #[kd,on,pid,n,co,sw,pr,fi])]),[]⟩ w:=by
 unfold sp0
 rw[body33]
 dsimp only[Tryz.f33,Option.getD,piece]
 refine ac7 (by simp only[TN,List.range,List.range.loop,List.map,ups,Nat.reduceEqDiff,reduceIte];rfl) ?_
 gi_wp2
 exact⟨rfl,rfl,_,w.heap.size,af1 rfl (by simp),(Keep.refl _ _).alloc _,Nat.le_refl _,aa4 rfl⟩
section
variable (wv ov pid n:Value) (ka ra:Addr) (cs:List Frame) (f:Nat→Value) (O Y:Nat) (c0:Frame) (b:Bool)
def stpA (P:Program:=Tryz.prog):Frame×List Frame:=run P 1 (Frame.enter P 33 #[wv,ov] .normal,cs)
theorem stpA_a:logs Tryz.prog 1 (Frame.enter Tryz.prog 33 #[wv,ov] .normal,cs)=some []:=by kernel_rfl
theorem stpA_b:ae2 (stpA wv ov cs)=(33,[.code (sp0 Tryz.prog),.code ((sp1 Tryz.prog).seq (spX Tryz.prog))],[],.run,.normal,none,cs):=by kernel_rfl
theorem stpA_c:ad0 (stpA wv ov cs) [0,1]=[wv,ov]:=by kernel_rfl
theorem stpA_d:(stpA wv ov cs).1.tmps.size=104:=by kernel_rfl
def stpB (P:Program:=Tryz.prog):Frame×List Frame:=(Frame.mk 33 (TN 104 (ups f [(0,wv),(3,.pointer (some ⟨O,0,none⟩)),(5,.pointer (some ⟨Y,0,none⟩))])) [.code (spX P)] [] .run .normal none,cs)
theorem stpB_a:logs Tryz.prog 4 (stpB wv cs f O Y)=some []:=by kernel_rfl
theorem stpB_b:ag7 Tryz.prog (run Tryz.prog 4 (stpB wv cs f O Y)) [.int .i64 1]=some ([⟨O,0,none⟩],.int .i64 1):=by kernel_rfl
def stpC (P:Program:=Tryz.prog):Frame×List Frame:=did (run P 4 (stpB wv cs f O Y P)) (.int .i64 1)
theorem stpC_a:logs Tryz.prog 11 (stpC wv cs f O Y)=some []:=by kernel_rfl
theorem stpC_b:ag7 Tryz.prog (run Tryz.prog 11 (stpC wv cs f O Y)) [.pointer (some ka),.pointer (some ra)]=some ([⟨Y,0,none⟩,⟨Y,1,none⟩],.agg #[.pointer (some ka),.pointer (some ra)]):=by kernel_rfl
def stpD (P:Program:=Tryz.prog):Frame×List Frame:=did (run P 11 (stpC wv cs f O Y P)) (.agg #[.pointer (some ka),.pointer (some ra)])
theorem stpD_a:logs Tryz.prog 1 (stpD wv ka ra cs f O Y)=some []:=by kernel_rfl
theorem stpD_b (x:Int):ag7 Tryz.prog (run Tryz.prog 1 (stpD wv ka ra cs f O Y)) [.int .i64 x]=some ([⟨O,2,none⟩],.int .i64 x):=by kernel_rfl
def stpE (P:Program:=Tryz.prog):Frame×List Frame:=did (run P 1 (stpD wv ka ra cs f O Y P)) pid
theorem stpE_a:logs Tryz.prog 1 (stpE wv pid ka ra cs f O Y)=some []:=by kernel_rfl
theorem stpE_b (x:Int):ag7 Tryz.prog (run Tryz.prog 1 (stpE wv pid ka ra cs f O Y)) [.int .i64 x]=some ([⟨O,3,none⟩],.int .i64 x):=by kernel_rfl
def stpF0 (P:Program:=Tryz.prog):Frame×List Frame:=did (run P 1 (stpE wv pid ka ra cs f O Y P)) n
theorem stpF_a:logs Tryz.prog 1 (stpF0 wv pid n ka ra cs f O Y)=some []:=by kernel_rfl
def stpF (P:Program:=Tryz.prog):Frame:=(below (run P 1 (stpF0 wv pid n ka ra cs f O Y P))).1
theorem stpF_b:run Tryz.prog 1 (stpF0 wv pid n ka ra cs f O Y)=(Frame.enter Tryz.prog 76 #[wv,.agg #[.pointer (some ka),.pointer (some ra)],pid,n] .normal,stpF wv pid n ka ra cs f O Y::cs):=by kernel_rfl
theorem stpG_a:logs Tryz.prog 4 ((stpF wv pid n ka ra (c0::cs) f O Y).finish (.bool b),c0::cs)=some []:=by kernel_rfl
theorem stpG_b:run Tryz.prog 4 ((stpF wv pid n ka ra (c0::cs) f O Y).finish (.bool b),c0::cs)=(c0.finish (.bool b),cs):=by kernel_rfl
theorem stpH_a (todo:List Item):logs Tryz.prog 1 (Frame.mk 33 (TN 104 (ups f [(4,.bool b)])) todo [] .returning .normal none,c0::cs)=some []:=by kernel_rfl
theorem stpH_b (todo:List Item):run Tryz.prog 1 (Frame.mk 33 (TN 104 (ups f [(4,.bool b)])) todo [] .returning .normal none,c0::cs)=(c0.finish (.bool b),cs):=by kernel_rfl
end
section
variable (m:Nat) (w:World) (f:Nat→Value) (wb O Y:Nat) (ka ra:Addr) (on:Value) (pid:Int) (n co sw pr fi:Value) (Ψ:World→Prop)
theorem step_looks (hO:w.heap[O]?=some (.cells #[.int .i64 2,on,.int .i64 pid,n,co,sw,pr,fi] 28 (0,0))) (hY:w.heap[Y]?=some (.cells #[.pointer (some ka),.pointer (some ra)] 83 (0,0)))
  (hc:∀m,CallsIn NF m Tryz.prog 39 #[.pointer (some ⟨wb,0,none⟩),.agg #[.pointer (some ka),.pointer (some ra)],.int .i64 pid] w fun e w'=>e=.returned (.bool true)∧Ψ w'):(spX Tryz.prog).wpIn NF m Tryz.prog (Rets fun tm w'=>(∃g,tm=TN 104 (ups g [(4,.bool true)]))∧Ψ w') ⟨TN 104 (ups f [(0,.pointer (some ⟨wb,0,none⟩)),(3,.pointer (some ⟨O,0,none⟩)),(5,.pointer (some ⟨Y,0,none⟩))]),[]⟩ w:=by
 have c0:w.cell? ⟨O,0,none⟩=some (.int .i64 2):=by rw[aa0 hO];rfl
 have c2:w.cell? ⟨O,2,none⟩=some (.int .i64 pid):=by rw[aa0 hO];rfl
 have y0:w.cell? ⟨Y,0,none⟩=some (.pointer (some ka)):=by rw[aa0 hY];rfl
 have y1:w.cell? ⟨Y,1,none⟩=some (.pointer (some ra)):=by rw[aa0 hY];rfl
 unfold spX
 rw[body33]
 dsimp only[Tryz.f33,Option.getD,ac6]
 refine ac7 (by simp only[TN,List.range,List.range.loop,List.map,ups,Nat.reduceEqDiff,reduceIte];rfl) ?_
 gi_wp2_with fail
 refine(hc _).mono ?_
 rintro e w1 ⟨rfl,h1⟩
 gi_wp2
 exact⟨rfl,rfl,⟨_,af1 rfl (by simp)⟩,h1⟩
theorem step_pids (hO:w.heap[O]?=some (.cells #[.int .i64 3,on,.int .i64 pid,n,co,sw,pr,fi] 28 (0,0))) (hY:w.heap[Y]?=some (.cells #[.pointer (some ka),.pointer (some ra)] 83 (0,0)))
  (hc:∀m,CallsIn NF m Tryz.prog 35 #[.pointer (some ⟨wb,0,none⟩),.agg #[.pointer (some ka),.pointer (some ra)]] w fun e w'=>e=.returned (.bool true)∧Ψ w'):(spX Tryz.prog).wpIn NF m Tryz.prog (Rets fun tm w'=>(∃g,tm=TN 104 (ups g [(4,.bool true)]))∧Ψ w') ⟨TN 104 (ups f [(0,.pointer (some ⟨wb,0,none⟩)),(3,.pointer (some ⟨O,0,none⟩)),(5,.pointer (some ⟨Y,0,none⟩))]),[]⟩ w:=by
 have c0:w.cell? ⟨O,0,none⟩=some (.int .i64 3):=by rw[aa0 hO];rfl
 have c2:w.cell? ⟨O,2,none⟩=some (.int .i64 pid):=by rw[aa0 hO];rfl
 have y0:w.cell? ⟨Y,0,none⟩=some (.pointer (some ka)):=by rw[aa0 hY];rfl
 have y1:w.cell? ⟨Y,1,none⟩=some (.pointer (some ra)):=by rw[aa0 hY];rfl
 unfold spX
 rw[body33]
 dsimp only[Tryz.f33,Option.getD,ac6]
 refine ac7 (by simp only[TN,List.range,List.range.loop,List.map,ups,Nat.reduceEqDiff,reduceIte];rfl) ?_
 gi_wp2_with fail
 refine(hc _).mono ?_
 rintro e w1 ⟨rfl,h1⟩
 gi_wp2
 exact⟨rfl,rfl,⟨_,af1 rfl (by simp)⟩,h1⟩
theorem step_none (kd:Int) (hk:kd<1) (hO:w.heap[O]?=some (.cells #[.int .i64 kd,on,.int .i64 pid,n,co,sw,pr,fi] 28 (0,0))) (hΨ:Ψ w):(spX Tryz.prog).wpIn NF m Tryz.prog (Rets fun tm w'=>(∃g,tm=TN 104 (ups g [(4,.bool true)]))∧Ψ w') ⟨TN 104 (ups f [(0,.pointer (some ⟨wb,0,none⟩)),(3,.pointer (some ⟨O,0,none⟩)),(5,.pointer (some ⟨Y,0,none⟩))]),[]⟩ w:=by
 have c0:w.cell? ⟨O,0,none⟩=some (.int .i64 kd):=by rw[aa0 hO];rfl
 have n1:kd≠1:=by omega
 have n2:kd≠2:=by omega
 have n3:kd≠3:=by omega
 have n4:kd≠4:=by omega
 have n5:kd≠5:=by omega
 have n6:kd≠6:=by omega
 have n7:kd≠7:=by omega
 have n8:kd≠8:=by omega
 have n9:kd≠9:=by omega
 unfold spX
 rw[body33]
 dsimp only[Tryz.f33,Option.getD,ac6]
 refine ac7 (by simp only[TN,List.range,List.range.loop,List.map,ups,Nat.reduceEqDiff,reduceIte];rfl) ?_
 gi_wp2
 exact⟨rfl,rfl,⟨_,af1 rfl (by simp)⟩,hΨ⟩
end
end Go.Fxa
namespace Go.Fxa
open Go.Conc
open Go.Proofs
open Go.RowKit
section
variable {T:Nat→Nat} {v:World} {wb bk mm:Nat} {tl:Nat→Value} {ls:List (Value×Int)} {ps:Value} {l:List Two} {c0:Frame} {cs:List Frame} {R:Frame×List Frame→World→Prop} {kd on pid n:Int} {co sw pr fi:Value}
theorem WS.rowAt (h:WS T v wb bk mm tl ls ps l) {i:Nat} {p:Two} (hp:l[i]?=some p):∃pg cp,ps=.slice (some ⟨pg,0,none⟩) l.length cp∧v.cell? ⟨pg,i*2,none⟩=some (.pointer (some ⟨p.kb.kb,0,none⟩))∧v.cell? ⟨pg,i*2+1,none⟩=some (.pointer (some ⟨p.qb.rb,0,none⟩)):=by
 have hr:=h.row
 have lt:i<l.length:=(List.getElem?_eq_some_iff.1 hp).1
 have h2:=hr.2
 rcases h2 with⟨_,e⟩|⟨g,cap,cur,rfl,_⟩
 ·omega
 ·have q:=rowV_at l i p hp
  exact⟨g,cap,rfl,(hr.cellAt (i*2) (by omega)).trans q.1,(hr.cellAt (i*2+1) (by omega)).trans q.2⟩
theorem WS.nb (h:WS T v wb bk mm tl ls ps l):¬Bk T wb:=fun hb=>by
 have a:=hb.2
 rw[h.twb]at a
 omega
theorem step_goes {Od:Old} (h:WS T v wb bk mm tl ls ps l) (hl1:1≤l.length) (hl4:l.length≤4) (hmm:mm≤90000000) (hkd:kd≤3) (hon:-9223372036854775808≤on) (hon2:on≤9223372036854775807)
  (hk:∀T' v' mm' l',mm'≤mm+4→l'.length=l.length→WS T' v' wb bk mm' tl ls ps l'→Moves T v T' v'→Goes Od Tryz.prog (c0.finish (.bool true),cs) v' R):
  Goes Od Tryz.prog (Frame.enter Tryz.prog 33 #[.pointer (some ⟨wb,0,none⟩),.agg #[.int .i64 kd,.int .i64 on,.int .i64 pid,.int .i64 n,co,sw,pr,fi]] .normal,c0::cs) v R:=by
 obtain⟨p,hp⟩:∃p,l[pickN on l.length]?=some p:=⟨_,List.getElem?_eq_getElem (pickN_lt on hl1)⟩
 refine Goes.logs (stpA_a _ _ _) ?_
 rw[show run Tryz.prog 1 (Frame.enter Tryz.prog 33 #[.pointer (some ⟨wb,0,none⟩),.agg #[.int .i64 kd,.int .i64 on,.int .i64 pid,.int .i64 n,co,sw,pr,fi]] .normal,c0::cs)=stpA (.pointer (some ⟨wb,0,none⟩)) (.agg #[.int .i64 kd,.int .i64 on,.int .i64 pid,.int .i64 n,co,sw,pr,fi]) (c0::cs)from rfl,
  ag2 (l:=[(0,.pointer (some ⟨wb,0,none⟩)),(1,.agg #[.int .i64 kd,.int .i64 on,.int .i64 pid,.int .i64 n,co,sw,pr,fi])]) (stpA_b _ _ _) (stpA_c _ _ _) (stpA_d _ _ _)]
 refine Goes.part (m:=0) nr33 rfl sp0_ops (fun v1 _=>step_box 0 v1 _ _ _ _ _ _ _ _ _ _) fun v1 tm v2 K1 ⟨g,O,e,K2,lO,hO⟩=>?_
 subst e
 have k2:=K1.then K2
 have h2:=h.keepNo k2
 refine Goes.seq ?_
 obtain⟨pg,cp,eps,q0,q1⟩:=h2.rowAt hp
 have b1:v2.cell? ⟨wb,1,none⟩=some (.slice (some ⟨pg,0,none⟩) l.length cp):=by
  rw[aa0 h2.blk]
  exact congrArg some eps
 have o1:v2.cell? ⟨O,1,none⟩=some (.int .i64 on):=by rw[aa0 hO];rfl
 refine Goes.part (m:=0) nr33 rfl sp1_ops (fun v3 K3=>step_pair 0 v3 _ wb O l.length pg cp (pickN on l.length) p.kb.kb p.qb.rb on (K3.has b1) (K3.has o1) hon hon2 hl1 hl4 rfl (K3.has q0) (K3.has q1)) fun v3 tm v4 K3 ⟨g4,Y,e,K4,lY,hY⟩=>?_
 subst e
 have k34:=K3.then K4
 have h4:=h2.keepNo k34
 have k4:Keep No v v4:=k2.then k34
 have hO4:=k34.old hO id
 by_cases e1:kd=1
 ·subst e1
  refine Goes.logs (x:=stpB (.pointer (some ⟨wb,0,none⟩)) (c0::cs) g4 O Y) (stpB_a _ _ _ _ _) ?_
  refine Goes.reads (stpB_b _ _ _ _ _) ⟨by rw[aa0 hO4];rfl,trivial⟩ ?_
  refine Goes.logs (x:=stpC (.pointer (some ⟨wb,0,none⟩)) (c0::cs) g4 O Y) (stpC_a _ _ _ _ _) ?_
  refine Goes.reads (stpC_b _ ⟨p.kb.kb,0,none⟩ ⟨p.qb.rb,0,none⟩ _ _ _ _) ⟨by rw[aa0 hY];rfl,by rw[aa0 hY];rfl,trivial⟩ ?_
  refine Goes.logs (x:=stpD (.pointer (some ⟨wb,0,none⟩)) ⟨p.kb.kb,0,none⟩ ⟨p.qb.rb,0,none⟩ (c0::cs) g4 O Y) (stpD_a _ _ _ _ _ _ _) ?_
  refine Goes.reads (stpD_b _ _ _ _ _ _ _ pid) ⟨by rw[aa0 hO4];rfl,trivial⟩ ?_
  refine Goes.logs (x:=stpE (.pointer (some ⟨wb,0,none⟩)) (.int .i64 pid) ⟨p.kb.kb,0,none⟩ ⟨p.qb.rb,0,none⟩ (c0::cs) g4 O Y) (stpE_a _ _ _ _ _ _ _ _) ?_
  refine Goes.reads (stpE_b _ _ _ _ _ _ _ _ n) ⟨by rw[aa0 hO4];rfl,trivial⟩ ?_
  refine Goes.logs (x:=stpF0 (.pointer (some ⟨wb,0,none⟩)) (.int .i64 pid) (.int .i64 n) ⟨p.kb.kb,0,none⟩ ⟨p.qb.rb,0,none⟩ (c0::cs) g4 O Y) (stpF_a _ _ _ _ _ _ _ _ _) ?_
  rw[stpF_b]
  refine picks_goes h4 hp (by omega) fun T' v' p' s W M=>?_
  refine Goes.logs (stpG_a _ _ _ _ _ _ _ _ _ _ _) ?_
  rw[stpG_b]
  exact hk T' v' (mm+1) _ (by omega) (by simp) W ((Moves.no k4).trans M)
 by_cases e2:kd=2
 ·subst e2
  refine Goes.rets (m:=0) (Q:=fun v5 tm w'=>(∃g,tm=TN 104 (ups g [(4,.bool true)]))∧Keep (fun k=>1≤T k∧T k≤5) v5 w'∧∃T',BookX T' w' bk tl (mm+4) ls∧∀k,k<v5.heap.size→T' k=T k) nr33 rfl spX_ops (fun v5 K5=>?_) fun v5 tm todo v6 K5 ⟨⟨g6,e⟩,K6,T',B',hT'⟩=>?_
  ·have h5:=h4.keepNo K5
   have P5:=h5.pair _ p hp
   exact step_looks 0 v5 _ wb O Y ⟨p.kb.kb,0,none⟩ ⟨p.qb.rb,0,none⟩ _ pid _ _ _ _ _ _ (K5.old hO4 id) (K5.old hY id) fun m=>wlooks_any m v5 T wb bk mm tl ls ps h5.book h5.blk h5.nb p.kb p.qb P5.ok P5.fit P5.okq P5.L P5.img p.st P5.on pid (by omega)
  ·subst e
   refine Goes.logs (stpH_a _ _ _ _ _) ?_
   rw[stpH_b]
   exact hk T' v6 (mm+4) l (by omega) rfl ((h4.keepNo K5).books K6 (fun k hs _=>by omega) B' hT') ((Moves.no (k4.then K5)).trans ⟨K6.mono fun k _ e=>e.1,hT'⟩)
 by_cases e3:kd=3
 ·subst e3
  refine Goes.rets (m:=0) (Q:=fun v5 tm w'=>(∃g,tm=TN 104 (ups g [(4,.bool true)]))∧Keep (fun k=>1≤T k∧T k≤5) v5 w'∧∃T',BookX T' w' bk tl (mm+2) ls∧∀k,k<v5.heap.size→T' k=T k) nr33 rfl spX_ops (fun v5 K5=>?_) fun v5 tm todo v6 K5 ⟨⟨g6,e⟩,K6,T',B',hT'⟩=>?_
  ·have h5:=h4.keepNo K5
   have P5:=h5.pair _ p hp
   exact step_pids 0 v5 _ wb O Y ⟨p.kb.kb,0,none⟩ ⟨p.qb.rb,0,none⟩ _ pid _ _ _ _ _ _ (K5.old hO4 id) (K5.old hY id) fun m=>wpids_calls m v5 T wb bk mm tl ls h5.book (by rw[aa0 h5.blk];rfl) h5.nb p.kb p.qb p.st P5.on (by omega)
  ·subst e
   refine Goes.logs (stpH_a _ _ _ _ _) ?_
   rw[stpH_b]
   exact hk T' v6 (mm+2) l (by omega) rfl ((h4.keepNo K5).books K6 (fun k hs _=>by omega) B' hT') ((Moves.no (k4.then K5)).trans ⟨K6.mono fun k _ e=>e.1,hT'⟩)
 refine Goes.rets (m:=0) (Q:=fun v5 tm w'=>(∃g,tm=TN 104 (ups g [(4,.bool true)]))∧Keep No v5 w') nr33 rfl spX_ops (fun v5 K5=>?_) fun v5 tm todo v6 K5 ⟨⟨g6,e⟩,K6⟩=>?_
 ·exact step_none 0 v5 _ wb O Y _ pid _ _ _ _ _ _ kd (by omega) (K5.old hO4 id) (Keep.refl _ _)
 ·subst e
  refine Goes.logs (stpH_a _ _ _ _ _) ?_
  rw[stpH_b]
  exact hk T v6 mm l (by omega) rfl ((h4.keepNo K5).keepNo K6) (Moves.no ((k4.then K5).then K6))
end
theorem BookX.retag {T T':Nat→Nat} {w:World} {bk mm:Nat} {tl:Nat→Value} {ls:List (Value×Int)} (h:BookX T w bk tl mm ls) (hT:∀k,1≤T k→T k≤8→T' k=T k) (hi:∀k,w.heap.size≤k→T' k=0):BookX T' w bk tl mm ls:=by
 obtain⟨es,fs,h1,h2,_,h4⟩:=h
 exact⟨es,fs,h1.keep (Keep.refl No w) (fun _ _ x=>x) (fun k _ hk=>hT k hk.1 (by have:=hk.2;omega)),h2.keep (Keep.refl No w) (fun _ _ _ x=>x) (fun k _ a b=>hT k (by omega) b),hi,h4⟩
theorem WS.start {w:World} {wb bk:Nat} (hw:w.heap[wb]?=some (.cells #[.pointer (some ⟨bk,0,none⟩),.slice none 0 0] 78 (0,0)))
  (hb:w.heap[bk]?=some (.cells #[.int .i64 0,.slice none 0 0,.slice none 0 0,.slice none 0 0,.slice none 0 0,.slice none 0 0,.slice none 0 0,.slice none 0 0,.slice none 0 0,.slice none 0 0,.slice none 0 0] 75 (0,0))) (ne:wb≠bk):
  ∃T,WS T w wb bk 0 (fun _=>.slice none 0 0) [] (.slice none 0 0) []∧∀k,k≠wb→k≠bk→T k=0:=by
 have lw:=ab2 hw
 have lb:=ab2 hb
 refine⟨fun k=>if k=bk then 1 else if k=wb then 9 else 0,⟨⟨[],[],⟨.slice none 0 0,.slice none 0 0,.slice none 0 0,.slice none 0 0,⟨hb,?_,World.ownsRow_nil _ _ _ _,World.ownsRow_nil _ _ _ _,World.ownsRow_nil _ _ _ _,World.ownsRow_nil _ _ _ _,?_,?_,?_,?_⟩,?_,?_⟩,⟨rfl,rfl,World.ownsRow_nil _ _ _ _,World.ownsRow_nil _ _ _ _,?_,?_,?_⟩,?_,?_,?_⟩,hw,?_,World.ownsRow_nil _ _ _ _,?_,?_,?_,?_⟩,?_⟩
 all_goals first
  | (intro g hg;simp[Value.ownBlock]at hg;done)
  | (intro x hx;simp at hx;done)
  | (intro i p hp;simp at hp;done)
  | (intro i p k hp;simp at hp;done)
  | (intro k a b;simp[a,b];done)
  | (intro k hk;simp[show k≠bk by omega,show k≠wb by omega];done)
  | (simp;done)
  | (simp[ne];done)
theorem QB.on.lt {b:QB} {co:Bool} {A B P:Nat} {w:World} (h:b.on co A B P w):∀k,b.foot k→k<w.heap.size:=by
 obtain⟨_,told,ks,qs,fc,fs,h1,h2,_⟩:=h
 obtain⟨_,_,hc,_⟩:=h1.c
 obtain⟨_,_,hs,_⟩:=h1.s
 obtain⟨_,hi⟩:=h2.z
 rintro k (rfl|rfl|rfl|rfl|rfl|rfl)
 ·exact ab2 h1.k
 ·exact ab2 h1.q
 ·exact ab2 h1.p
 ·exact ab2 hc
 ·exact ab2 hs
 ·exact ab2 hi
theorem KB.on.lt {b:KB} {co:Bool} {A B P:Nat} {w:World} (h:b.on co A B P w):∀k,b.foot k→k<w.heap.size:=let ⟨_,_,_,_,h1⟩:=h;h1.lt
theorem WS.more {T T1:Nat→Nat} {w w':World} {wb bk mm mm':Nat} {tl tl':Nat→Value} {ls ls':List (Value×Int)} {ps ps':Value} {l:List Two} {kb:KB} {qb:QB} {s:Bool×Nat×Nat×Nat} (h:WS T w wb bk mm tl ls ps l)
  (hK:Keep (fun k=>(1≤T k∧T k≤8)∨k=wb∨ps.ownBlock=some k) w w') (B:BookX T1 w' bk tl' mm' ls') (hT:∀k,k<w.heap.size→T1 k=T k) (hw:w'.heap[wb]?=some (.cells #[.pointer (some ⟨bk,0,none⟩),ps'] 78 (0,0)))
  (hrow:w'.ownsRow 0 83 2 ps' (l.length+1) (rowV l++[.pointer (some ⟨kb.kb,0,none⟩),.pointer (some ⟨qb.rb,0,none⟩)])) (hg:∀g,ps'.ownBlock=some g→ps.ownBlock=some g∨w.heap.size≤g∧T1 g=0∧¬kb.foot g∧¬qb.foot g) (hp:PairOk kb qb w' (some s))
  (fk:∀k,kb.foot k→w.heap.size≤k∧T1 k=0) (fq:∀k,qb.foot k→w.heap.size≤k∧T1 k=0) (dis:∀k,kb.foot k→¬qb.foot k):
  ∃T',WS T' w' wb bk mm' tl' ls' ps' (l++[⟨kb,qb,some s⟩])∧Moves T w T' w':=by
 classical
 obtain⟨mk,hmk⟩:∃mk:Nat→Nat,∀k,mk k=if kb.foot k then 10+2*l.length else if qb.foot k then 11+2*l.length else if ps'.ownBlock=some k then 9 else T1 k:=⟨_,fun _=>rfl⟩
 have hon:kb.on s.1 s.2.1 s.2.2.1 s.2.2.2 w'∧qb.on s.1 s.2.1 s.2.2.1 s.2.2.2 w':=hp.on
 have klt:=hon.1.lt
 have qlt:=hon.2.lt
 have lwb:=ab2 h.blk
 have sz:=hK.size
 have nk:∀k,k<w.heap.size→¬kb.foot k:=fun k hk hf=>by have:=(fk k hf).1;omega
 have nq:∀k,k<w.heap.size→¬qb.foot k:=fun k hk hf=>by have:=(fq k hf).1;omega
 have old:∀k,k<w.heap.size→mk k=T k:=fun k hk=>by
  rw[hmk]
  rw[if_neg (nk k hk),if_neg (nq k hk)]
  split
  ·rename_i e
   rcases hg k e with a|a
   ·exact(h.trow k a).symm
   ·omega
  ·exact hT k hk
 have tk:∀k,kb.foot k→mk k=10+2*l.length:=fun k hk=>by rw[hmk];rw[if_pos hk]
 have tq:∀k,qb.foot k→mk k=11+2*l.length:=fun k hk=>by rw[hmk];rw[if_neg fun e=>dis k e hk,if_pos hk]
 have tp:∀g,ps'.ownBlock=some g→mk g=9:=fun g e=>by
  rcases hg g e with a|a
  ·rw[old g (h.row.lt g a).2]
   exact h.trow g a
  ·rw[hmk]
   rw[if_neg a.2.2.1,if_neg a.2.2.2,if_pos e]
 have keep:∀(i:Nat) (p:Two),l[i]?=some p→∀k,(p.kb.foot k∨p.qb.foot k)→k<w.heap.size∧¬((1≤T k∧T k≤8)∨k=wb∨ps.ownBlock=some k):=fun i p hi k hf=>by
  have t:10≤T k:=by
   rcases hf with a|a
   ·rw[h.tk i p k hi a];omega
   ·rw[h.tq i p k hi a];omega
  refine⟨h.lt (by omega),?_⟩
  rintro(a|a|a)
  ·omega
  ·subst a
   have:=h.twb
   omega
  ·have:=h.trow k a
   omega
 refine⟨mk,⟨B.retag (fun k a b=>?_) (fun k hk=>?_),hw,(old wb lwb).trans h.twb,?_,tp,fun i p hi=>?_,fun i p k hi hk=>?_,fun i p k hi hk=>?_⟩,hK.mono fun k _ e=>?_,old⟩
 ·rw[hmk]
  rw[if_neg fun e=>by have:=(fk k e).2;omega,if_neg fun e=>by have:=(fq k e).2;omega]
  split
  ·rename_i e
   rcases hg k e with c|c
   ·have lt:=(h.row.lt k c).2
    have t:=h.trow k c
    rw[hT k lt]at b
    omega
   ·omega
  ·rfl
 ·rw[hmk]
  rw[if_neg fun e=>by have:=klt k e;omega,if_neg fun e=>by have:=qlt k e;omega,if_neg fun e=>by have:=(hrow.lt k e).2;omega]
  exact B.high k hk
 ·rw[rowV_app,List.length_append]
  exact hrow
 ·rw[List.getElem?_append]at hi
  split at hi
  ·exact(h.pair i p hi).keep hK (fun k hf=>(keep i p hi k (.inl hf)).2) (fun k hf=>(keep i p hi k (.inr hf)).2)
  ·rename_i lt
   match hj:i-l.length,hi with
   | 0,hi=>
    simp only[List.getElem?_cons_zero,Option.some.injEq]at hi
    subst hi
    exact hp
   | j+1,hi=>simp at hi
 ·rw[List.getElem?_append]at hi
  split at hi
  ·rw[old k (keep i p hi k (.inl hk)).1]
   exact h.tk i p k hi hk
  ·rename_i lt
   match hj:i-l.length,hi with
   | 0,hi=>
    simp only[List.getElem?_cons_zero,Option.some.injEq]at hi
    subst hi
    rw[tk k hk]
    omega
   | j+1,hi=>simp at hi
 ·rw[List.getElem?_append]at hi
  split at hi
  ·rw[old k (keep i p hi k (.inr hk)).1]
   exact h.tq i p k hi hk
  ·rename_i lt
   match hj:i-l.length,hi with
   | 0,hi=>
    simp only[List.getElem?_cons_zero,Option.some.injEq]at hi
    subst hi
    rw[tq k hk]
    omega
   | j+1,hi=>simp at hi
 ·rcases e with a|a|a
  ·omega
  ·subst a
   rw[h.twb]
   omega
  ·rw[h.trow k a]
   omega
theorem pureRun_bind {P:Program} {α β:Type} (e:Sem α) (f:α→Sem β):(e>>= f).pureRun P=(e.pureRun P).bind fun a=>(f a).pureRun P:=by
 show(Sem.bind e f).pureRun P=_
 induction e with
 | pure a=>rfl
 | program k ih=>exact ih P
 | _=>rfl
theorem pureRun_pure {P:Program} {α:Type} (a:α):(pure a:Sem α).pureRun P=some a:=rfl
theorem und_run {P:Program} {t:TypeId} {d:TypeDesc} (hu:P.underlying t=some d):(underlying t).pureRun P=some d:=by
 unfold underlying program
 rw[pureRun_bind]
 simp only[Sem.pureRun,Option.bind_some,hu]
 rfl
theorem idx_of {P:Program} {t e:TypeId} {a:Addr} {n c i:Nat} (hn:i<n) (hu:P.underlying t=some (.slice e)):(Instr.indexAt t (.slice (some a) n c) (.int .i64 i)).pureRun P=((sizeOf e).pureRun P).map fun s=>.pointer (some (a.add (i*s))):=by
 have h':(0:Int)≤(i:Int)∧(i:Int)<(n:Int):=⟨by omega,by omega⟩
 unfold Instr.indexAt
 simp only[asIntOf,pureRun_bind,pureRun_pure,Option.bind_some,und_run hu,if_pos h',Int.toNat_natCast]
 cases Sem.pureRun P (sizeOf e)<;>rfl
def idxAt (x:Frame×List Frame):Option (TypeId×Value×Value):=match opAt x with
 | some o=>match o.op with
  | .indexAddr t X I=>some (t,x.1.eval X,x.1.eval I)
  | _=>none
 | none=>none
theorem calc_quiet {P:Program} {x:Frame×List Frame} {o:Oper} {y:Value} (h:opAt x=some o) (hv:(execOp x.1.eval o).pureRun P=some (.value y)):quietStep P x=some (did x y):=by
 obtain⟨⟨fn,tmps,todo,ds,mode,kind,ro⟩,cs⟩:=x
 unfold opAt at h
 simp only at h
 split at h
 ·rename_i ops i r1 r2 r3 r4 r5 r6
  split at h
  ·rename_i o' ho
   split at h
   ·rename_i hw
    cases h
    simp only[quietStep,ad8,ho,Option.map_some,Option.getD_some,hw,if_true,hv,ao2,did]
   ·cases h
  ·cases h
 ·cases h
section
variable {P:Program} {x:Frame×List Frame} {v:World} {Q:Frame×List Frame→World→Prop}
theorem Goes.index {Od:Old} {t e:TypeId} {a a':Addr} {n c i s:Nat} (h:idxAt x=some (t,.slice (some a) n c,.int .i64 i)) (hu:P.underlying t=some (.slice e)) (hs:(sizeOf e).pureRun P=some s) (hi:i<n) (ha:a.add (i*s)=a') (k:Goes Od P (did x (.pointer (some a'))) v Q):Goes Od P x v Q:=by
 unfold idxAt at h
 split at h
 ·rename_i o ho
  split at h
  ·rename_i t' X I hop
   simp only[Option.some.injEq,Prod.mk.injEq]at h
   obtain⟨rfl,h1,h2⟩:=h
   refine Goes.step (calc_quiet ho ?_) k
   unfold execOp
   rw[hop]
   show Sem.pureRun P (Instr.indexAt t' (x.1.eval X) (x.1.eval I)>>= fun b=>pure (Next.value b))=_
   rw[pureRun_bind,h1,h2,idx_of hi hu,hs,←ha]
   rfl
  ·cases h
 ·cases h
end
theorem und26:Tryz.prog.underlying 26=some (.slice 28):=by kernel_rfl
theorem und76:Tryz.prog.underlying 76=some (.slice 83):=by kernel_rfl
theorem size28:(sizeOf 28).pureRun Tryz.prog=some 8:=by kernel_rfl
theorem size83:(sizeOf 83).pureRun Tryz.prog=some 2:=by kernel_rfl
end Go.Fxa
