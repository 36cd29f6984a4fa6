/- plays, whole, beside leavers. Steps: the program is copied, and turned. Steps: the script is copied but for New. Steps, whole, beside leavers. Steps, from its call to the end of the run. -/
import Derived.Test.YtmhplpfpcnjekaaGreatK35
namespace Go.Fxa
open Go.Conc
open Go.Proofs
open Go.RowKit
theorem plB1:plB Tryz.prog 1=(plP Tryz.prog 1).seq (plB Tryz.prog 2):=by kernel_rfl
theorem plB2:plB Tryz.prog 2=(plP Tryz.prog 2).seq (plB Tryz.prog 3):=by kernel_rfl
theorem plB3:plB Tryz.prog 3=(plP Tryz.prog 3).seq (plB Tryz.prog 4):=by kernel_rfl
theorem plB4:plB Tryz.prog 4=(plP Tryz.prog 4).seq (plB Tryz.prog 5):=by kernel_rfl
theorem plB6:plB Tryz.prog 6=(plP Tryz.prog 6).seq (plB Tryz.prog 7):=by kernel_rfl
theorem plB7:plB Tryz.prog 7=(plP Tryz.prog 7).seq (plB Tryz.prog 8):=by kernel_rfl
theorem plZ_a (f:Nat→Value) (b:Bool) (c0:Frame) (cs:List Frame) (todo:List Item):logs Tryz.prog 1 (Frame.mk 12 (TN 196 (ups f [(6,.bool b)])) todo [] .returning .normal none,c0::cs)=some []:=by kernel_rfl
theorem plZ_b (f:Nat→Value) (b:Bool) (c0:Frame) (cs:List Frame) (todo:List Item):run Tryz.prog 1 (Frame.mk 12 (TN 196 (ups f [(6,.bool b)])) todo [] .returning .normal none,c0::cs)=(c0.finish (.bool b),cs):=by kernel_rfl
theorem ex_runs {p:Two} (eL:p.kb.L=16) (eI:p.kb.img=exP):runE p.kb.L p.kb.img (0,0,0) 3=(some (1,0,6),[(12,1,0)]):=by rw[eL,eI];exact ex_run2
theorem plays_loop {Od:Old} {T:Nat→Nat} {v:World} {c0:Frame} {cs:List Frame} {R:Frame×List Frame→World→Prop} {wb bk mm:Nat} {tl:Nat→Value} {ls:List (Value×Int)} {ps:Value} {l:List Two} {s:Option Addr} {k c sb:Nat} {f:Nat→Value} (h:WS T v wb bk mm tl ls ps l) (hl1:1≤l.length) (hl4:l.length≤4) (hmm:mm≤100) (hsc:0<k→s=some ⟨sb,0,none⟩) (hkn:k≤2000000) (hT:0<k→T sb=0) (hO:∀j,j<k→OpAt v sb j)
  (hk:∀T' v',Moves T v T' v'→Goes Od Tryz.prog (c0.finish (.bool true),cs) v' R):Goes Od Tryz.prog (Frame.mk 12 (TN 196 (ups f [(1,.slice s k c),(2,.int .i64 3),(7,.pointer (some ⟨wb,0,none⟩))])) [.code (plB Tryz.prog 8)] [] .run .normal none,c0::cs) v R:=by
 refine Goes.logs (x:=lp0 (.slice s k c) (.int .i64 3) (.pointer (some ⟨wb,0,none⟩)) (c0::cs) f) (lp0_a _ _ _ _ _) ?_
 rw[ag2 (l:=[(1,.slice s k c),(2,.int .i64 3),(7,.pointer (some ⟨wb,0,none⟩)),(14,.int .i64 (0:Nat))]) (lp0_b _ _ _ _ _) (lp0_c _ _ _ _ _) (lp0_d _ _ _ _ _)]
 refine loop_goes hsc hkn k 0 T v mm l _ (by omega) (by omega) h hl1 hl4 (by omega) hT hO fun T' v' mm' l' g q1 q2 q3 q4=>?_
 refine Goes.rets (m:=0) (Q:=fun v1 tm w'=>(∃g,tm=TN 196 (ups g [(6,.bool true)]))∧∃T2,Moves T' v1 T2 w') nr12 rfl plT_ops (fun v1 K1=>play_end 0 v1 _ T' wb bk mm' tl ls ps l' (q3.keepNo K1) (by omega) (by omega)) fun v1 tm todo v2 K1 ⟨⟨g2,e⟩,T2,M2⟩=>?_
 subst e
 refine Goes.logs (plZ_a _ _ _ _ _) ?_
 rw[plZ_b]
 exact hk T2 v2 (q4.trans ((Moves.no K1).trans M2))
theorem plays_three {Od:Old} {T:Nat→Nat} {v:World} {c0:Frame} {cs:List Frame} {R:Frame×List Frame→World→Prop} {wb bk mm:Nat} {tl:Nat→Value} {ls:List (Value×Int)} {ps:Value} {p:Two} {l:List Two} {sc mo:Value} {f:Nat→Value} (h:WS T v wb bk mm tl ls ps (p::l)) (eL:p.kb.L=16) (eI:p.kb.img=exP) (eS:p.st=some (false,0,0,0))
  (hk:∀v' p' g,WS T v' wb bk mm tl ls ps (p'::l)→Moves T v T v'→Goes Od Tryz.prog (Frame.mk 12 (TN 196 (ups g [(1,sc),(2,mo),(7,.pointer (some ⟨wb,0,none⟩))])) [.code (plB Tryz.prog 8)] [] .run .normal none,c0::cs) v' R):
  Goes Od Tryz.prog (Frame.mk 12 (TN 196 (ups f [(1,sc),(2,mo),(7,.pointer (some ⟨wb,0,none⟩))])) [.code (plB Tryz.prog 5)] [] .run .normal none,c0::cs) v R:=by
 have hp:(p::l)[0]?=some p:=rfl
 have P0:=h.pair 0 p hp
 have tk:=fun k=>h.tk 0 p k hp
 have tq:=fun k=>h.tq 0 p k hp
 have no:∀(F:Nat→Prop) k,F k→¬No k:=fun _ _ _ x=>x
 have hr:=ex_runs eL eI
 have sf:EverSafe p.kb.L p.kb.img (0,0,0):=P0.safe _ eS
 have on:∀w,PairOk p.kb p.qb w p.st→p.kb.on false 0 0 0 w∧p.qb.on false 0 0 0 w:=fun w hP=>by have hon:=hP.on;rw[eS]at hon;exact hon
 obtain⟨pg,cp,eps,q0,q1⟩:=h.rowAt hp
 have b1:v.cell? ⟨wb,1,none⟩=some (.slice (some ⟨pg,0,none⟩) (p::l).length cp):=by
  rw[aa0 h.blk]
  exact congrArg some eps
 refine Goes.logs (x:=plsA sc mo (c0::cs) f wb) (plsA_a _ _ _ _ _) ?_
 refine Goes.reads (plsA_b _ _ _ _ _ pg (p::l).length cp) ⟨b1,trivial⟩ ?_
 refine Goes.index (x:=plsB sc mo (c0::cs) f wb pg (p::l).length cp) (a':=⟨pg,0,none⟩) (plsB_a _ _ _ _ _ _ _ _) und76 size83 (by simp) rfl ?_
 refine Goes.logs (x:=plsC sc mo (c0::cs) f wb pg (p::l).length cp) (plsC_a _ _ _ _ _ _ _ _) ?_
 refine Goes.reads (plsC_b _ _ ⟨p.kb.kb,0,none⟩ _ _ _ _ _ _) ⟨q0,trivial⟩ ?_
 refine Goes.logs (x:=plsD sc mo ⟨p.kb.kb,0,none⟩ (c0::cs) f wb pg (p::l).length cp) (plsD_a _ _ _ _ _ _ _ _ _) ?_
 rw[plsD_b]
 refine pick_goes_on (b:=p.kb) (n:=3) (s0:=(0,0,0)) P0.ok P0.fit sf (by omega) (by omega) (on v P0).1 fun v1 told v2 K1 ⟨r,evs,e1,k2,t2,o2,n2⟩=>?_
 rw[hr]at e1
 cases e1
 have k02:Keep p.kb.foot v v2:=K1.no.then k2
 refine Goes.logs (plsF_a _ _ _ _ _ _ _ _ _ _ _) ?_
 refine Eq.mp (congrArg (fun x=>Goes Od Tryz.prog x v2 R) (ag2 (x:=plsF sc mo told (.int .i64 0) _ _ _ _ _ _ _) (l:=[(1,sc),(2,mo),(7,.pointer (some ⟨wb,0,none⟩)),(10,told),(11,.int .i64 0)]) (plsF_b _ _ _ _ _ _ _ _ _ _ _) (plsF_c _ _ _ _ _ _ _ _ _ _ _) (plsF_d _ _ _ _ _ _ _ _ _ _ _)).symm) ?_
 rw[plB6]
 refine Goes.seq ?_
 have nk:∀k,1≤T k→T k≤9→¬p.kb.foot k:=fun k a b hf=>by have:=tk k hf;omega
 have b1':v2.cell? ⟨wb,1,none⟩=some (.slice (some ⟨pg,0,none⟩) (p::l).length cp):=(k02.cell (p:=⟨wb,1,none⟩) (World.block_lt_of_cell? _ _ b1) (nk wb (by rw[h.twb];omega) (by rw[h.twb];omega))).trans b1
 have tpg:T pg=9:=h.trow pg (by rw[eps];rfl)
 have q1':v2.cell? ⟨pg,1,none⟩=some (.pointer (some ⟨p.qb.rb,0,none⟩)):=(k02.cell (p:=⟨pg,1,none⟩) (World.block_lt_of_cell? _ _ q1) (nk pg (by omega) (by omega))).trans q1
 have dis:∀k,p.qb.foot k→¬p.kb.foot k:=fun k a b=>by have:=tq k a;have:=tk k b;omega
 have eL':=P0.L
 have eI':=P0.img
 have hr':runE p.qb.L p.qb.img (0,0,0) 3=(some (1,0,6),[(12,1,0)]):=by rw[←eL',←eI'];exact hr
 have fitq:p.qb.Fit:=fun j hj=>by rw[←eI'];exact P0.fit j (by rw[eL'];exact hj)
 refine Goes.part (m:=0) (Q:=fun v3 tm w'=>∃g told',tm=TN 196 (ups g [(1,sc),(2,mo),(7,.pointer (some ⟨wb,0,none⟩)),(10,told),(11,.int .i64 0),(12,told'),(13,.int .i64 0)])∧Keep p.qb.foot v3 w'∧ToldE 0 told' w' [(12,1,0)]∧(p.qb.at (0,0,0) 3).on true 1 0 6 w') nr12 rfl plP6_ops (fun v3 K3=>play_doc 0 v3 _ sc mo told wb pg (p::l).length cp ⟨p.qb.rb,0,none⟩ (K3.has b1') (by simp) (K3.has q1') _ fun m=>?_) fun v3 tm v4 K3 ⟨g,told',e,K4,t4,on4⟩=>?_
 ·have old:∀k,p.qb.foot k→k<v3.heap.size:=fun k hk=>Nat.lt_of_lt_of_le (h.lt (by have:=tq k hk;omega)) (Nat.le_trans k02.size K3.size)
  refine(rpick_run m v3 p.qb P0.okq fitq false 0 0 0 3 (by rw[←eL',←eI'];exact sf.sf 3) (((on v P0).2.keep k02 dis).keep K3 (no _)) old (by omega) (by omega)).mono ?_
  rintro e w' ⟨told',rfl,K4,t4,o4,n4⟩
  rw[hr']at t4 o4
  exact⟨told',rfl,K4,af0 t4 (Nat.zero_le _),(o4 _ rfl).1⟩
 subst e
 rw[plB7]
 refine Goes.seq ?_
 have fresh:∀g,told.ownBlock=some g→v.heap.size≤g:=fun g hg=>Nat.le_trans K1.size ((show v2.ownsRow v1.heap.size 59 4 told _ _ from t2).lt g hg).1
 have k34:Keep p.qb.foot v2 v4:=K3.no.then K4
 have told4:ToldE 0 told v4 [(12,1,0)]:=aa3 (af0 t2 (Nat.zero_le _)) k34 fun g hg hf=>by
  have:=tq g hf
  have:=h.book.high g (fresh g hg)
  omega
 refine Goes.part (m:=0) nr12 rfl plP7_ops (fun v5 K5=>play_same 0 v5 _ _ sc mo told told' (told4.more K5) (t4.more K5)) fun v5 tm v6 K5 ⟨⟨g6,e⟩,K6⟩=>?_
 subst e
 have k56:=K5.then K6
 have KK:Keep (fun k=>p.kb.foot k∨p.qb.foot k) v v6:=((k02.mono fun _ _ e=>.inl e).then (k34.mono fun _ _ e=>.inr e)).then k56.no
 have hS:∀k,(p.kb.foot k∨p.qb.foot k)→1≤T k→T k≤8∨T k=10+2*0∨T k=11+2*0:=fun k hs _=>by
  rcases hs with a|a
  ·exact .inr (.inl (tk k a))
  ·exact .inr (.inr (tq k a))
 have mk:∀k,(p.kb.foot k∨p.qb.foot k)→1≤T k:=fun k hs=>by
  rcases hs with a|a
  ·have:=tk k a;omega
  ·have:=tq k a;omega
 have B6:BookX T v6 bk tl mm ls:=h.book.keep KK fun k a b hs=>by
  rcases hs with c|c
  ·have:=tk k c;omega
  ·have:=tq k c;omega
 have P0':=P0
 rw[eS]at P0'
 have Pn:PairOk (p.kb.at (0,0,0) 3) (p.qb.at (0,0,0) 3) v6 (stOf (runE p.kb.L p.kb.img (0,0,0) 3).1):=by
  refine P0'.next (fun s hs=>?_) (fun hs=>?_) (fun s hs=>?_) (fun hs=>?_)
  ·rw[hr]at hs
   cases hs
   exact((o2 _ rfl).1.keep k34 fun k a b=>dis k b a).keep k56 (no _)
  ·rw[hr]at hs
   cases hs
  ·rw[hr']at hs
   cases hs
   exact on4.keep k56 (no _)
  ·rw[hr']at hs
   cases hs
 exact hk v6 ⟨p.kb.at (0,0,0) 3,p.qb.at (0,0,0) 3,stOf (runE p.kb.L p.kb.img (0,0,0) 3).1⟩ g6 (h.onPair hp ⟨rfl,rfl,fun _ x=>x,fun _ x=>x⟩ KK hS B6 (fun _ _=>rfl) Pn) ⟨KK.mono fun k _ e=>mk k e,fun _ _=>rfl⟩
theorem plays_goes {Od:Old} {v:World} {c0:Frame} {cs:List Frame} {R:Frame×List Frame→World→Prop} {core swap:Int} {pv:Value} {n:Nat} {fi:Nat→Int} {s:Option Addr} {k c sb:Nat} (hs:SlI v pv n fi) (h0:n=0→pv=.slice none 0 0) (hn:n≤9000000) (hf:Plain n fi) (hsc:0<k→s=some ⟨sb,0,none⟩) (hkn:k≤2000000) (hO:∀j,j<k→OpAt v sb j)
  (hk:∀v',Keep No v v'→Goes Od Tryz.prog (c0.finish (.bool true),cs) v' R):Goes Od Tryz.prog (Frame.enter Tryz.prog 12 #[.agg #[.int .i64 core,.int .i64 swap,pv,.slice none 0 0],.slice s k c,.int .i64 3] .normal,c0::cs) v R:=by
 refine Goes.logs (plsS_a _ _ _ _) ?_
 rw[show run Tryz.prog 1 (Frame.enter Tryz.prog 12 #[.agg #[.int .i64 core,.int .i64 swap,pv,.slice none 0 0],.slice s k c,.int .i64 3] .normal,c0::cs)=plsS (.agg #[.int .i64 core,.int .i64 swap,pv,.slice none 0 0]) (.slice s k c) (.int .i64 3) (c0::cs)from rfl,
  ag2 (l:=[(0,.agg #[.int .i64 core,.int .i64 swap,pv,.slice none 0 0]),(1,.slice s k c),(2,.int .i64 3)]) (plsS_b _ _ _ _) (plsS_c _ _ _ _) (plsS_d _ _ _ _)]
 refine Goes.part (m:=0) nr12 rfl plP0_ops (fun v1 _=>play_box 0 v1 _ _ _ _ _ _ _) fun v1 tm v2 K1 ⟨g,C,e,K2,lC,hC⟩=>?_
 subst e
 have k2:Keep No v v2:=K1.then K2
 have ltC:=ab2 hC
 rw[plB1]
 refine Goes.seq ?_
 refine Goes.part (m:=0) nr12 rfl plP1_ops (fun v3 _=>play_new 0 v3 _ _ _ _) fun v3 tm v4 K3 ⟨g4,wb,bk,e,K4,lw,lb,ne,hw,hb⟩=>?_
 subst e
 have k4:Keep No v v4:=k2.then (K3.then K4)
 have hC4:=(K3.then K4).old hC id
 obtain⟨T,W4,T0⟩:=WS.start hw hb ne
 have sz2:=k2.size
 have sz3:=K3.size
 have low:∀x,x<v2.heap.size→T x=0:=fun x hx=>T0 x (by omega) (by omega)
 rw[plB2]
 refine Goes.seq ?_
 refine Goes.part (m:=0) nr12 rfl plP2_ops (fun v5 K5=>play_ex 0 v5 _ T wb bk _ _ _ (W4.keepNo K5)) fun v5 tm v6 K5 ⟨⟨g6,e⟩,T6,tl6,ls6,ps6,p,W6,hl6,M6,eL,eI,eS⟩=>?_
 subst e
 have m6:Moves T v4 T6 v6:=(Moves.no K5).trans M6
 have k6:Keep No v v6:=k4.trans m6.1 fun x hx e=>by rw[low x (by omega)]at e;omega
 have hC6:=m6.1.old hC4 (by rw[low C ltC];omega)
 rw[plB3]
 refine Goes.seq ?_
 refine Goes.part (m:=0) nr12 rfl plP3_ops (fun v7 K7=>play_more 0 v7 _ T6 wb bk C tl6 ls6 ps6 p _ _ pv core swap n fi (W6.keepNo K7) hl6 (K7.old hC6 id) (hs.keep (k6.then K7)) h0 hn hf) fun v7 tm v8 K7 ⟨⟨g8,e⟩,T8,tl8,ls8,ps8,l8,W8,hl8,M8⟩=>?_
 subst e
 have m8:Moves T v4 T8 v8:=m6.trans ((Moves.no K7).trans M8)
 rw[plB4]
 refine Goes.seq ?_
 refine Goes.part (m:=0) nr12 rfl plP4_ops (fun v9 _=>play_ok 0 v9 _ _ _ _) fun v9 tm v10 K9 ⟨⟨g10,e⟩,K10⟩=>?_
 subst e
 have k910:=K9.then K10
 refine plays_three (W8.keepNo k910) eL eI eS fun v11 p' g11 W11 M11=>?_
 have m11:Moves T v4 T8 v11:=m8.trans ((Moves.no k910).trans M11)
 have k11:Keep No v v11:=k4.trans m11.1 fun x hx e=>by rw[low x (by omega)]at e;omega
 refine plays_loop W11 (by simp) (by simp only[List.length_cons];omega) (by omega) hsc hkn (fun hp=>?_) (fun j hj=>(hO j hj).keep k11 id) fun T' v' M'=>?_
 ·have lt:sb<v.heap.size:=by
   obtain⟨_,_,_,_,_,_,_,_,_,_,_,_,_,_,z,_⟩:=hO 0 hp
   exact World.block_lt_of_cell? _ _ z
  rw[m11.2 sb (by have:=k4.size;omega)]
  exact low sb (by omega)
 ·exact hk v' (k4.trans (m11.trans M').1 fun x hx e=>by rw[low x (by omega)]at e;omega)
end Go.Fxa
namespace Go.Fxa
open Go.Conc
open Go.Proofs
open Go.RowKit
set_option maxRecDepth 1000000
def stP (P:Program) (i:Nat):Code:=piece (ac6 i (ai6 P 3))
def stB (P:Program) (i:Nat):Code:=ac6 i (ai6 P 3)
theorem stP0_ops:(stP Tryz.prog 0).allOps (ac5 Tryz.prog)=true:=by kernel_rfl
theorem stP1_ops:(stP Tryz.prog 1).allOps (ac5 Tryz.prog)=true:=by kernel_rfl
theorem stP2_ops:(stP Tryz.prog 2).allOps (ac5 Tryz.prog)=true:=by kernel_rfl
theorem stP3_ops:(stP Tryz.prog 3).allOps (ac5 Tryz.prog)=true:=by kernel_rfl
theorem stP4_ops:(stP Tryz.prog 4).allOps (ac5 Tryz.prog)=true:=by kernel_rfl
theorem stP5_ops:(stP Tryz.prog 5).allOps (ac5 Tryz.prog)=true:=by kernel_rfl
theorem stP6_ops:(stP Tryz.prog 6).allOps (ac5 Tryz.prog)=true:=by kernel_rfl
theorem stP7_ops:(stP Tryz.prog 7).allOps (ac5 Tryz.prog)=true:=by kernel_rfl
def ints (n:Nat) (f:Nat→Int):List Value:=(List.range n).map fun i=>.int .i64 (f i)
theorem ints_at {n:Nat} {f:Nat→Int} {j:Nat} (hj:j<n):(ints n f)[j]?=some (.int .i64 (f j)):=by simp[ints,hj]
theorem ints_len (n:Nat) (f:Nat→Int):(ints n f).length=n:=by simp[ints]
def turned (n:Nat) (f:Nat→Int) (j:Nat):Int:=if f j=3∨f j=10∨(f j=11∧¬(j+1<n∧(f (j+1)=1∨f (j+1)=12)))then 8 else f j
theorem turned_plain (n:Nat) (f:Nat→Int):Plain n (turned n f):=fun i _=>by
 unfold turned
 by_cases h:f i=3∨f i=10∨(f i=11∧¬(i+1<n∧(f (i+1)=1∨f (i+1)=12)))
 ·rw[if_pos h]
  omega
 ·rw[if_neg h]
  refine⟨fun e=>h (.inl e),fun e=>h (.inr (.inl e)),fun e=>?_⟩
  have h1:i+1<n∧(f (i+1)=1∨f (i+1)=12):=Classical.byContradiction fun c=>h (.inr (.inr ⟨e,c⟩))
  refine⟨h1.1,?_⟩
  rw[if_neg (by omega)]
  exact h1.2
theorem al7 {w:World} {base g n c j:Nat} {fn:Nat→Int} (o:w.ownsRow base 3 1 (.slice (some ⟨g,0,none⟩) n c) n (ints n (fun q=>if q<j then turned n fn q else fn q))) (hj:j<n) (ht:turned n fn j=8):(w.setCell ⟨g,j,none⟩ (.int .i64 8)).ownsRow base 3 1 (.slice (some ⟨g,0,none⟩) n c) n (ints n (fun q=>if q<j+1 then turned n fn q else fn q)):=by
 have e:ints n (fun q=>if q<j+1 then turned n fn q else fn q)=(ints n (fun q=>if q<j then turned n fn q else fn q)).set j (.int .i64 8):=by
  apply List.ext_getElem?
  intro q
  by_cases hq:q<n
  ·rw[ints_at hq]
   by_cases e:q=j
   ·subst e
    rw[List.getElem?_set_self (by rw[ints_len];exact hj),if_pos (by omega),ht]
   ·rw[List.getElem?_set_ne (Ne.symm e),ints_at hq]
    by_cases lt:q<j
    ·rw[if_pos lt,if_pos (by omega)]
    ·rw[if_neg lt,if_neg (by omega)]
  ·rw[List.getElem?_eq_none (by rw[ints_len];omega),List.getElem?_eq_none (by rw[List.length_set,ints_len];omega)]
 rw[e]
 exact(o.stored j _).1
theorem same_row {w:World} {base n j:Nat} {v:Value} {fn:Nat→Int} (o:w.ownsRow base 3 1 v n (ints n (fun q=>if q<j then turned n fn q else fn q))) (ht:turned n fn j=fn j):w.ownsRow base 3 1 v n (ints n (fun q=>if q<j+1 then turned n fn q else fn q)):=by
 have e:(fun q=>if q<j+1 then turned n fn q else fn q)=fun q=>if q<j then turned n fn q else fn q:=by
  funext q
  by_cases e:q=j
  ·subst e
   rw[if_pos (by omega),if_neg (by omega),ht]
  ·by_cases lt:q<j
   ·rw[if_pos lt,if_pos (by omega)]
   ·rw[if_neg lt,if_neg (by omega)]
 rw[e]
 exact o
section
variable (m:Nat) (w:World) (f:Nat→Value)
theorem steps_box (co sw pr fi sc:Value):(stP Tryz.prog 0).wpIn NF m Tryz.prog (Ends fun tm w'=>∃g C,tm=TN 93 (ups g [(1,sc),(2,.pointer (some ⟨C,0,none⟩))])∧Keep No w w'∧w.heap.size≤C∧w'.heap[C]?=some (.cells #[co,sw,pr,fi] 25 (0,0))) ⟨TN 93 (ups f [(0,.agg #[co,sw,pr,fi]),(1,sc)]),[]⟩ w:=by
 unfold stP
 rw[body3]
 dsimp only[Tryz.f3,Option.getD,ac6,piece]
 refine ac7 (by simp only[TN,List.range,List.range.loop,List.map,ups,Nat.reduceEqDiff,reduceIte];rfl) ?_
 gi_wp2
 exact⟨rfl,rfl,_,w.heap.size,af1 rfl (by simp),(Keep.refl _ _).alloc _,Nat.le_refl _,aa4 rfl⟩
theorem steps_nil (sc cv:Value):(stP Tryz.prog 1).wpIn NF m Tryz.prog (Ends fun tm w'=>(∃g,tm=TN 93 (ups g [(1,sc),(2,cv),(5,.slice none 0 0)]))∧Keep No w w') ⟨TN 93 (ups f [(1,sc),(2,cv)]),[]⟩ w:=by
 unfold stP
 rw[body3]
 dsimp only[Tryz.f3,Option.getD,ac6,piece]
 refine ac7 (by simp only[TN,List.range,List.range.loop,List.map,ups,Nat.reduceEqDiff,reduceIte];rfl) ?_
 gi_wp2
 exact⟨rfl,rfl,⟨_,af1 rfl (by simp)⟩,Keep.refl _ _⟩
set_option maxHeartbeats 4000000 in
theorem steps_copy (sc co sw fi:Value) (C:Nat) (s:Option Addr) (n c:Nat) (fn:Nat→Int) (hC:w.heap[C]?=some (.cells #[co,sw,.slice s n c,fi] 25 (0,0))) (hs:SlI w (.slice s n c) n fn) (hn:n≤2000000):
  (stP Tryz.prog 2).wpIn NF m Tryz.prog (Ends fun tm w'=>∃g va,tm=TN 93 (ups g [(1,sc),(2,.pointer (some ⟨C,0,none⟩)),(5,va)])∧Keep No w w'∧w'.ownsRow w.heap.size 3 1 va n (ints n fn)∧(n=0→va=.slice none 0 0)) ⟨TN 93 (ups f [(1,sc),(2,.pointer (some ⟨C,0,none⟩)),(5,.slice none 0 0)]),[]⟩ w:=by
 obtain⟨i3,hi3,hz30,hz31,hz32⟩:=info_parts info3
 have c2:w.cell? ⟨C,2,none⟩=some (.slice s n c):=by rw[aa0 hC];rfl
 obtain⟨va,W1,hap,oa,K1,h0⟩:∃va W1,(Builtin.append_ #[22,22] 22 #[.slice none 0 0,.slice s n c]).run Tryz.prog w=.ok va W1∧W1.ownsRow w.heap.size 3 1 va n (ints n fn)∧Keep No w W1∧(n=0→va=.slice none 0 0):=by
  by_cases hn0:n=0
  ·subst hn0
   have run0:(Builtin.append_ #[22,22] 22 #[.slice none 0 0,.slice s 0 c]).run Tryz.prog w=.ok (.slice none 0 0) w:=by
    rcases s with _|⟨b,o,sp⟩
    ·kernel_rfl
    ·kernel_rfl
   exact⟨.slice none 0 0,w,run0,World.ownsRow_nil _ _ _ _,Keep.refl _ _,fun _=>rfl⟩
  ·obtain⟨_,s',c',e,hcl⟩:=hs
   cases e
   obtain⟨b,o,rfl,hcell⟩:=hcl (by omega)
   have hsrc:∀j u,(ints n fn)[j]?=some u→w.cell? ((⟨b,o,none⟩:Addr).add j)=some u:=fun j u hj=>by
    have hj':j<n:=by
     rcases Nat.lt_or_ge j n with h|h
     ·exact h
     ·rw[List.getElem?_eq_none (by rw[ints_len];exact h)]at hj;cases hj
    rw[Addr.add_lit,hcell j hj',←hj,ints_at hj']
   obtain⟨va,W1,r1,r2,r3,_⟩:=append_where (P:=Tryz.prog) w w.heap.size 22 22 3 i3 (.int .i64 0) 1 8 Tryz.underlying22 hi3 hz30 hz31 hz32 rfl (by decide) (.slice none 0 0) 0 [] (World.ownsRow_nil _ _ _ _) ⟨b,o,none⟩ n c (ints n fn) (by rw[ints_len];omega) hsrc (by simp[ints,Value.oneCell']) (by unfold maxLen;omega) (by omega) (Nat.le_refl _) (by omega)
   have k1:Keep No w W1:=(ae7 r3 fun k hk _=>hk).mono fun k _ e=>by cases e
   exact⟨va,W1,r1,by simpa using r2,k1,fun e=>absurd e hn0⟩
 unfold stP
 rw[body3]
 dsimp only[Tryz.f3,Option.getD,ac6,piece]
 refine ac7 (by simp only[TN,List.range,List.range.loop,List.map,ups,Nat.reduceEqDiff,reduceIte];rfl) ?_
 gi_wp2_with (gi_at_builtin;refine aj3 rfl (.tmp 12) (.tmp 14) _ rfl rfl rfl hap ?_)
 exact⟨rfl,rfl,_,va,af1 rfl (by simp),K1,oa,h0⟩
set_option maxHeartbeats 4000000 in
theorem steps_turn (sc cv:Value) (a:Option Addr) (n c base:Nat) (fn:Nat→Int) (h:w.ownsRow base 3 1 (.slice a n c) n (ints n fn)) (hn:n≤2000000):
  (stP Tryz.prog 3).wpIn NF m Tryz.prog (Ends fun tm w'=>(∃g,tm=TN 93 (ups g [(1,sc),(2,cv),(5,.slice a n c)]))∧Keep (fun k=>(Value.slice a n c).ownBlock=some k) w w'∧w'.ownsRow base 3 1 (.slice a n c) n (ints n (turned n fn))) ⟨TN 93 (ups f [(1,sc),(2,cv),(5,.slice a n c)]),[]⟩ w:=by
 unfold stP
 rw[body3]
 dsimp only[Tryz.f3,Option.getD,ac6,piece]
 refine ac7 (by simp only[TN,List.range,List.range.loop,List.map,ups,Nat.reduceEqDiff,reduceIte];rfl) ?_
 gi_wp2_with fail
 gi_loopw [6] (fun i wr=>∃j:Nat,j≤n∧i=.int .i64 j∧wr.ownsRow base 3 1 (.slice a n c) n (ints n (fun q=>if q<j then turned n fn q else fn q))∧Keep (fun k=>(Value.slice a n c).ownBlock=some k) w wr) (fun i _=>n-(intOf i).toNat)
 case atStart=>exact⟨0,by omega,rfl,by simpa using h,Keep.refl _ _⟩
 case round=>
  obtain⟨j,hj,rfl,o,K⟩:=hrel
  clear h
  by_cases hlt:j<n
  ·have hlt':(j:Int)<n:=by omega
   obtain⟨g,ea⟩:∃g,a=some ⟨g,0,none⟩:=by
    rcases o.2 with⟨_,e⟩|⟨g,cap,cur,e,_⟩
    ·omega
    ·cases e
     exact⟨g,rfl⟩
   subst ea
   have cj:wr.cell? ⟨g,j,none⟩=some (.int .i64 (fn j)):=by
    rw[o.cellAt j (by omega),ints_at hlt,if_neg (by omega)]
   have fj:=o.frozenAt j
   by_cases h1:j+1<n
   ·have h1':(j:Int)+1<n:=by omega
    have d1:wr.cell? ⟨g,j+1,none⟩=some (.int .i64 (fn (j+1))):=by
     rw[o.cellAt (j+1) (by omega),ints_at h1,if_neg (by omega)]
    by_cases y1:fn (j+1)=1
    ·rw[y1]at d1
     by_cases x3:fn j=3
     ·rw[x3]at cj
      gi_wp2
      go_roundw
      case rel=>exact⟨j+1,by omega,by go_num,al7 o hlt (if_pos (.inl x3)),K.trans (Keep.set1 _) fun k _ e=>congrArg some (show k=g from e).symm⟩
      case measure=>simp[intOf];omega
     by_cases x10:fn j=10
     ·rw[x10]at cj
      gi_wp2
      go_roundw
      case rel=>exact⟨j+1,by omega,by go_num,al7 o hlt (if_pos (.inr (.inl x10))),K.trans (Keep.set1 _) fun k _ e=>congrArg some (show k=g from e).symm⟩
      case measure=>simp[intOf];omega
     by_cases x11:fn j=11
     ·rw[x11]at cj
      gi_wp2
      go_roundw
      case rel=>exact⟨j+1,by omega,by go_num,same_row o (if_neg (by rintro(e|e|e)<;>omega)),K⟩
      case measure=>simp[intOf];omega
     have z3:(fn j==3)=false:=by simpa using x3
     have z10:(fn j==10)=false:=by simpa using x10
     have z11:(fn j==11)=false:=by simpa using x11
     gi_wp2
     go_roundw
     case rel=>exact⟨j+1,by omega,by go_num,same_row o (if_neg (by rintro(e|e|e)<;>omega)),K⟩
     case measure=>simp[intOf];omega
    have w1:(fn (j+1)==1)=false:=by simpa using y1
    by_cases y2:fn (j+1)=12
    ·rw[y2]at d1
     by_cases x3:fn j=3
     ·rw[x3]at cj
      gi_wp2
      go_roundw
      case rel=>exact⟨j+1,by omega,by go_num,al7 o hlt (if_pos (.inl x3)),K.trans (Keep.set1 _) fun k _ e=>congrArg some (show k=g from e).symm⟩
      case measure=>simp[intOf];omega
     by_cases x10:fn j=10
     ·rw[x10]at cj
      gi_wp2
      go_roundw
      case rel=>exact⟨j+1,by omega,by go_num,al7 o hlt (if_pos (.inr (.inl x10))),K.trans (Keep.set1 _) fun k _ e=>congrArg some (show k=g from e).symm⟩
      case measure=>simp[intOf];omega
     by_cases x11:fn j=11
     ·rw[x11]at cj
      gi_wp2
      go_roundw
      case rel=>exact⟨j+1,by omega,by go_num,same_row o (if_neg (by rintro(e|e|e)<;>omega)),K⟩
      case measure=>simp[intOf];omega
     have z3:(fn j==3)=false:=by simpa using x3
     have z10:(fn j==10)=false:=by simpa using x10
     have z11:(fn j==11)=false:=by simpa using x11
     gi_wp2
     go_roundw
     case rel=>exact⟨j+1,by omega,by go_num,same_row o (if_neg (by rintro(e|e|e)<;>omega)),K⟩
     case measure=>simp[intOf];omega
    have w2:(fn (j+1)==12)=false:=by simpa using y2
    by_cases x3:fn j=3
    ·rw[x3]at cj
     gi_wp2
     go_roundw
     case rel=>exact⟨j+1,by omega,by go_num,al7 o hlt (if_pos (.inl x3)),K.trans (Keep.set1 _) fun k _ e=>congrArg some (show k=g from e).symm⟩
     case measure=>simp[intOf];omega
    by_cases x10:fn j=10
    ·rw[x10]at cj
     gi_wp2
     go_roundw
     case rel=>exact⟨j+1,by omega,by go_num,al7 o hlt (if_pos (.inr (.inl x10))),K.trans (Keep.set1 _) fun k _ e=>congrArg some (show k=g from e).symm⟩
     case measure=>simp[intOf];omega
    by_cases x11:fn j=11
    ·rw[x11]at cj
     gi_wp2
     go_roundw
     case rel=>exact⟨j+1,by omega,by go_num,al7 o hlt (if_pos (.inr (.inr ⟨x11,by omega⟩))),K.trans (Keep.set1 _) fun k _ e=>congrArg some (show k=g from e).symm⟩
     case measure=>simp[intOf];omega
    have z3:(fn j==3)=false:=by simpa using x3
    have z10:(fn j==10)=false:=by simpa using x10
    have z11:(fn j==11)=false:=by simpa using x11
    gi_wp2
    go_roundw
    case rel=>exact⟨j+1,by omega,by go_num,same_row o (if_neg (by rintro(e|e|e)<;>omega)),K⟩
    case measure=>simp[intOf];omega
   ·have h1':¬(j:Int)+1<n:=by omega
    by_cases x3:fn j=3
    ·rw[x3]at cj
     gi_wp2
     go_roundw
     case rel=>exact⟨j+1,by omega,by go_num,al7 o hlt (if_pos (.inl x3)),K.trans (Keep.set1 _) fun k _ e=>congrArg some (show k=g from e).symm⟩
     case measure=>simp[intOf];omega
    by_cases x10:fn j=10
    ·rw[x10]at cj
     gi_wp2
     go_roundw
     case rel=>exact⟨j+1,by omega,by go_num,al7 o hlt (if_pos (.inr (.inl x10))),K.trans (Keep.set1 _) fun k _ e=>congrArg some (show k=g from e).symm⟩
     case measure=>simp[intOf];omega
    by_cases x11:fn j=11
    ·rw[x11]at cj
     gi_wp2
     go_roundw
     case rel=>exact⟨j+1,by omega,by go_num,al7 o hlt (if_pos (.inr (.inr ⟨x11,by omega⟩))),K.trans (Keep.set1 _) fun k _ e=>congrArg some (show k=g from e).symm⟩
     case measure=>simp[intOf];omega
    have z3:(fn j==3)=false:=by simpa using x3
    have z10:(fn j==10)=false:=by simpa using x10
    have z11:(fn j==11)=false:=by simpa using x11
    gi_wp2
    go_roundw
    case rel=>exact⟨j+1,by omega,by go_num,same_row o (if_neg (by rintro(e|e|e)<;>omega)),K⟩
    case measure=>simp[intOf];omega
  ·have hlt':¬(j:Int)<n:=by omega
   gi_wp2
   refine⟨rfl,rfl,⟨_,af1 rfl (by simp)⟩,K,?_⟩
   have e:j=n:=by omega
   subst e
   have e2:ints j (fun q=>if q<j then turned j fn q else fn q)=ints j (turned j fn):=by
    unfold ints
    refine List.map_congr_left fun q hq=>?_
    simp only[if_pos (List.mem_range.1 hq)]
   rw[←e2]
   exact o
end
theorem info28:(Tryz.prog.info? 28).map (fun i=>(i.zero,i.size,i.bytes))=some (some (.agg #[.int .i64 0,.int .i64 0,.int .i64 0,.int .i64 0,.int .i64 0,.int .i64 0,.slice none 0 0,.slice none 0 0]),8,96):=by kernel_rfl
def OpIn (w:World) (b o i:Nat):Prop:=∃(kd on pid nn co sw:Int) (s1 s2:Option Addr) (n1 c1 n2 c2:Nat),-9223372036854775808≤on∧on≤9223372036854775807∧w.cell? ⟨b,o+i*8,none⟩=some (.int .i64 kd)∧w.cell? ⟨b,o+i*8+1,none⟩=some (.int .i64 on)∧w.cell? ⟨b,o+i*8+2,none⟩=some (.int .i64 pid)∧w.cell? ⟨b,o+i*8+3,none⟩=some (.int .i64 nn)∧w.cell? ⟨b,o+i*8+4,none⟩=some (.int .i64 co)∧w.cell? ⟨b,o+i*8+5,none⟩=some (.int .i64 sw)∧w.cell? ⟨b,o+i*8+6,none⟩=some (.slice s1 n1 c1)∧w.cell? ⟨b,o+i*8+7,none⟩=some (.slice s2 n2 c2)
theorem OpIn.keep {w w':World} {b o i:Nat} (h:OpIn w b o i) (hK:Keep No w w'):OpIn w' b o i:=by
 obtain⟨kd,on,pid,nn,co,sw,s1,s2,n1,c1,n2,c2,h1,h2,a0,a1,a2,a3,a4,a5,a6,a7⟩:=h
 exact⟨kd,on,pid,nn,co,sw,s1,s2,n1,c1,n2,c2,h1,h2,hK.has a0,hK.has a1,hK.has a2,hK.has a3,hK.has a4,hK.has a5,hK.has a6,hK.has a7⟩
def OpRow (xs:List Value) (i:Nat):Prop:=∃(kd on pid nn co sw:Int) (s1 s2:Option Addr) (n1 c1 n2 c2:Nat),-9223372036854775808≤on∧on≤9223372036854775807∧xs[i*8]?=some (.int .i64 kd)∧xs[i*8+1]?=some (.int .i64 on)∧xs[i*8+2]?=some (.int .i64 pid)∧xs[i*8+3]?=some (.int .i64 nn)∧xs[i*8+4]?=some (.int .i64 co)∧xs[i*8+5]?=some (.int .i64 sw)∧xs[i*8+6]?=some (.slice s1 n1 c1)∧xs[i*8+7]?=some (.slice s2 n2 c2)
theorem OpRow.left {xs ys:List Value} {i:Nat} (h:OpRow xs i):OpRow (xs++ys) i:=by
 obtain⟨kd,on,pid,nn,co,sw,s1,s2,n1,c1,n2,c2,h1,h2,a0,a1,a2,a3,a4,a5,a6,a7⟩:=h
 have go:∀q u,xs[q]?=some u→(xs++ys)[q]?=some u:=fun q u hq=>by rw[List.getElem?_append_left (List.getElem?_eq_some_iff.1 hq).1,hq]
 exact⟨kd,on,pid,nn,co,sw,s1,s2,n1,c1,n2,c2,h1,h2,go _ _ a0,go _ _ a1,go _ _ a2,go _ _ a3,go _ _ a4,go _ _ a5,go _ _ a6,go _ _ a7⟩
theorem OpRow.last {xs:List Value} {i:Nat} {kd on pid nn co sw:Int} {s1 s2:Option Addr} {n1 c1 n2 c2:Nat} (hl:xs.length=i*8) (h1:-9223372036854775808≤on) (h2:on≤9223372036854775807):OpRow (xs++[.int .i64 kd,.int .i64 on,.int .i64 pid,.int .i64 nn,.int .i64 co,.int .i64 sw,.slice s1 n1 c1,.slice s2 n2 c2]) i:=by
 have go:∀q,(xs++[.int .i64 kd,.int .i64 on,.int .i64 pid,.int .i64 nn,.int .i64 co,.int .i64 sw,.slice s1 n1 c1,.slice s2 n2 c2])[i*8+q]?=([.int .i64 kd,.int .i64 on,.int .i64 pid,.int .i64 nn,.int .i64 co,.int .i64 sw,.slice s1 n1 c1,.slice s2 n2 c2]:List Value)[q]?:=fun q=>by rw[List.getElem?_append_right (by omega),hl,Nat.add_sub_cancel_left]
 exact⟨kd,on,pid,nn,co,sw,s1,s2,n1,c1,n2,c2,h1,h2,go 0,go 1,go 2,go 3,go 4,go 5,go 6,go 7⟩
theorem OpRow.at {w:World} {base sb n c i:Nat} {xs:List Value} (o:w.ownsRow base 28 8 (.slice (some ⟨sb,0,none⟩) n c) n xs) (hi:i<n) (h:OpRow xs i):OpAt w sb i:=by
 obtain⟨kd,on,pid,nn,co,sw,s1,s2,n1,c1,n2,c2,h1,h2,a0,a1,a2,a3,a4,a5,a6,a7⟩:=h
 have go:∀q,q<8→w.cell? ⟨sb,i*8+q,none⟩=xs[i*8+q]?:=fun q hq=>o.cellAt (i*8+q) (by omega)
 exact⟨kd,on,pid,nn,co,sw,s1,s2,n1,c1,n2,c2,h1,h2,(go 0 (by omega)).trans a0,(go 1 (by omega)).trans a1,(go 2 (by omega)).trans a2,(go 3 (by omega)).trans a3,(go 4 (by omega)).trans a4,(go 5 (by omega)).trans a5,(go 6 (by omega)).trans a6,(go 7 (by omega)).trans a7⟩
theorem alloc_size (w:World) (o:Obj):(w.alloc o).heap.size=w.heap.size+1:=by simp
theorem new_cell {w:World} {cs:Array Value} {t:TypeId} {q:Nat} {u:Value} (h:cs.toList[q]?=some u):(w.alloc (.cells cs t)).cell? ((⟨w.heap.size,0,none⟩:Addr).add q)=some u:=by
 rw[addr_at,aa0 (aa4 rfl),←Array.getElem?_toList]
 exact h
section
variable (m:Nat) (w:World) (f:Nat→Value)
theorem steps_set2 (sc co sw pr fi:Value) (C:Nat) (a:Option Addr) (n c:Nat) (hC:w.heap[C]?=some (.cells #[co,sw,pr,fi] 25 (0,0))):(stP Tryz.prog 4).wpIn NF m Tryz.prog (Ends fun tm w'=>(∃g,tm=TN 93 (ups g [(1,sc),(2,.pointer (some ⟨C,0,none⟩))]))∧Keep (Go.Fxa.At C) w w'∧w'.heap[C]?=some (.cells #[co,sw,.slice a n c,fi] 25 (0,0))) ⟨TN 93 (ups f [(1,sc),(2,.pointer (some ⟨C,0,none⟩)),(5,.slice a n c)]),[]⟩ w:=by
 have c2:w.cell? ⟨C,2,none⟩=some pr:=by rw[aa0 hC];rfl
 have f2:=ab3 hC 2
 unfold stP
 rw[body3]
 dsimp only[Tryz.f3,Option.getD,ac6,piece]
 refine ac7 (by simp only[TN,List.range,List.range.loop,List.map,ups,Nat.reduceEqDiff,reduceIte];rfl) ?_
 gi_wp2
 exact⟨rfl,rfl,⟨_,af1 rfl (by simp)⟩,Keep.set1 _,(aa2 hC _).trans rfl⟩
theorem steps_set3 (sc co sw pr fi:Value) (C:Nat) (hC:w.heap[C]?=some (.cells #[co,sw,pr,fi] 25 (0,0))):(stP Tryz.prog 5).wpIn NF m Tryz.prog (Ends fun tm w'=>(∃g,tm=TN 93 (ups g [(1,sc),(2,.pointer (some ⟨C,0,none⟩))]))∧Keep (Go.Fxa.At C) w w'∧w'.heap[C]?=some (.cells #[co,sw,pr,.slice none 0 0] 25 (0,0))) ⟨TN 93 (ups f [(1,sc),(2,.pointer (some ⟨C,0,none⟩))]),[]⟩ w:=by
 have c3:w.cell? ⟨C,3,none⟩=some fi:=by rw[aa0 hC];rfl
 have f3:=ab3 hC 3
 unfold stP
 rw[body3]
 dsimp only[Tryz.f3,Option.getD,ac6,piece]
 refine ac7 (by simp only[TN,List.range,List.range.loop,List.map,ups,Nat.reduceEqDiff,reduceIte];rfl) ?_
 gi_wp2
 exact⟨rfl,rfl,⟨_,af1 rfl (by simp)⟩,Keep.set1 _,(aa2 hC _).trans rfl⟩
theorem steps_nil2 (sc cv:Value):(stP Tryz.prog 6).wpIn NF m Tryz.prog (Ends fun tm w'=>(∃g,tm=TN 93 (ups g [(1,sc),(2,cv),(8,.slice none 0 0)]))∧Keep No w w') ⟨TN 93 (ups f [(1,sc),(2,cv)]),[]⟩ w:=by
 unfold stP
 rw[body3]
 dsimp only[Tryz.f3,Option.getD,ac6,piece]
 refine ac7 (by simp only[TN,List.range,List.range.loop,List.map,ups,Nat.reduceEqDiff,reduceIte];rfl) ?_
 gi_wp2
 exact⟨rfl,rfl,⟨_,af1 rfl (by simp)⟩,Keep.refl _ _⟩
set_option maxHeartbeats 16000000 in
theorem steps_script (cv:Value) (s:Option Addr) (n c b o:Nat) (hs:0<n→s=some ⟨b,o,none⟩) (hO:∀i,i<n→OpIn w b o i) (hn:n≤2000000):
  (stP Tryz.prog 7).wpIn NF m Tryz.prog (Ends fun tm w'=>∃g sv,tm=TN 93 (ups g [(2,cv),(8,sv)])∧Keep No w w'∧∃k,k≤n∧∃xs,w'.ownsRow w.heap.size 28 8 sv k xs∧∀j,j<k→OpRow xs j) ⟨TN 93 (ups f [(1,.slice s n c),(2,cv),(8,.slice none 0 0)]),[]⟩ w:=by
 obtain⟨i0,hi0,hz0,hz1,hz2⟩:=info_parts info28
 unfold stP
 rw[body3]
 dsimp only[Tryz.f3,Option.getD,ac6,piece]
 refine ac7 (by simp only[TN,List.range,List.range.loop,List.map,ups,Nat.reduceEqDiff,reduceIte];rfl) ?_
 gi_wp2_with fail
 gi_loopw [9,8] (fun i sv wr=>∃j:Nat,j≤n∧i=.int .i64 j∧∃a k e xs,sv=.slice a k e∧k≤j∧wr.ownsRow w.heap.size 28 8 sv k xs∧(∀q,q<k→OpRow xs q)∧Keep No w wr) (fun i _ _=>n-(intOf i).toNat)
 case atStart=>exact⟨0,by omega,rfl,none,0,0,[],rfl,by omega,World.ownsRow_nil _ _ _ _,fun q hq=>absurd hq (by omega),Keep.refl _ _⟩
 case round=>
  obtain⟨j,hj,rfl,a,k,e,xs,rfl,hk,ow,hx,K⟩:=hrel
  by_cases hlt:j<n
  ·have hlt':(j:Int)<n:=by omega
   have es:=hs (by omega)
   subst es
   obtain⟨kd,on,pid,nn,co,sw,s1,s2,n1,c1,n2,c2,h1,h2,a0,a1,a2,a3,a4,a5,a6,a7⟩:=(hO j hlt).keep K
   have hX:(wr.alloc (.cells #[.int .i64 kd,.int .i64 on,.int .i64 pid,.int .i64 nn,.int .i64 co,.int .i64 sw,.slice s1 n1 c1,.slice s2 n2 c2] 28)).heap[wr.heap.size]?=some (.cells #[.int .i64 kd,.int .i64 on,.int .i64 pid,.int .i64 nn,.int .i64 co,.int .i64 sw,.slice s1 n1 c1,.slice s2 n2 c2] 28 (0,0)):=aa4 rfl
   have KX:Keep No wr (wr.alloc (.cells #[.int .i64 kd,.int .i64 on,.int .i64 pid,.int .i64 nn,.int .i64 co,.int .i64 sw,.slice s1 n1 c1,.slice s2 n2 c2] 28)):=(Keep.refl _ _).alloc _
   by_cases h5:kd=5
   ·subst h5
    gi_wp2
    go_roundw
    case rel=>exact⟨j+1,by omega,by go_num,a,k,e,xs,rfl,by omega,ow.alloc _,hx,K.then KX⟩
    case measure=>simp[intOf];omega
   ·have z5:(kd !=5)=true:=by simpa using h5
    have KY:Keep No (wr.alloc (.cells #[.int .i64 kd,.int .i64 on,.int .i64 pid,.int .i64 nn,.int .i64 co,.int .i64 sw,.slice s1 n1 c1,.slice s2 n2 c2] 28)) ((wr.alloc (.cells #[.int .i64 kd,.int .i64 on,.int .i64 pid,.int .i64 nn,.int .i64 co,.int .i64 sw,.slice s1 n1 c1,.slice s2 n2 c2] 28)).alloc (.cells #[.int .i64 kd,.int .i64 on,.int .i64 pid,.int .i64 nn,.int .i64 co,.int .i64 sw,.slice s1 n1 c1,.slice s2 n2 c2] 28)):=(Keep.refl _ _).alloc _
    have hsrc:∀q u,([.int .i64 kd,.int .i64 on,.int .i64 pid,.int .i64 nn,.int .i64 co,.int .i64 sw,.slice s1 n1 c1,.slice s2 n2 c2]:List Value)[q]?=some u→((wr.alloc (.cells #[.int .i64 kd,.int .i64 on,.int .i64 pid,.int .i64 nn,.int .i64 co,.int .i64 sw,.slice s1 n1 c1,.slice s2 n2 c2] 28)).alloc (.cells #[.int .i64 kd,.int .i64 on,.int .i64 pid,.int .i64 nn,.int .i64 co,.int .i64 sw,.slice s1 n1 c1,.slice s2 n2 c2] 28)).cell? ((⟨wr.heap.size+1,0,none⟩:Addr).add q)=some u:=fun q u hq=>by
     rw[←alloc_size wr (.cells #[.int .i64 kd,.int .i64 on,.int .i64 pid,.int .i64 nn,.int .i64 co,.int .i64 sw,.slice s1 n1 c1,.slice s2 n2 c2] 28)]
     exact new_cell (cs:=#[.int .i64 kd,.int .i64 on,.int .i64 pid,.int .i64 nn,.int .i64 co,.int .i64 sw,.slice s1 n1 c1,.slice s2 n2 c2]) hq
    have oY:((wr.alloc (.cells #[.int .i64 kd,.int .i64 on,.int .i64 pid,.int .i64 nn,.int .i64 co,.int .i64 sw,.slice s1 n1 c1,.slice s2 n2 c2] 28)).alloc (.cells #[.int .i64 kd,.int .i64 on,.int .i64 pid,.int .i64 nn,.int .i64 co,.int .i64 sw,.slice s1 n1 c1,.slice s2 n2 c2] 28)).ownsRow w.heap.size 28 8 (.slice a k e) k xs:=(ow.alloc _).alloc _
    have hb:w.heap.size≤((wr.alloc (.cells #[.int .i64 kd,.int .i64 on,.int .i64 pid,.int .i64 nn,.int .i64 co,.int .i64 sw,.slice s1 n1 c1,.slice s2 n2 c2] 28)).alloc (.cells #[.int .i64 kd,.int .i64 on,.int .i64 pid,.int .i64 nn,.int .i64 co,.int .i64 sw,.slice s1 n1 c1,.slice s2 n2 c2] 28)).heap.size:=((K.then KX).then KY).size
    gi_wp2_with (gi_at_builtin;refine ac3 _ rfl (.tmp 85) (.tmp 87) 26 rfl w.heap.size 28 i0 _ 8 96 Tryz.underlying26 hi0 hz0 hz1 hz2 rfl (by decide) (.slice a k e) k xs rfl oY ⟨wr.heap.size+1,0,none⟩ 1 1 [.int .i64 kd,.int .i64 on,.int .i64 pid,.int .i64 nn,.int .i64 co,.int .i64 sw,.slice s1 n1 c1,.slice s2 n2 c2] rfl rfl hsrc (by simp[Value.oneCell']) (by unfold maxLen;omega) (by omega) hb (by omega) ?_;intro v' w4 o4 K4 _)
    obtain⟨a4,e4,hv4⟩:=ac1 o4
    subst hv4
    have k4:Keep No w w4:=((K.then KX).then KY).trans K4 fun q hq he=>absurd (ow.lt q he).1 (by omega)
    go_roundw
    case rel=>exact⟨j+1,by omega,by go_num,a4,k+1,e4,_,rfl,by omega,o4,fun q hq=>(by
     by_cases eq:q=k
     ·subst eq
      exact OpRow.last ow.1 h1 h2
     ·exact(hx q (by omega)).left),k4⟩
    case measure=>simp[intOf];omega
  ·have hlt':¬(j:Int)<n:=by omega
   gi_wp2
   exact⟨rfl,rfl,_,.slice a k e,af1 rfl (by simp),K,k,by omega,xs,ow,hx⟩
end
end Go.Fxa
namespace Go.Fxa
open Go.Conc
open Go.Proofs
open Go.RowKit
section
variable (cv sv sc:Value) (cs:List Frame) (f:Nat→Value) (C n e:Nat) (core swap:Int) (a:Option Addr)
def steA (P:Program:=Tryz.prog):Frame×List Frame:=run P 1 (Frame.enter P 3 #[cv,sc] .normal,cs)
theorem steA_a:logs Tryz.prog 1 (Frame.enter Tryz.prog 3 #[cv,sc] .normal,cs)=some []:=by kernel_rfl
theorem steA_b:ae2 (steA cv sc cs)=(3,[.code (stP Tryz.prog 0),.code (stB Tryz.prog 1)],[],.run,.normal,none,cs):=by kernel_rfl
theorem steA_c:ad0 (steA cv sc cs) [0,1]=[cv,sc]:=by kernel_rfl
theorem steA_d:(steA cv sc cs).1.tmps.size=93:=by kernel_rfl
def steB (P:Program:=Tryz.prog):Frame×List Frame:=(Frame.mk 3 (TN 93 (ups f [(2,.pointer (some ⟨C,0,none⟩)),(8,sv)])) [.code (stB P 8)] [] .run .normal none,cs)
theorem steB_a:logs Tryz.prog 2 (steB sv cs f C)=some []:=by kernel_rfl
theorem steB_b:ag7 Tryz.prog (run Tryz.prog 2 (steB sv cs f C)) [.int .i64 core,.int .i64 swap,.slice a n e,.slice none 0 0]=some ([⟨C,0,none⟩,⟨C,1,none⟩,⟨C,2,none⟩,⟨C,3,none⟩],.agg #[.int .i64 core,.int .i64 swap,.slice a n e,.slice none 0 0]):=by kernel_rfl
def steC (P:Program:=Tryz.prog):Frame×List Frame:=did (run P 2 (steB sv cs f C P)) cv
theorem steC_a:logs Tryz.prog 2 (steC cv sv cs f C)=some []:=by kernel_rfl
def steD (P:Program:=Tryz.prog):Frame:=(below (run P 2 (steC cv sv cs f C P))).1
theorem steC_b:run Tryz.prog 2 (steC cv sv cs f C)=(Frame.enter Tryz.prog 12 #[cv,sv,.int .i64 3] .normal,steD cv sv cs f C::cs):=by kernel_rfl
def steE (P:Program:=Tryz.prog):Frame×List Frame:=run P 8 ((steD cv sv cs f C P).finish (.bool true),cs)
theorem steE_a:logs Tryz.prog 8 ((steD cv sv cs f C).finish (.bool true),cs)=some []:=by kernel_rfl
theorem steE_b:ae2 (steE cv sv cs f C)=(3,[.code .ret],[],.returning,.normal,none,cs):=by kernel_rfl
theorem steE_c:ad0 (steE cv sv cs f C) [4]=[.bool true]:=by kernel_rfl
theorem steE_d:(steE cv sv cs f C).1.tmps.size=93:=by kernel_rfl
end
theorem stB1:stB Tryz.prog 1=(stP Tryz.prog 1).seq (stB Tryz.prog 2):=by kernel_rfl
theorem stB2:stB Tryz.prog 2=(stP Tryz.prog 2).seq (stB Tryz.prog 3):=by kernel_rfl
theorem stB3:stB Tryz.prog 3=(stP Tryz.prog 3).seq (stB Tryz.prog 4):=by kernel_rfl
theorem stB4:stB Tryz.prog 4=(stP Tryz.prog 4).seq (stB Tryz.prog 5):=by kernel_rfl
theorem stB5:stB Tryz.prog 5=(stP Tryz.prog 5).seq (stB Tryz.prog 6):=by kernel_rfl
theorem stB6:stB Tryz.prog 6=(stP Tryz.prog 6).seq (stB Tryz.prog 7):=by kernel_rfl
theorem stB7:stB Tryz.prog 7=(stP Tryz.prog 7).seq (stB Tryz.prog 8):=by kernel_rfl
theorem ints_sli {w:World} {base n e:Nat} {a:Option Addr} {fn:Nat→Int} (h:w.ownsRow base 3 1 (.slice a n e) n (ints n fn)) (hn:n<100000000):SlI w (.slice a n e) n fn:=by
 refine⟨hn,a,e,rfl,fun h0=>?_⟩
 have h2:=h.2
 rcases h2 with⟨_,z⟩|⟨g,cap,cur,z,_⟩
 ·omega
 ·cases z
  refine⟨g,0,rfl,fun i hi=>?_⟩
  rw[Nat.zero_add,h.cellAt i (by omega),ints_at hi]
theorem steps_goes {Od:Old} {v:World} {cs:List Frame} {R:Frame×List Frame→World→Prop} {core swap:Int} {fi:Value} {s t:Option Addr} {n c k d b o:Nat} {fn:Nat→Int} (hs:SlI v (.slice s n c) n fn) (hn:n≤2000000) (ht:0<k→t=some ⟨b,o,none⟩) (hO:∀i,i<k→OpIn v b o i) (hk:k≤2000000)
  (hR:∀v' g,Keep No v v'→Goes Od Tryz.prog (Frame.mk 3 (TN 93 (ups g [(4,.bool true)])) [.code .ret] [] .returning .normal none,cs) v' R):
  Goes Od Tryz.prog (Frame.enter Tryz.prog 3 #[.agg #[.int .i64 core,.int .i64 swap,.slice s n c,fi],.slice t k d] .normal,cs) v R:=by
 refine Goes.logs (steA_a _ _ _) ?_
 rw[show run Tryz.prog 1 (Frame.enter Tryz.prog 3 #[.agg #[.int .i64 core,.int .i64 swap,.slice s n c,fi],.slice t k d] .normal,cs)=steA (.agg #[.int .i64 core,.int .i64 swap,.slice s n c,fi]) (.slice t k d) cs from rfl,
  ag2 (l:=[(0,.agg #[.int .i64 core,.int .i64 swap,.slice s n c,fi]),(1,.slice t k d)]) (steA_b _ _ _) (steA_c _ _ _) (steA_d _ _ _)]
 refine Goes.part (m:=0) nr3 rfl stP0_ops (fun v1 _=>steps_box 0 v1 _ _ _ _ _ _) fun v1 tm v2 K1 ⟨g,C,e,K2,lC,hC⟩=>?_
 subst e
 have k2:Keep No v v2:=K1.then K2
 have lC':v.heap.size≤C:=Nat.le_trans K1.size lC
 rw[stB1]
 refine Goes.seq ?_
 refine Goes.part (m:=0) nr3 rfl stP1_ops (fun v3 _=>steps_nil 0 v3 _ _ _) fun v3 tm v4 K3 ⟨⟨g4,e⟩,K4⟩=>?_
 subst e
 have k34:=K3.then K4
 have k4:Keep No v v4:=k2.then k34
 have hC4:=k34.old hC id
 rw[stB2]
 refine Goes.seq ?_
 refine Goes.part (m:=0) nr3 rfl stP2_ops (fun v5 K5=>steps_copy 0 v5 _ _ _ _ _ C s n c fn (K5.old hC4 id) (hs.keep (k4.then K5)) hn) fun v5 tm v6 K5 ⟨g6,va,e,K6,o6,n6⟩=>?_
 subst e
 have k6:Keep No v v6:=k4.then (K5.then K6)
 have hC6:=(K5.then K6).old hC4 id
 have sz5:v.heap.size≤v5.heap.size:=(k4.then K5).size
 have lC5:C<v5.heap.size:=Nat.lt_of_lt_of_le (ab2 hC4) K5.size
 obtain⟨a,e,hva⟩:=ac1 o6
 subst hva
 have bl:∀q,(Value.slice a n e).ownBlock=some q→v5.heap.size≤q:=fun q hq=>(o6.lt q hq).1
 rw[stB3]
 refine Goes.seq ?_
 refine Goes.part (m:=0) nr3 rfl stP3_ops (fun v7 K7=>steps_turn 0 v7 _ _ _ a n e v5.heap.size fn (aa3 o6 K7 fun _ _ x=>x) hn) fun v7 tm v8 K7 ⟨⟨g8,e8⟩,K8,o8⟩=>?_
 subst e8
 have k8:Keep No v v8:=(k6.then K7).trans K8 fun q hq he=>absurd (bl q he) (by omega)
 have hC8:=K8.old (K7.old hC6 id) fun he=>absurd (bl C he) (by omega)
 rw[stB4]
 refine Goes.seq ?_
 refine Goes.part (m:=0) nr3 rfl stP4_ops (fun v9 K9=>steps_set2 0 v9 _ _ _ _ _ _ C a n e (K9.old hC8 id)) fun v9 tm v10 K9 ⟨⟨g10,e10⟩,K10,hC10⟩=>?_
 subst e10
 have k10:Keep No v v10:=(k8.then K9).trans K10 fun q hq he=>absurd (show q=C from he) (by omega)
 have o10:=aa3 (aa3 o8 K9 fun _ _ x=>x) K10 fun q hq he=>absurd (bl q hq) (by have:q=C:=he;omega)
 rw[stB5]
 refine Goes.seq ?_
 refine Goes.part (m:=0) nr3 rfl stP5_ops (fun v11 K11=>steps_set3 0 v11 _ _ _ _ _ _ C (K11.old hC10 id)) fun v11 tm v12 K11 ⟨⟨g12,e12⟩,K12,hC12⟩=>?_
 subst e12
 have k12:Keep No v v12:=(k10.then K11).trans K12 fun q hq he=>absurd (show q=C from he) (by omega)
 have o12:=aa3 (aa3 o10 K11 fun _ _ x=>x) K12 fun q hq he=>absurd (bl q hq) (by have:q=C:=he;omega)
 rw[stB6]
 refine Goes.seq ?_
 refine Goes.part (m:=0) nr3 rfl stP6_ops (fun v13 _=>steps_nil2 0 v13 _ _ _) fun v13 tm v14 K13 ⟨⟨g14,e14⟩,K14⟩=>?_
 subst e14
 have k1314:=K13.then K14
 have k14:Keep No v v14:=k12.then k1314
 rw[stB7]
 refine Goes.seq ?_
 refine Goes.part (m:=0) nr3 rfl stP7_ops (fun v15 K15=>steps_script 0 v15 _ _ t k d b o ht (fun i hi=>((hO i hi).keep k14).keep K15) hk) fun v15 tm v16 K15 ⟨g16,sv,e16,K16,j,hj,xs,o16,hx⟩=>?_
 subst e16
 have k1216:Keep No v12 v16:=k1314.then (K15.then K16)
 have k16:Keep No v v16:=k12.then k1216
 have hC16:=k1216.old hC12 id
 have oP:=aa3 o12 k1216 fun _ _ x=>x
 obtain⟨a2,e2,hsv⟩:=ac1 o16
 subst hsv
 refine Goes.logs (x:=steB (.slice a2 j e2) cs g16 C) (steB_a _ _ _ _) ?_
 refine Goes.reads (steB_b _ _ _ _ _ _ core swap a) ⟨by rw[aa0 hC16];rfl,by rw[aa0 hC16];rfl,by rw[aa0 hC16];rfl,by rw[aa0 hC16];rfl,trivial⟩ ?_
 refine Goes.logs (x:=steC (.agg #[.int .i64 core,.int .i64 swap,.slice a n e,.slice none 0 0]) (.slice a2 j e2) cs g16 C) (steC_a _ _ _ _ _) ?_
 rw[steC_b]
 obtain⟨sb,hsb⟩:∃sb,0<j→a2=some ⟨sb,0,none⟩:=by
  have h2:=o16.2
  rcases h2 with⟨_,z⟩|⟨g,cap,cur,z,_⟩
  ·exact⟨0,fun h=>by omega⟩
  ·cases z
   exact⟨g,fun _=>rfl⟩
 refine plays_goes (sb:=sb) (ints_sli oP (by omega)) n6 (by omega) (turned_plain n fn) hsb (by omega) (fun q hq=>?_) fun v17 K17=>?_
 ·have z:=hsb (by omega)
  subst z
  exact(hx q hq).at o16 hq
 ·refine Goes.logs (steE_a _ _ _ _ _) ?_
  refine Eq.mp (congrArg (fun x=>Goes Od Tryz.prog x v17 R) (ag2 (x:=steE _ _ _ _ _) (l:=[(4,.bool true)]) (steE_b _ _ _ _ _) (steE_c _ _ _ _ _) (steE_d _ _ _ _ _)).symm) ?_
  exact hR v17 _ (k16.then K17)
theorem end_step (g:Nat→Value) (w:World):stepG Tryz.prog true (G (Frame.mk 3 (TN 93 (ups g [(4,.bool true)])) [.code .ret] [] .returning .normal none) []) w=.ended (.done (.bool true)) w #[]:=by kernel_rfl
def oddO:Obj→Bool
 | .view ..=>true
 | o=>!o.plain
def Odd (W:World) (r:Nat):Prop:=∃o,W.heap[r]?=some o∧oddO o=true
abbrev oldOf (W:World):Old:=⟨Odd W,fun r=>(W.heap[r]?).getD deadObj⟩
section
def ak7 (W:World):World:={ W with heap:=W.heap.map fun o=>if oddO o then deadObj else o }
theorem startOf_size (W:World):(ak7 W).heap.size=W.heap.size:=by simp[ak7]
theorem startOf_odd {W:World} {r:Nat} (h:Odd W r):(ak7 W).heap[r]?=some deadObj:=by
 obtain⟨o,h1,h2⟩:=h
 simp[ak7,h1,h2]
theorem startOf_even {W:World} {r:Nat} (h:¬Odd W r):(ak7 W).heap[r]?=W.heap[r]?:=by
 cases e:W.heap[r]? with
 | none=>simp[ak7,e]
 | some o=>
  have h2:oddO o=false:=by
   cases h3:oddO o with
   | false=>rfl
   | true=>exact(h ⟨o,e,h3⟩).elim
  simp[ak7,e,h2]
theorem start_twin (W:World):Twin (oldOf W) (fun _=>False) (ak7 W) W:=by
 refine⟨startOf_size W,fun r _ ho=>startOf_even ho,fun _ h=>h.elim,fun r o ho=>?_,rfl,rfl,fun r ho=>startOf_odd ho,fun r ho=>?_,fun _ _ h=>h⟩
 ·by_cases h:Odd W r
  ·rw[startOf_odd h]at ho
   cases ho
   rfl
  ·rw[startOf_even h]at ho
   cases e:o.plain with
   | true=>rfl
   | false=>exact(h ⟨o,ho,by cases o<;>first|rfl|simp[oddO,e]⟩).elim
 ·obtain⟨o,h1,_⟩:=ho
  show W.heap[r]?=some ((W.heap[r]?).getD deadObj)
  rw[h1]
  rfl
theorem ai3 {W:World} {a:Addr} {x:Value} (h:W.cell? a=some x):(ak7 W).cell? a=some x:=by
 have ne:¬Odd W a.block:=by
  rintro⟨o,h1,h2⟩
  unfold World.cell? at h
  rw[h1]at h
  cases o with
  | cells c t f=>cases h2
  | _=>cases h
 unfold World.cell? at h ⊢
 rw[startOf_even ne]
 exact h
theorem old_same {W v' w':World} {Z:Nat→Prop} (T:Twin (oldOf W) Z v' w') (K:Keep No (ak7 W) v'):∀r,r<W.heap.size→w'.heap[r]?=W.heap[r]?:=fun r hr=>by
 by_cases h:Odd W r
 ·have e:=T.kept r h
  obtain⟨o,h1,_⟩:=h
  rw[e]
  show some ((W.heap[r]?).getD deadObj)=W.heap[r]?
  rw[h1]
  rfl
 ·have e1:v'.heap[r]?=W.heap[r]?:=(K.block r (by rw[startOf_size];exact hr) id).trans (startOf_even h)
  have nz:¬Z r:=fun hz=>by
   have e2:=T.dead r hz (Nat.lt_of_lt_of_le hr (by have:=K.size;rw[startOf_size]at this;exact this))
   exact h ⟨deadObj,e1.symm.trans e2,rfl⟩
  exact(T.same r nz h).symm.trans e1
end
def Stood (W:World) (x:Value) (w':World):Prop:=x=.bool true∧(∀r,r<W.heap.size→w'.heap[r]?=W.heap[r]?)∧W.heap.size≤w'.heap.size∧w'.os=W.os∧w'.output=W.output
theorem steps_runs (W:World) {core swap:Int} {fi:Value} {s t:Option Addr} {n c k d b o:Nat} {fn:Nat→Int} (hs:SlI W (.slice s n c) n fn) (hn:n≤2000000) (ht:0<k→t=some ⟨b,o,none⟩) (hO:∀i,i<k→OpIn W b o i) (hk:k≤2000000):
  ∃N last x w' t',runNT Tryz.prog (N+1) (solo (G (Frame.enter Tryz.prog 3 #[.agg #[.int .i64 core,.int .i64 swap,.slice s n c,fi],.slice t k d] .normal) []) W) #[]=(.ended x w',t')∧
   runN Tryz.prog N (solo (G (Frame.enter Tryz.prog 3 #[.agg #[.int .i64 core,.int .i64 swap,.slice s n c,fi],.slice t k d] .normal) []) W)=.next last∧step Tryz.prog last=.ended x w'∧Conc.Good Tryz.prog (Stood W) last x w' t':=by
 have hs':SlI (ak7 W) (.slice s n c) n fn:=by
  obtain⟨h1,s',c',e,h2⟩:=hs
  refine⟨h1,s',c',e,fun hp=>?_⟩
  obtain⟨b',o',e',h3⟩:=h2 hp
  exact⟨b',o',e',fun i hi=>ai3 (h3 i hi)⟩
 have hO':∀i,i<k→OpIn (ak7 W) b o i:=fun i hi=>by
  obtain⟨kd,on,pid,nn,co,sw,s1,s2,n1,c1,n2,c2,h1,h2,a0,a1,a2,a3,a4,a5,a6,a7⟩:=hO i hi
  exact⟨kd,on,pid,nn,co,sw,s1,s2,n1,c1,n2,c2,h1,h2,ai3 a0,ai3 a1,ai3 a2,ai3 a3,ai3 a4,ai3 a5,ai3 a6,ai3 a7⟩
 have G0:=steps_goes (Od:=oldOf W) (v:=ak7 W) (cs:=[]) (core:=core) (swap:=swap) (fi:=fi) (d:=d) (R:=fun y v'=>(∃g,y=(Frame.mk 3 (TN 93 (ups g [(4,.bool true)])) [.code .ret] [] .returning .normal none,[]))∧Keep No (ak7 W) v') hs' hn ht hO' hk (fun v' g K=>.now ⟨⟨g,rfl⟩,K⟩)
 obtain⟨N,gs',w',sl',t',hrun,Z',Shun',B',y,v',hu,⟨q,T,hZ,hL,hP,hB⟩,h0,⟨g,rfl⟩,K⟩:=G0 (fun _=>False) (fun _=>False) W.heap.size #[gOf (Frame.enter Tryz.prog 3 #[.agg #[.int .i64 core,.int .i64 swap,.slice s n c,fi],.slice t k d] .normal,[])] W none #[] ⟨fun _ h=>h.elim,fun _ h=>h.elim⟩
  ⟨fun _=>0,start_twin W,fun _ h=>h.elim,leavers_one _ _,past_nil.mono (Nat.zero_le _),Nat.le_refl _⟩ rfl
 have at':∀d,Stood W (.bool true) (w'.at d):=fun d=>⟨rfl,(show ∀r,r<W.heap.size→w'.heap[r]?=W.heap[r]? from old_same T K),by
  have a:=K.size
  rw[startOf_size,T.size]at a
  exact a,T.os.symm.trans K.os,T.output.symm.trans K.output⟩
 obtain⟨N2,last,x,w2,t2,r1,r2,r3,r4⟩:=beside_ends (P:=Tryz.prog) (Shun:=Shun') (B:=B') (D:=fun _ _ _=>False) (Post:=Stood W) (fun _ _ _ h=>h.elim) (sl:=sl') (n:=0) h0 hL hP (show ∀w1,AtRel w' w1→Conc.AtEnd Tryz.prog Shun' B' (Stood W) _ w1 from fun w1 ⟨d,e⟩=>by
  subst e
  exact⟨rfl,_,_,end_step g _,by simp,at' d⟩)
 refine⟨N+N2,last,x,w2,t2,?_,?_,r3,r4⟩
 ·rw[solo_eq_crowd,Nat.add_assoc,runNT_add]
  erw [hrun]
  exact r1
 ·rw[solo_eq_crowd,runN_add]
  have e:runN Tryz.prog N (crowd #[gOf (Frame.enter Tryz.prog 3 #[.agg #[.int .i64 core,.int .i64 swap,.slice s n c,fi],.slice t k d] .normal,[])] W none)=.next (crowd gs' w' sl'):=by rw[←runNT_fst _ _ _ #[],hrun]
  erw [e]
  exact r2
end Go.Fxa
