/- The rounds: the child steps, c -/
import Derived.Test.YtmhplpfpcnjekaaGreatA13
namespace Go.Fxa
open Go.Conc
open Go.ConcN (sumTo upd sumTo_upd upd_ne upd_same)
variable {Q:X_->o_->Prop} {Od:Old} {EC:h_} {kd:CallKind} {k:List Item} {ds:List Deferred} {c:Code} {tmps:X_} {m pb kq:Nat} {cs:Z_} {J:o_->Prop} {C:m_->o_->Prop} {f fc:Nat->n_} {gs:Array m_} {w v:o_} {t:Trace} {x:Frame×Z_} {told:n_} {i:Int} {ob:Obj}
structure Xy (P:l_) (L:h_->Prop) (p:h_->Oper->Bool) (N:Fence) (host:h_):Prop where
 fenced:Vr P L p N
 Qq:aQ L N host
 seen:∀f,(f=56\/f=93\/f=97\/f=136\/f=187)->∀es,seen P f es=seen P host es
 ops:∀c,c∈[R2 P,R3 P,S0 P,S1 P,R10 P,R11 P,R15 P,R16 P,A0 P,R21 P,WI P,ZH P,R12 P]->c.Bv (p host)=true
def Ends (Q:X_->o_->Prop) (e:Exit) (a:Act) (w:o_):Prop:=e=.normal/\a.defers=[]/\Q a.tmps w
def WM (Q:X_->o_->Prop) (e:Exit) (a:Act) (w:o_):Prop:=e=.ret/\a.defers=[]/\Q a.tmps w
def WU (kv:n_) (pa:f_) (told:n_) (r:Nat) (x:n_) (bA:Nat):List (Nat×n_):=[(0,kv),(1,pv pa),(7,told),(8,pr r),(9,x),(10,pr bA)]
def slG (kv:n_) (pa:f_) (told:n_) (r bA:Nat) (b:Bool):List (Nat×n_):=[(0,kv),(1,pv pa),(7,told),(8,pr r),(10,pr bA),(59,.bool b)]
def Va (pa:f_):n_:=.pointer (some (pa.add 5))
def Iy (v v':o_):Prop:=v.heap.size<=v'.heap.size/\(∀x,x<v.heap.size->v'.heap[x]?=v.heap[x]?)/\v'.os=v.os/\v'.output=v.output
def zy (pa:f_) (cs:X_) (ty:j_) (p:Int) (v v':o_):Prop:=
 v.heap.size<=v'.heap.size/\(∀x,x<v.heap.size->x≠pa.block->v'.heap[x]?=v.heap[x]?)/\v'.heap[pa.block]?=some (Vk cs ty (pa.add 5) p)/\v'.os=v.os/\v'.output=v.output
structure Sj (P:l_) (N:Fence) (m:Nat) (kv:n_) (pa:f_) (n:Int) where
 I:Int->n_->o_->Prop
 Cd:Int->n_->n_->o_->Prop
 Bd:n_->o_->Prop
 D:Int->n_->n_->Nat->o_->Prop
 E0:Int->n_->Nat->o_->Prop
 E:Int->n_->Nat->o_->Prop
 An:Int->n_->n_->o_->Prop
 Fin:n_->o_->Prop
 Dn:Int->n_->n_->Nat->o_->Prop
 Db:Int->n_->n_->Nat->o_->Prop
 Bc:Int->n_->Nat->o_->Prop
 Bl:Int->n_->o_->Prop
 tDn:∀i told x b,Dv (Dn i told x b)
 tDb:∀i told x b,Dv (Db i told x b)
 tBc:∀i told b,Dv (Bc i told b)
 tBl:∀i told,Dv (Bl i told)
 tI:∀i told,Dv (I i told)
 tC:∀i told x,Dv (Cd i told x)
 tB:∀told,Dv (Bd told)
 tD:∀i told x b,Dv (D i told x b)
 tE0:∀i told b,Dv (E0 i told b)
 tE:∀i told b,Dv (E i told b)
 tA:∀i told A,Dv (An i told A)
 tF:∀told,Dv (Fin told)
 step:∀(r:Nat) (i:Int) (told:n_) (v:o_) (f:Y_),I i told v->0<=i->i<n->∀τ d,(WI P).wpIn N m P (Ends λtm w'=>∃f' oc x,tm=xA (A8 f' (Fa r (Va pa) n i oc x))/\((oc=0/\I (i+1) told w')\/(oc=1/\Cd i told x w')\/(oc=2/\Bd told w'))) ⟨xA (A8 f (NY r (Va pa) n i)),[]⟩ (v.re τ d)
 serve:∀(r:Nat) (i:Int) (told x:n_) (v:o_) (f:Y_),Cd i told x v->∀τ d,(R10 P).wpIn N m P (Ends λtm w'=>∃f' bA,tm=TN 76 (A8 f' (WU kv pa told r x bA))/\D i told x bA w') ⟨TN 76 (A8 f (slX kv pa told r x)),[]⟩ (v.re τ d)
 asked:∀(r:Nat) (i:Int) (told x:n_) (bA:Nat) (v:o_) (f:Y_),D i told x bA v->∀τ d,(R11 P).wpIn N m P (Ends λtm w'=>∃f' b,tm=TN 76 (A8 (A8 f' (WU kv pa told r x bA)) [(39,.bool b)])/\((b=false/\Dn i told x bA w')\/(b=true/\Db i told x bA w'))) ⟨TN 76 (A8 f (WU kv pa told r x bA)),[]⟩ (v.re τ d)
 tells:∀(r:Nat) (i:Int) (told x:n_) (bA:Nat) (v:o_) (f:Y_),Dn i told x bA v->∀τ d,(R15 P).wpIn N m P (Ends λtm w'=>∃f' Ce,tm=TN 76 (A8 f' (xq kv pa Ce r bA))/\E0 i Ce bA w') ⟨TN 76 (A8 f (WU kv pa told r x bA)),[]⟩ (v.re τ d)
 ended:∀(r:Nat) (i:Int) (told:n_) (bA:Nat) (v:o_) (f:Y_),E0 i told bA v->∀τ d,(R16 P).wpIn N m P (Ends λtm w'=>∃f' b,tm=TN 76 (A8 f' (slG kv pa told r bA b))/\((b=true/\Fin told w')\/(b=false/\E i told bA w'))) ⟨TN 76 (A8 f (xq kv pa told r bA)),[]⟩ (v.re τ d)
 answer:∀i told bA v,E i told bA v->∃s0 s1 s2,Cells v [(R_ bA),(S_ bA 1),(S_ bA 2)] [s0,s1,s2]/\An i told (.agg #[s0,s1,s2]) v
 grow:∀i told A v v',An i told A v->Iy v v'->An i told A v'
 mf:∀(q1 q3:Nat) (i:Int) (told A:n_) (v:o_) (f:Y_),An i told A v->0<=i->i<n->∀τ d,(ZH P).wpIn N m P (WM λtm w'=>∃g,tm=TN 49 (A8 g [(6,.bool true)])/\I (i+1) told w') ⟨TN 49 (A8 f (slA q1 q3 (Va pa) A)),[]⟩ (v.re τ d)
 bad:∀(r:Nat) (told:n_) (v:o_) (f:Y_),Bd told v->∀τ d,(R21 P).wpIn N m P (Ends λtm w'=>∃f' Ce,tm=TN 76 (A8 f' [(7,Ce)])/\Fin Ce w') ⟨TN 76 (A8 f (slS kv pa told r)),[]⟩ (v.re τ d)
 spent:∀told v,I n told v->Fin told v
 blocks:∀(r:Nat) (i:Int) (told x:n_) (bA:Nat) (v:o_) (f:Y_),Db i told x bA v->∀τ d,(R12 P).wpIn N m P (Ends λtm w'=>∃f',tm=TN 76 (A8 f' (xq kv pa told r bA))/\Bc i told bA w') ⟨TN 76 (A8 f (WU kv pa told r x bA)),[]⟩ (v.re τ d)
 blocked:∀i told bA v,Bc i told bA v->∃x0 y0 fn ca cb,Cells v [(R_ bA),(S_ bA 1),(S_ bA 2)] [a_ x0,a_ y0,.func fn ca cb]/\Bl i told v
 bj5:∀i told v,Bl i told v->∃cs ty p,v.heap[pa.block]?=some (N_ cs ty)/\cs[pa.off+7]?=some (a_ p)/\∀v',zy pa cs ty p v v'->Fin told v'
structure aO (P:l_) (N:Fence) (m:Nat):Prop where
 box:∀(r:Nat) (s0 s1 s2:n_) (v:o_) (g:Y_),∀τ d,(A0 P).wpIn N m P (Ends λtm w'=>∃g' bB,tm=TN 9 (A8 g' (aa0 r (.agg #[s0,s1,s2]) bB))/\(Iy v w'/\bB=v.heap.size/\w'.heap.size=v.heap.size+1)/\Cells w' [(R_ bB),(S_ bB 1),(S_ bB 2)] [s0,s1,s2]) ⟨TN 9 (A8 g [(0,pr r),(1,.agg #[s0,s1,s2])]),[]⟩ (v.re τ d)
theorem gZ:∀e a w,Ends Q e a w->(e=.normal\/e=.ret)/\a.defers=[]:=λ_ _ _ h=>⟨.inl h.1,h.2.1⟩
theorem yF:∀e a w,WM Q e a w->(e=.normal\/e=.ret)/\a.defers=[]:=λ_ _ _ h=>⟨.inr h.1,h.2.1⟩
section
variable {P:l_} {L:h_->Prop} {p:h_->Oper->Bool} {N:Fence} {Z:Nat->Prop} {Ad Still:Loc->Prop} {Mem Am:Nat->Prop} {h j:Nat} {By:Nat->m_->o_->Trace->Prop} {gs:Array m_} {w:o_} {sl:d_ (W_)} {t:Trace} {host:h_}
theorem eF.part (W:Xy P L p N host) (z:Gp Ad Z) (r:Gp Still Z) (O:GR P Z Ad Still (fun B t=>PX Ad Still Mem Am B h t) j By) (y:EC=56\/EC=93\/EC=97\/EC=136\/EC=187) (q:(kd==CallKind.early)=false)
  (u:c∈[R2 P,R3 P,S0 P,S1 P,R10 P,R11 P,R15 P,R16 P,A0 P,R21 P,WI P,ZH P,R12 P]) (A:∀v,J v->∀τ d,c.wpIn N m P (Ends Q) ⟨tmps,[]⟩ (v.re τ d)) (s:∀o,Dv (Q o))
  (H:eF Od P Z Ad Still Mem Am h j By (λg v=>g=G (Frame.mk EC tmps (.code c::k) ds .run kd none) cs/\J v) gs w t):AQ P gs w sl t (eF Od P Z Ad Still Mem Am h j By (λg v=>∃o,g=G (Frame.mk EC o k ds .run kd none) cs/\Q o v)):=
 (eF.piece W.fenced z r O W.Qq (W.seen EC y) q (W.ops c u) gZ A H).mono λi n l a=>a.mono λg v ⟨o,τ,d,b⟩=>by
  obtain⟨rfl,_,_,f⟩|⟨_,_,e,_⟩:=b
  .exact⟨o,rfl,(s o).back f⟩
  .cases e
theorem eF.out (W:Xy P L p N host) (z:Gp Ad Z) (r:Gp Still Z) (O:GR P Z Ad Still (fun B t=>PX Ad Still Mem Am B h t) j By) (y:EC=56\/EC=93\/EC=97\/EC=136\/EC=187) (q:(kd==CallKind.early)=false)
  (u:c∈[R2 P,R3 P,S0 P,S1 P,R10 P,R11 P,R15 P,R16 P,A0 P,R21 P,WI P,ZH P,R12 P]) (A:∀v,J v->∀τ d,c.wpIn N m P (WM Q) ⟨tmps,[]⟩ (v.re τ d)) (s:∀o,Dv (Q o))
  (H:eF Od P Z Ad Still Mem Am h j By (λg v=>g=G (Frame.mk EC tmps (.code c::k) ds .run kd none) cs/\J v) gs w t):AQ P gs w sl t (eF Od P Z Ad Still Mem Am h j By (λg v=>∃o todo,g=G (Frame.mk EC o todo ds .returning kd none) cs/\Q o v)):=
 (eF.piece W.fenced z r O W.Qq (W.seen EC y) q (W.ops c u) yF A H).mono λi n l a=>a.mono λg v ⟨o,τ,d,b⟩=>by
  obtain⟨_,e,_⟩|⟨todo,rfl,_,_,f⟩:=b
  .cases e
  .exact⟨o,todo,rfl,(s o).back f⟩
theorem eF.pick {ι:Type} {C:ι->m_->o_->Prop} (H:eF Od P Z Ad Still Mem Am h j By (λg v=>∃x,C x g v) gs w t):∃x,eF Od P Z Ad Still Mem Am h j By (C x) gs w t:=by
 obtain⟨q,n,B,g,v,a,⟨x,c⟩,b⟩:=H;exact⟨x,q,n,B,g,v,a,c,b⟩
theorem eF.fact {F:Prop} (H:eF Od P Z Ad Still Mem Am h j By (λg v=>F/\C g v) gs w t):F/\eF Od P Z Ad Still Mem Am h j By C gs w t:=by
 obtain⟨q,n,B,g,v,a,⟨c,d⟩,b⟩:=H;exact⟨c,q,n,B,g,v,a,d,b⟩
theorem eF.or {C':m_->o_->Prop} (H:eF Od P Z Ad Still Mem Am h j By (λg v=>C g v\/C' g v) gs w t):eF Od P Z Ad Still Mem Am h j By C gs w t\/eF Od P Z Ad Still Mem Am h j By C' gs w t:=by
 obtain⟨q,n,B,g,v,b,a|a,c⟩:=H
 .exact .inl ⟨q,n,B,g,v,b,a,c⟩
 .exact .inr ⟨q,n,B,g,v,b,a,c⟩
end
def Told (f:Y_) (l:List (Nat×n_)):Prop:=∀p∈l,f p.1=p.2
theorem Told.eq {l:List (Nat×n_)} (h:Told f l):A8 f l=f:=NH h
def pM (kv:n_) (pa:f_) (told:n_) (r q0 q2:Nat):List (Nat×n_):=[(0,kv),(1,pv pa),(7,told),(8,pr r),(25,DV q0),(27,DV q2)]
def gK (P:l_) (s:JY) (f:Y_) (cs:Z_):m_:=BJ (kS P f cs s.r)
section
variable {P:l_} {L:h_->Prop} {p:h_->Oper->Bool} {N:Fence} {m:Nat} {host:h_} {Z:Nat->Prop} {Ad:Loc->Prop} {s:JY} {c:Nat} {kv:n_} {pa:f_} {c0:Frame} {cs:Z_}
def Back (Od:Old) (P:l_) (Ad:Loc->Prop) (Z:Nat->Prop) (Fin:n_->o_->Prop) (c0:Frame) (cs:Z_) (gs:Array m_) (w:o_) (t:Trace):Prop:=
 ∃told v B,Fin told v/\gs[0]?=some (G (c0.finish told) cs)/\cu Od P Ad Z B v gs w t
def yf (Od:Old) (P:l_) (Ad:Loc->Prop) (Z:Nat->Prop) (Fin:n_->o_->Prop) (c0:Frame) (cs:Z_) (gs:Array m_) (w:o_) (t:Trace):Prop:=
 ∃Z',(∀x,Z x->Z' x)/\Back Od P Ad Z' Fin c0 cs gs w t
theorem Back.up {Fin:n_->o_->Prop} (h:Back Od P Ad Z Fin c0 cs gs w t):yf Od P Ad Z Fin c0 cs gs w t:=⟨Z,λ_ h=>h,h⟩
theorem Xf {a:List Item} (K:UL P) (b:x.1=(sR P [] s.r).1) (d:x.2=(below x).1::c0::cs) (g:DW (below x)=(56,a,[],.returning,.normal,none,c0::cs)) (h:Yr (below x) [6]=[told]) (j:(below x).1.tmps.size=76):
  ∃f,BJ x=BJ (Vl P s f a told c0 cs):=by
 have e:=at_toldM (l:=[(6,told)]) g h j;refine⟨slot (below x),?_⟩;unfold Vl;rw[K.sRf];have e1:(below x).1=Β (A8 (slot (below x)) [(6,told)]) a:=congrArg Prod.fst e;show G x.1 x.2=G (sR P [] s.r).1 (Β (A8 (slot (below x)) [(6,told)]) a::c0::cs);rw[b,d,e1]
theorem nG (A:E5 P) (W:Xy P L p N host) (E:Env Z Ad s c) (S:Sj P N m kv pa s.n) {x:n_} (hT:Told f (pM kv pa told s.r s.q0 s.q2)) {sl:d_ (W_)}
  (H:eF Od P Z Ad s.Still (IZ c) (λg=>g=c) 0 c (pK P s c (gC P s fc i x)) (λg v=>g=Conc.served (gK P s f (c0::cs)) (commResult (OX s.q0 s.q2) .select 0 x true)/\S.Cd i told x v) gs w t):
  AQ P gs w sl t λBh w' t'=>(Back Od P Ad Z S.Fin c0 cs Bh w' t'\/(∃f' bA,eF Od P Z Ad s.Still (IZ c) (λg=>g=c) 0 c (pK P s c (gC P s fc i x)) (λg v=>g=BJ (f56 (A8 f' (xq kv pa told s.r bA)) (c0::cs) (T12 P) (Qh s.r))/\S.Bc i told bA v) Bh w' t'))\/∃f' Ce bA,eF Od P Z Ad s.Still (IZ c) (λg=>g=c) 0 c (pK P s c (gC P s fc i x)) (λg v=>g=BJ (f56 (A8 f' (slF kv pa Ce s.r bA)) (c0::cs) (T16 P) (Qh s.r))/\S.E i Ce bA v) Bh w' t':=by
 have O:=XW (P:=P) (gC:=gC P s fc i x) E;have J:=Je E.KU;have I:∀n b w t,pK P s c (gC P s fc i x) n b w t->∀d,(λ_=>True:o_->Prop) (w.at d):=λ_ _ _ _ _ _=>trivial
 have e0:Conc.served (gK P s f (c0::cs)) (commResult (OX s.q0 s.q2) .select 0 x true)=BJ (x0 P kv pa told f (c0::cs) s.r s.q0 s.q2 x):=by
  unfold x0
  rw[show A8 f (slS kv pa told s.r)=f from Told.eq λq j=>hT q (by simp only[slS,pM,r_,p_,or_false]at j ⊢;obtain h|h|h|h:=j<;>simp[h])]
  rfl
 rw[e0]at H;refine(H.TJ (sl:=sl) (K:=λ_=>True) I O (DK (A.FU.x1a _ _ _ _ _ _ _ _ _))).bind λgs1 w1 Jz t1 _ H1=>?_
 rw[show run P 12 (x0 P kv pa told f (c0::cs) s.r s.q0 s.q2 x)=x1 P kv pa told f (c0::cs) s.r s.q0 s.q2 x from rfl,at_toldN (l:=slX kv pa told s.r x) (A.FU.x1b _ _ _ _ _ _ _ _ _) (A.FU.x1c _ _ _ _ _ _ _ _ _) (A.FU.x1d _ _ _ _ _ _ _ _ _)]at H1;refine(eF.part (sl:=Jz) W E.under J O (.inl rfl) rfl zF (λv o=>S.serve s.r i told x v _ o) (λu v τ d ⟨f',bA,e,h⟩=>⟨f',bA,e,S.tD _ _ _ _ v τ d h⟩) H1).bind λgs2 w2 X t2 _ R=>?_
 obtain⟨⟨f2,bA⟩,R⟩:=(R.mono (C':=λg v=>∃y:(Y_)×Nat,g=BJ (f56 (A8 y.1 (WU kv pa told s.r x y.2)) (c0::cs) (T10 P) (Qh s.r))/\S.D i told x y.2 v) λg v ⟨u,a,f',bA,e,h⟩=>⟨(f',bA),by rw[a,e];rfl,h⟩).pick;refine(R.TJ (sl:=X) (K:=λ_=>True) I O (I9 (A.FU.x2 _ _ _))).bind λgs3 w3 Y t3 _ H3=>?_
 refine(eF.part (sl:=Y) W E.under J O (.inl rfl) rfl zF (λv o=>S.asked s.r i told x bA v f2 o) (λu v τ d ⟨f',b,e,h⟩=>⟨f',b,e,h.imp (λh=>⟨h.1,S.tDn _ _ _ _ v τ d h.2⟩) λh=>⟨h.1,S.tDb _ _ _ _ v τ d h.2⟩⟩) H3).bind λgs4 w4 NY t4 _ k=>?_
 rcases(k.mono (C':=λg v=>(∃y:Nat->n_,g=BJ (f56 (A8 (A8 y (WU kv pa told s.r x bA)) [(39,.bool true)]) (c0::cs) (T11 P) (Qh s.r))/\S.Db i told x bA v)\/(∃y:Nat->n_,g=BJ (f56 (A8 (A8 y (WU kv pa told s.r x bA)) [(39,.bool false)]) (c0::cs) (T11 P) (Qh s.r))/\S.Dn i told x bA v)) λg v ⟨u,a,f',b,e,h⟩=>by
  obtain⟨rfl,h⟩|⟨rfl,h⟩:=h
  .exact .inr ⟨f',by rw[a,e];rfl,h⟩
  .exact .inl ⟨f',by rw[a,e];rfl,h⟩).or with k|k
 .obtain⟨Q,k⟩:=k.pick;refine(k.TJ (sl:=NY) (K:=λ_=>True) I O (I9 (A.blk.y3 _ _ _))).bind λU w5 G t5 _ M=>?_
  rw[show A8 (A8 Q (WU kv pa told s.r x bA)) [(39,.bool true)]=A8 (A8 (A8 Q (WU kv pa told s.r x bA)) [(39,.bool true)]) (WU kv pa told s.r x bA)from(Told.eq λq j=>by
   simp only[WU,r_,p_,or_false]at j
   obtain h|h|h|h|h|h:=j<;>subst h<;>rfl).symm]at M;refine(eF.part (sl:=G) W E.under J O (.inl rfl) rfl zF (λv o=>S.blocks s.r i told x bA v _ o) (λu v τ d ⟨f',e,h⟩=>⟨f',e,S.tBc _ _ _ v τ d h⟩) M).mono λV w6 t6 C=>?_
  obtain⟨T,C⟩:=(C.mono (C':=λg v=>∃y:Nat->n_,g=BJ (f56 (A8 y (xq kv pa told s.r bA)) (c0::cs) (T12 P) (Qh s.r))/\S.Bc i told bA v) λg v ⟨u,a,f',e,h⟩=>⟨f',by rw[a,e];rfl,h⟩).pick;exact .inl (.inr ⟨T,bA,C⟩)
 obtain⟨Q,k⟩:=k.pick;refine(k.TJ (sl:=NY) (K:=λ_=>True) I O (I9 (A.FU.x3 _ _ _))).bind λU w5 G t5 _ M=>?_
 rw[show A8 (A8 Q (WU kv pa told s.r x bA)) [(39,.bool false)]=A8 (A8 (A8 Q (WU kv pa told s.r x bA)) [(39,.bool false)]) (WU kv pa told s.r x bA)from(Told.eq λq j=>by
  simp only[WU,r_,p_,or_false]at j
  obtain h|h|h|h|h|h:=j<;>subst h<;>rfl).symm]at M;refine(eF.part (sl:=G) W E.under J O (.inl rfl) rfl zF (λv o=>S.tells s.r i told x bA v _ o) (λu v τ d ⟨f',Ce,e,h⟩=>⟨f',Ce,e,S.tE0 _ _ _ v τ d h⟩) M).bind λV w6 Fa t6 _ C=>?_
 obtain⟨⟨T,Ce⟩,C⟩:=(C.mono (C':=λg v=>∃y:(Y_)×n_,g=BJ (f56 (A8 y.1 (xq kv pa y.2 s.r bA)) (c0::cs) (T15 P) (Qh s.r))/\S.E0 i y.2 bA v) λg v ⟨u,a,f',Ce,e,h⟩=>⟨(f',Ce),by rw[a,e];rfl,h⟩).pick;refine(C.TJ (sl:=Fa) (K:=λ_=>True) I O (I9 (A.FU.x4 _ _ _))).bind λgs7 w7 Oy t7 _ H7=>?_
 refine(eF.part (sl:=Oy) W E.under J O (.inl rfl) rfl zF (λv o=>S.ended s.r i Ce bA v T o) (λu v τ d ⟨f',b,e,h⟩=>⟨f',b,e,h.imp (λh=>⟨h.1,S.tF _ v τ d h.2⟩) λh=>⟨h.1,S.tE _ _ _ v τ d h.2⟩⟩) H7).bind λgs8 w8 sl8 t8 _ H8=>?_
 rcases(H8.mono (C':=λg v=>(∃y:Nat->n_,g=BJ (f56 (A8 y (slG kv pa Ce s.r bA true)) (c0::cs) (T16 P) (Qh s.r))/\S.Fin Ce v)\/(∃y:Nat->n_,g=BJ (f56 (A8 y (slF kv pa Ce s.r bA)) (c0::cs) (T16 P) (Qh s.r))/\S.E i Ce bA v)) λg v ⟨u,a,f',b,e,h⟩=>by
  obtain⟨rfl,h⟩|⟨rfl,h⟩:=h
  .exact .inl ⟨f',by rw[a,e];rfl,h⟩
  .exact .inr ⟨f',by rw[a,e];rfl,h⟩).or with z|z
 .obtain⟨F,z⟩:=z.pick;rw[show A8 F (slG kv pa Ce s.r bA true)=A8 (A8 F (slG kv pa Ce s.r bA true)) [(7,Ce),(59,.bool true)]from(Told.eq λq j=>by
   simp only[r_,p_,or_false]at j
   obtain h|h:=j<;>subst h<;>rfl).symm]at z;refine(z.TJ (sl:=sl8) (K:=λ_=>True) I O (DK (A.FU.w1a _ _ _ _))).bind λgsa wa sla ta _ Ha=>?_
  obtain⟨fe,e⟩:=Xf (s:=s) (c0:=c0) (cs:=cs) A.FU (A.FU.w1b Ce _ _ s.r) (A.FU.w1c Ce _ _ s.r) (A.FU.w1d Ce _ _ s.r) (A.FU.w1e Ce _ _ s.r) (A.FU.w1f Ce (A8 F (slG kv pa Ce s.r bA true)) (c0::cs) s.r);rw[show BJ (run P 13 (f56 (A8 (A8 F (slG kv pa Ce s.r bA true)) [(7,Ce),(59,.bool true)]) (c0::cs) (T16 P) (Qh s.r)))=BJ (Fxa.w1 P Ce (A8 F (slG kv pa Ce s.r bA true)) (c0::cs) s.r)from rfl,e]at Ha;exact(oI (sl:=sla) A E Ha).mono λBh w' t' ⟨v,B,k1,k2,k3⟩=>.inl (.inl ⟨Ce,v,B,k1,k2,k3⟩)
 .obtain⟨F,z⟩:=z.pick;exact .now (.inr ⟨F,Ce,bA,z⟩)
theorem LX (x:Frame×Z_):(BJ x).status=.running:=rfl
theorem yB (K:UL P) (d:DW x=(56,xH P,Qh s.r,.run,.normal,none,c0::cs)) (g:Yr x [0,1,7,8,25,27]=[kv,pv pa,told,pr s.r,DV s.q0,DV s.q2]) (j:x.1.tmps.size=76):
  ∃f,Told f (pM kv pa told s.r s.q0 s.q2)/\BJ x=gK P s f (c0::cs)/\Ol P x=some (OX s.q0 s.q2):=by
 have e:=at_toldN (l:=pM kv pa told s.r s.q0 s.q2) d g j;refine⟨A8 (slot x) (pM kv pa told s.r s.q0 s.q2),?_,?_,?_⟩
 .intro q a;simp only[pM,r_,p_,or_false]at a;obtain h|h|h|h|h|h:=a<;>subst h<;>rfl
 .exact congrArg BJ e
 .have b:=K.k1 (A8 (slot x) (pM kv pa told s.r s.q0 s.q2)) (c0::cs) s.r s.q0 s.q2;rw[show A8 (A8 (slot x) (pM kv pa told s.r s.q0 s.q2)) [(25,DV s.q0),(27,DV s.q2)]=A8 (slot x) (pM kv pa told s.r s.q0 s.q2)from Told.eq λq a=>by
   simp only[r_,p_,or_false]at a
   obtain h|h:=a<;>subst h<;>rfl]at b;rw[e];exact b
def VZ (J:o_->Prop) (bB:Nat) (v:o_):Prop:=∃v0,J v0/\Iy v0 v/\bB=v0.heap.size/\v.heap.size=v0.heap.size+1
theorem VZ.tape {bB:Nat}:Dv (VZ J bB):=λ_ _ _ ⟨v0,b,a,c,d⟩=>⟨v0,b,⟨a.1,a.2.1,a.2.2.1,a.2.2.2⟩,c,d⟩
theorem YR (A:E5 P) (W:Xy P L p N host) (M:aO P N m) (E:Env Z Ad s c) {gCx:m_} {s0 s1 s2:n_} {f0:Nat->n_} {Y:Z_} {sl:d_ (W_)}
  (H3:eF Od P Z Ad s.Still (IZ c) (λg=>g=c) 0 c (pK P s c gCx) (λg v=>g=BJ (Frame.mk 97 (TN 9 (A8 f0 [(0,pr s.r),(1,.agg #[s0,s1,s2])])) (.code (A0 P)::V97 P) [] .run .normal none,Y)/\J v) gs w t):
  AQ P gs w sl t λBh w' t'=>∃g4 bB,eF Od P Z Ad s.Still (IZ c) (λg=>g=c) 0 c (pK P s c gCx) (λg v=>g=BJ (xs P g4 Y s.r s.q1 bB (.agg #[s0,s1,s2]))/\VZ J bB v/\Cells v [(R_ bB),(S_ bB 1),(S_ bB 2)] [s0,s1,s2]) Bh w' t':=by
 have O:=XW (P:=P) (gC:=gCx) E;have R:=Je E.KU;have x:∀{y:Frame×Z_},DX P y (DV s.q1)=some ([(S_ s.r 1)],DV s.q1)->RW P (0==0) s.KW s.Still 1 (BJ y) (BJ (BG y (DV s.q1))):=λh=>RW.at h (λw h=>let ⟨_,_,hr⟩:=h.1;(Ky hr).2.1) (OG (s:=s)).t1
 have walk:∀{gs:Array m_} {w:o_} {sl:d_ (W_)} {t:Trace} {J:o_->Prop} {k:Nat} {a I:m_},eF Od P Z Ad s.Still (IZ c) (λg=>g=c) 0 c (pK P s c gCx) (λg v=>g=a/\J v) gs w t->RW P (0==0) s.KW s.Still k a I->AQ P gs w sl t (eF Od P Z Ad s.Still (IZ c) (λg=>g=c) 0 c (pK P s c gCx) (λg v=>g=I/\J v)):=
  λH hw=>H.walk bj4 (λw a h X=>Ju h X) E.ss O hw
 refine(eF.part (sl:=sl) (Q:=λG w'=>∃q bB,G=TN 9 (A8 q (aa0 s.r (.agg #[s0,s1,s2]) bB))/\VZ J bB w'/\Cells w' [(R_ bB),(S_ bB 1),(S_ bB 2)] [s0,s1,s2]) W E.under R O (.inr (.inr (.inl rfl))) rfl zF
  (λv hv τ d=>wpIn_mono (M.box s.r s0 s1 s2 v _ τ d) λe a w' ⟨k1,k2,q,bB,k3,K,k5⟩=>⟨k1,k2,q,bB,k3,⟨v,hv,K.1,K.2⟩,k5⟩) (λG v τ d ⟨q,bB,e,h,V⟩=>⟨q,bB,e,VZ.tape v τ d h,V⟩) H3).bind λU w4 NY t4 _ B=>?_
 obtain⟨⟨g4,bB⟩,B⟩:=(B.mono (C':=λg v=>∃y:(Y_)×Nat,g=BJ (f97 (A8 y.1 (aa0 s.r (.agg #[s0,s1,s2]) y.2)) Y (V97 P))/\VZ J y.2 v/\Cells v [(R_ y.2),(S_ y.2 1),(S_ y.2 2)] [s0,s1,s2]) λg v ⟨G,D,q,bB,e,h⟩=>⟨(q,bB),by rw[D,e];rfl,h⟩).pick;refine(eF.draws (sl:=NY) A.mixed O (A.FU.dr _ _) A.FU.dl B).bind λC w5 F t5 _ o=>?_
 have S:AQ P C w5 F t5 (eF Od P Z Ad s.Still (IZ c) (λg=>g=c) 0 c (pK P s c gCx) (λg v=>g=BJ (xs P g4 Y s.r s.q1 bB (.agg #[s0,s1,s2]))/\VZ J bB v/\Cells v [(R_ bB),(S_ bB 1),(S_ bB 2)] [s0,s1,s2])):=by
  obtain⟨⟨l,z⟩,o⟩:=(o.mono (C':=λg v=>∃y:{ l:List Nat // l∈[[0,1,2,3,4,5],[0,1,2,4,3,5],[0,1,4,2,3,5],[0,4,1,2,3,5],[4,0,1,2,3,5]] },g=BJ (WV P g4 Y s.r bB (.agg #[s0,s1,s2]) y.1)/\VZ J bB v/\Cells v [(R_ bB),(S_ bB 1),(S_ bB 2)] [s0,s1,s2]) λg v ⟨⟨l,z,D⟩,h⟩=>⟨⟨l,z⟩,D,h⟩).pick
  simp only[r_,p_,or_false]at z
  obtain rfl|rfl|rfl|rfl|rfl:=z
  .refine(walk o (RW.AU (A.FU.l1a _ _ _ _ _))).bind λ_ _ b _ _ j=>(walk j (x (A.FU.l1b _ _ _ _ s.q1 _))).bind λ_ _ f _ _ n=>?_
   have:=eF.reads (sl:=f) E.under O (A.FU.l1c _ _ _ _ s.q1 _ s0 s1 s2) (λv h=>h.2) n
   rwa [A.FU.l1d]at this
  .refine(walk o (RW.AU (A.FU.l2a _ _ _ _ _))).bind λ_ _ b _ _ j=>(eF.reads (sl:=b) E.under O (A.FU.l2b _ _ _ _ _ s0 s1 s2) (λv h=>h.2) j).bind λ_ _ f _ _ n=>?_
   have:=walk (sl:=f) n (x (A.FU.l2c _ _ _ _ s.q1 _))
   rwa [A.FU.l2d]at this
  .refine(walk o (RW.AU (A.FU.l3a _ _ _ _ _))).bind λ_ _ b _ _ j=>(eF.reads (sl:=b) E.under O (A.FU.l3b _ _ _ _ _ s0 s1 s2) (λv h=>h.2) j).bind λ_ _ f _ _ n=>(walk n (RW.AU (A.FU.l3c _ _ _ _ _))).bind λ_ _ i _ _ u=>?_
   have:=walk (sl:=i) u (x (A.FU.l3d _ _ _ _ s.q1 _))
   rwa [A.FU.l3e]at this
  .refine(walk o (RW.AU (A.FU.l4a _ _ _ _ _))).bind λ_ _ b _ _ j=>(eF.reads (sl:=b) E.under O (A.FU.l4b _ _ _ _ _ s0 s1 s2) (λv h=>h.2) j).bind λ_ _ f _ _ n=>(walk n (RW.AU (A.FU.l4c _ _ _ _ _))).bind λ_ _ i _ _ u=>?_
   have:=walk (sl:=i) u (x (A.FU.l4d _ _ _ _ s.q1 _))
   rwa [A.FU.l4e]at this
  .refine(walk o (RW.AU (A.FU.l5a _ _ _ _ _))).bind λ_ _ b _ _ j=>(eF.reads (sl:=b) E.under O (A.FU.l5b _ _ _ _ _ s0 s1 s2) (λv h=>h.2) j).bind λ_ _ f _ _ n=>(walk n (RW.AU (A.FU.l5c _ _ _ _ _))).bind λ_ _ i _ _ u=>?_
   have:=walk (sl:=i) u (x (A.FU.l5d _ _ _ _ s.q1 _))
   rwa [A.FU.l5e]at this
 exact S.mono λBh w' t' T=>⟨g4,bB,T⟩
theorem jk (A:E5 P) (W:Xy P L p N host) (M:aO P N m) (E:Env Z Ad s c) (S:Sj P N m kv pa s.n) {x:n_} {bA:Nat} {sl:d_ (W_)}
  (H:eF Od P Z Ad s.Still (IZ c) (λg=>g=c) 0 c (pK P s c (gC P s fc i x)) (λg v=>g=BJ (f56 (A8 f (slF kv pa told s.r bA)) (c0::cs) (T16 P) (Qh s.r))/\S.E i told bA v) gs w t):
  AQ P gs w sl t λBh w' t'=>∃f' An,Told f' (pM kv pa told s.r s.q0 s.q2)/\eF Od P Z Ad s.Still (IZ c) (λg=>g=0) c 0 (ByK P s c (gK P s f' (c0::cs))) (λg v=>g=Conc.served (gC P s fc i x) (commResult (GM s.q1 s.q3) .select 0 An true)/\S.An i told An v) Bh w' t':=by
 have O:=XW (P:=P) (gC:=gC P s fc i x) E;have Q:∀n b w t,pK P s c (gC P s fc i x) n b w t->∀d,(λ_=>True:o_->Prop) (w.at d):=λ_ _ _ _ _ _=>trivial
 refine(H.TJ (sl:=sl) (K:=λ_=>True) Q O (DK (A.FU.cf5 _ _ _ _ _ _ _))).bind λX w1 U t1 _ q=>?_
 obtain⟨⟨a,e,j⟩,q⟩:=(q.mono (C':=λg v=>∃y:n_×n_×n_,g=BJ (x18 P kv pa told f (c0::cs) s.r bA)/\Cells v [(R_ bA),(S_ bA 1),(S_ bA 2)] [y.1,y.2.1,y.2.2]/\S.An i told (.agg #[y.1,y.2.1,y.2.2]) v) λg v ⟨hg,h⟩=>by
  obtain⟨a,e,j,h1,h2⟩:=S.answer i told bA v h
  exact⟨(a,e,j),hg,h1,h2⟩).pick;refine(eF.reads (sl:=U) E.under O (A.FU.cf4 _ _ _ _ _ _ _ a e j) (λv h=>h.1) q).bind λY w2 D t2 _ R=>?_
 refine(R.TJ (sl:=D) (K:=λ_=>True) Q O (DK (A.FU.cf2 _ _ _ _ _ _ _ _))).bind λgs3 w3 F t3 _ G=>?_
 rw[show run P 2 (BG (x18 P kv pa told f (c0::cs) s.r bA) (.agg #[a,e,j]))=x19 P kv pa told f (c0::cs) s.r bA (.agg #[a,e,j])from rfl,at_toldN (l:=[(0,pr s.r),(1,.agg #[a,e,j])]) (A.FU.ce9 _ _ _ _ _ _ _ _) (A.FU.ce8 _ _ _ _ _ _ _ _) (A.FU.ce7 _ _ _ _ _ _ _ _)]at G;refine(YR (sl:=F) A W M E (G.mono (C':=λg v=>g=BJ (Frame.mk 97 (TN 9 (A8 (slot (x19 P kv pa told f (c0::cs) s.r bA (.agg #[a,e,j]))) [(0,pr s.r),(1,.agg #[a,e,j])])) (.code (A0 P)::V97 P) [] .run .normal none,Y18 P kv pa told f (c0::cs) s.r bA (.agg #[a,e,j]))/\S.An i told (.agg #[a,e,j]) v) λg v h=>⟨h.1,h.2.2⟩)).bind λgs7 w7 Oy t7 _ u=>?_
 obtain⟨o,bB,u⟩:=u;obtain⟨J,z,C,B⟩:=yB (s:=s) A.FU (A.FU.v3b kv pa told f o (c0::cs) s.r s.q0 s.q1 s.q2 bA bB (.agg #[a,e,j])) (A.FU.v3c _ _ _ _ _ _ _ _ _ _ _ _ _) (A.FU.v3d _ _ _ _ _ _ _ _ _ _ _ _ _);have hw:RW P (0==0) s.KW s.Still 48 (BJ (v0 P kv pa told f o (c0::cs) s.r s.q1 bA bB (.agg #[a,e,j]))) (BJ (v3 P kv pa told f o (c0::cs) s.r s.q0 s.q1 s.q2 bA bB (.agg #[a,e,j]))):=
  ((((RW.AU (A.FU.v1a _ _ _ _ _ _ _ _ _ _ _)).trans (RW.at (A.FU.v1b _ _ _ _ _ _ _ s.q0 _ _ _ _) (OG (s:=s)).r0 (OG (s:=s)).t0)).trans (RW.AU (A.FU.v2a _ _ _ _ _ _ _ _ _ _ _ _))).trans (RW.at (A.FU.v2b _ _ _ _ _ _ _ _ _ s.q2 _ _ _) (OG (s:=s)).r2 (OG (s:=s)).t2)).trans (RW.AU (A.FU.v3a _ _ _ _ _ _ _ _ _ _ _ _ _));have I:=RW.seat (k:=0) (home:=(·=gK P s J (c0::cs))) (cases:=OX s.q0 s.q2) (shape:=.select) (LX _) ⟨_,#[],C,LX _,zF,λw _=>IW B w⟩ hw;have V:BJ (v0 P kv pa told f o (c0::cs) s.r s.q1 bA bB (.agg #[a,e,j]))=Conc.served (BJ (xs P o (Y18 P kv pa told f (c0::cs) s.r bA (.agg #[a,e,j])) s.r s.q1 bB (.agg #[a,e,j]))) (commResult (jK s.q1 (.agg #[a,e,j])) .send ((0:Nat):Int) undef false):=by
  unfold v0
  rw[Tz]
  rfl
 rw[V]at I;refine(eF.give (sl:=Oy) (U2 E (.agg #[a,e,j])) (λw h=>yN h) rfl (λw=>cZ (A.FU.xs _ _ _ _ _ _) w) I (u.mono λg v h=>⟨h.1,let ⟨v0,k1,k2,_⟩:=h.2.1;S.grow _ _ _ _ _ k1 k2⟩)).mono λBh w' t' T=>⟨J,_,z,T⟩
end
def EN (v:o_) (pb:Nat) (ob:Obj) (n:Nat):Array Obj:=Array.ofFn (n:=n) λx=>if x.1=pb then ob else(v.heap[x.1]?).getD DL
theorem G9 {n x:Nat} (a:x<n):(EN v pb ob n)[x]?=some (if x=pb then ob else(v.heap[x]?).getD DL):=by
 simp[EN,a]
def LZ (pb bB y:Nat):Prop:=y=pb\/bB<=y
def LL (pb bB:Nat) (l:Loc):Prop:=∃a:f_,l=.cell a/\LZ pb bB a.block
section
variable {P:l_} {L:h_->Prop} {p:h_->Oper->Bool} {N:Fence} {m:Nat} {host:h_} {Z:Nat->Prop} {Ad:Loc->Prop} {s:JY} {c:Nat} {kv:n_} {pa:f_} {c0:Frame} {cs:Z_}
theorem au.bo7 {v0 w2:o_} {bB:Nat} {ob':Obj} (T:au Od Z v w) (B:∀r,Z r->r<v.heap.size) (z:Iy v0 v) (D:bB=v0.heap.size) (F:v.heap.size=v0.heap.size+1) (q:¬Z bB/\¬Od.dead bB) (E:v0.heap[pb]?=some ob) (n:¬Z pb/\¬Od.dead pb) (y:ob'.plain=true)
  (u:CP (λx=>Z x\/(x=pb\/bB<=x)) w w2) (A:w2.heap[pb]?=some ob'):
  au Od (λx=>Z x\/(bB<=x/\x<w2.heap.size)) { v0 with heap:=EN v0 pb ob' w2.heap.size } w2:=by
 subst D;have m:=(y_.1 E).1;have l:v0.heap.size<=w2.heap.size:=by have:=u.size;have:=T.size;omega
 have i:∀x,Z x->x<v0.heap.size:=λx a=>by
  have:=B x a
  have:x≠v0.heap.size:=λe=>q.1 (e ▸ a)
  omega
 have f:∀x,Od.dead x->x<v0.heap.size:=λx a=>by
  have:=(y_.1 (T.Kt x a)).1
  have:x≠v0.heap.size:=λe=>q.2 (e ▸ a)
  omega
 have c:∀x,x<v0.heap.size->x≠pb->(EN v0 pb ob' w2.heap.size)[x]?=v.heap[x]?:=λx a k=>by
  rw[G9 zD,ru k,z.2.1 x a,v_ a];rfl
 refine⟨by simp[EN],λx a b=>?_,λx a g=>?_,λx o b=>?_,?_,?_,λx a=>?_,λx a=>?_,λx a h=>?_⟩
 .by_cases g:x<w2.heap.size
  .have d:x<v0.heap.size:=Nat.lt_of_not_le λh=>a (.inr ⟨h,g⟩)
   by_cases e:x=pb
   .subst e;rw[A];show(EN v0 x ob' w2.heap.size)[x]?=_;rw[G9 g,rC rfl]
   .show(EN v0 pb ob' w2.heap.size)[x]?=_;have j:¬Z x:=λh=>a (.inl h)
    rw[c x d e,T.same x j b];exact(u.same x λh=>h.elim j λh=>h.elim e λh=>zD).symm
  .rw[Array.getElem?_eq_none (show w2.heap.size<=x by omega)];exact Array.getElem?_eq_none (by show(EN v0 pb ob' w2.heap.size).size<=x;simp only[EN,Array.size_ofFn];omega)
 .show(EN v0 pb ob' w2.heap.size)[x]?=_;obtain a|a:=a
  .have d:=i x a;rw[c x d (λe=>n.1 (e ▸ a))];exact T.dead x a zD
  .rw[G9 a.2,ru zD,Array.getElem?_eq_none a.1];rfl
 .have b:(EN v0 pb ob' w2.heap.size)[x]?=some o:=b;have g:x<w2.heap.size:=by have:=(y_.1 b).1;simpa [EN]using this
  by_cases e:x=pb
  .rw[G9 g,rC e]at b;rw[<-x_ b];exact y
  .by_cases d:x<v0.heap.size
   .rw[c x d e]at b;exact T.plain x o b
   .rw[G9 g,ru e,Array.getElem?_eq_none zD]at b;rw[<-x_ b];rfl
 .exact(z.2.2.1.symm.trans T.os).trans u.os.symm
 .exact(z.2.2.2.symm.trans T.output).trans u.output.symm
 .show(EN v0 pb ob' w2.heap.size)[x]?=_;rw[c x (f x a) (λe=>n.2 (e ▸ a))];exact T.Kt x a
 .have:=f x a;rw[u.same x λh=>h.elim (T.Zt x a) λh=>h.elim (λe=>n.2 (e ▸ a)) λh=>by omega];exact T.kept x a
 .have:=f x a;exact h.elim (T.Zt x a) λh=>zD
theorem Z8 (A:E5 P) (W:Xy P L p N host) (M:aO P N m) (E:Env Z Ad s c) (S:Sj P N m kv pa s.n) (hsv:s.sv=Va pa) {x:n_} {bA:Nat} {sl:d_ (W_)}
  (H:eF Od P Z Ad s.Still (IZ c) (λg=>g=c) 0 c (pK P s c (gC P s fc i x)) (λg v=>g=BJ (f56 (A8 f (xq kv pa told s.r bA)) (c0::cs) (T12 P) (Qh s.r))/\S.Bc i told bA v) gs w t):
  AQ P gs w sl t (yf Od P Ad Z S.Fin c0 cs):=by
 have O:=XW (P:=P) (gC:=gC P s fc i x) E;have hj:∀n b w t,pK P s c (gC P s fc i x) n b w t->∀d,(λ_=>True:o_->Prop) (w.at d):=λ_ _ _ _ _ _=>trivial
 refine(H.TJ (sl:=sl) (K:=λ_=>True) hj O (DK (A.blk.a13 _ _ _ _ _ _ _))).bind λgs1 w1 Jz t1 _ H1=>?_
 obtain⟨⟨x0,u,fn,j,o⟩,H1⟩:=(H1.mono (C':=λg v=>∃y:Int×Int×Fn×X_×X_,g=BJ (x13 P kv pa told f (c0::cs) s.r bA)/\Cells v [(R_ bA),(S_ bA 1),(S_ bA 2)] [a_ y.1,a_ y.2.1,.func y.2.2.1 y.2.2.2.1 y.2.2.2.2]/\S.Bl i told v) λg v ⟨hg,h⟩=>by
  obtain⟨x0,u,fn,j,o,h1,h2⟩:=S.blocked i told bA v h
  exact⟨(x0,u,fn,j,o),hg,h1,h2⟩).pick;refine(eF.reads (sl:=Jz) E.under O (A.blk.b13 _ _ _ _ _ _ _ (a_ x0) (a_ u) (.func fn j o)) (λv h=>h.1) H1).bind λgs2 w2 sl2 t2 _ H2=>?_
 refine(H2.TJ (sl:=sl2) (K:=λ_=>True) hj O (DK (A.blk.a14 _ _ _ _ _ _ _ _))).bind λgs3 w3 sl3 t3 _ H3=>?_
 rw[show run P 2 (BG (x13 P kv pa told f (c0::cs) s.r bA) (.agg #[a_ x0,a_ u,.func fn j o]))=x14 P kv pa told (Pz x0 u fn j o) f (c0::cs) s.r bA from rfl,at_toldN (l:=[(0,pr s.r),(1,Pz x0 u fn j o)]) (A.blk.b14 _ _ _ _ _ _ _ _) (A.blk.c14 _ _ _ _ _ _ _ _) (A.blk.d14 _ _ _ _ _ _ _ _)]at H3;refine(YR (sl:=sl3) (J:=S.Bl i told) A W M E (H3.mono λg v h=>⟨h.1,h.2.2⟩)).bind λgs7 G Oy t7 _ H7=>?_
 obtain⟨X,bB,H7⟩:=H7;obtain⟨q,n,B,g,v,h1,⟨rfl,⟨v0,hBl,gr,hbB,Cb⟩,z⟩,U,hZ,D⟩:=H7;obtain⟨F,C,R,hp1,hp2,hback⟩:=S.bj5 i told v0 hBl;obtain⟨b,hb,hBy⟩:=D.idle;have zH:s.KS G:=hBy.1.1;have G1:=U2 (P:=P) E (Pz x0 u fn j o);refine(Yu (Am:=λg=>g=c) G1.leans G1.Px G1.lasts G1.meets G1.zW G1.zV rfl (es:=#[]) (n+sumTo gs7.size q+1) n gs7 _ G Oy t7 q B zD h1 rfl D (G1.opens G zH) (λd=>cZ (A.FU.xs _ _ _ _ _ _) (G.at d)) zF).bind λgs8 Y sl8 t8 _ Mt=>?_
 obtain⟨q8,g₂,d,k',m1,m2,m3,m4,m5,rfl,m7,m8,m9,m10,m11⟩:=Mt;subst m3;have hK':s.KS ((G.at d).setChan s.q1 0 #[] false (k'+1) (k'+1) false):=G1.keeps G d (k'+1) zH;generalize hw8:(G.at d).setChan s.q1 0 #[] false (k'+1) (k'+1) false=Y at*;have h8:∀y,y≠s.q1->Y.heap[y]?=G.heap[y]?:=λy T=>by rw[<-hw8];exact JQ (ik T)
 have h8s:Y.heap.size=G.heap.size:=by rw[<-hw8];exact Jv
 have h8o:CP Z G Y:=by rw[<-hw8];exact MX (E.zq ab4) G d (k'+1) false
 obtain⟨kq,hkq⟩:=hK'.2.2 s.q3 ZG;have hpl:=(y_.1 hp1).1;have I:v.heap[pa.block]?=some (N_ F C):=by rw[gr.2.1 _ hpl];exact hp1
 have Q:¬Z pa.block/\¬Od.dead pa.block:=by
  refine⟨λh=>?_,λh=>?_⟩
  .rw[U.dead _ h zD]at I;simp[DL]at I
  .rw[U.Kt _ h]at I;simp[DL]at I
 have hbz:¬Z bB/\¬Od.dead bB:=⟨(U.cell z.1).2.1,U.Xo z.1⟩;have V:∀y,(y=pa.block\/bB<=y)->¬Z y:=λy T hz=>by
  obtain rfl|T:=T
  .exact Q.1 hz
  .have:=hZ y hz;have:y≠bB:=λe=>hbz.1 (e ▸ hz)
   omega
 have hpw:Y.heap[pa.block]?=some (N_ F C):=by
  rw[h8 pa.block (λe=>Q.1 (by rw[e];exact E.zq ab4)),<-U.same _ Q.1 Q.2];exact I
 have hbw:bB<Y.heap.size:=by rw[h8s,<-U.size];omega
 have hLs:∀l,(LL pa.block bB) l->¬Ad l:=λl ⟨a,e,ha⟩ h=>by subst e;exact V _ ha (E.under.1 a h)
 have hLt:∀l,(LL pa.block bB) l->¬s.Still l:=λl ⟨a,e,ha⟩ h=>by subst e;exact V _ ha ((Je E.KU).1 a h)
 have hLW:∀l,LM s.r s.pre l->¬(LL pa.block bB) l:=λl h hl=>hLs l hl (E.ofw l h)
 have hWL:∀l,LM s.r s.pre l->(λl=>Ad l\/LL pa.block bB l) l/\¬(λl=>s.Still l\/LL pa.block bB l) l:=λl h=>⟨.inl (E.ofw l h),λhs=>hs.elim (λhs=>(E.w l h).2 hs) (hLW l h)⟩
 have hnr:¬(LZ pa.block bB) s.r:=λh=>V _ h (E.KU _ (by simp[JY.own]))
 have HX:=WA (Zl:=(LZ pa.block bB)) (cs:=F) (TK:=C) (p:=R) (sa:=pa.add 5) (.inl rfl);have HP:Ns P (λy=>y=s.r\/(LZ pa.block bB) y) (λl=>Ad l\/LL pa.block bB l) (λl=>s.Still l\/LL pa.block bB l) (λg=>g=c) c s.r s.pre 257 (Fg P s) (fG P c s.r s.pre 257 (Fg P s) (λl=>Ad l\/LL pa.block bB l) (λl=>s.Still l\/LL pa.block bB l) (LZ pa.block bB) (Jk F C (pa.add 5) R)) (Jk F C (pa.add 5) R):=
  bb9 (.inl rfl) (λ_ h=>.inr h) hnr hWL (λa ha=>⟨.inr ⟨a,rfl,ha⟩,.inr ⟨a,rfl,ha⟩⟩) E.c0 rfl HX;have hwalk:Ik P s.r s.pre 257 (LZ pa.block bB) (Fg P s).gR (Jk F C (pa.add 5) R) (66+1) (Conc.served (gC P s fc i x) (commResult (GM s.q1 s.q3) .select 0 (Pz x0 u fn j o) true)) Y:=by
  have:=wO (Zl:=(LZ pa.block bB)) (S0:=bB) (cs:=F) (TK:=C) (p:=R) (pa:=DV s.q0) (pb:=DV s.q1) (pc:=DV s.q2) (pd:=DV s.q3) (A.back s.b5 s.b2 s.b3 s.r s.q0 s.q1 s.q3 (pa.add 5) s.n) (.inl rfl) (λy T=>.inr T) (by show pa.block<bB;omega) hp2 fc i x x0 u fn j o hpw hbw
  unfold gC Fg outs
  rw[hsv]
  exact this
 have hby:ByX P s c (fG P c s.r s.pre 257 (Fg P s) (λl=>Ad l\/LL pa.block bB l) (λl=>s.Still l\/LL pa.block bB l) (LZ pa.block bB) (Jk F C (pa.add 5) R)) (Jk F C (pa.add 5) R) kq (66+1+((Fg P s).k1+(Fg P s).k2+(Fg P s).k3+(Fg P s).k4+(Fg P s).nF+(Fg P s).nP+10)) (Conc.served (gC P s fc i x) (commResult (GM s.q1 s.q3) .select 0 (Pz x0 u fn j o) true)) Y t8:=
  ⟨.inl ⟨⟨m10,m9.knL (λl ⟨a,e,_⟩=>by rw[e];rfl) hLs hLt E.ss⟩,hK'.1,m9.hears c (.inr rfl),66,rfl,hwalk⟩,hkq,hK'.2.1⟩;have D8:Duo P (λl=>Ad l\/LL pa.block bB l) (λl=>s.Still l\/LL pa.block bB l) (λg=>g=0) (λg=>g=c) B 0 c (ByX P s c (fG P c s.r s.pre 257 (Fg P s) (λl=>Ad l\/LL pa.block bB l) (λl=>s.Still l\/LL pa.block bB l) (LZ pa.block bB) (Jk F C (pa.add 5) R)) (Jk F C (pa.add 5) R) kq) _ gs8 Y t8 q8:=
  ⟨ik E.c0,.inl rfl,λg hg=>.inl hg,⟨_,m2,hby⟩,m7,m8,(m11.fewer (LV:=λg=>g=0) λg hg=>.inl hg).cj8 hLs,by rw[h8s];exact D.size⟩;have Iu:∀y,(y=s.r\/(LZ pa.block bB) y)->(Z y\/(LZ pa.block bB) y):=λy T=>T.imp (λe=>by rw[e];exact E.KU _ (by simp[JY.own])) id
 have hq0:∀y,s.own y->y≠s.r->¬(y=s.r\/(LZ pa.block bB) y):=λy ho Cm h=>h.elim Cm λh=>V y h (E.KU y ho)
 have OB:=rZ (Z':=λy=>Z y\/(LZ pa.block bB) y) (k:=kq) A.done E.ok E.c0 HP (.inl rfl) Iu hWL (λy h=>.inl (E.KU y h)) hq0;have e8:Conc.served (BJ (xs P X (Y13 P kv pa told (Pz x0 u fn j o) f (c0::cs) s.r bA) s.r s.q1 bB (Pz x0 u fn j o))) (commResult (jK s.q1 (Pz x0 u fn j o)) .send ((0:Nat):Int) undef false)=BJ (vB P kv pa told (Pz x0 u fn j o) f X (c0::cs) s.r s.q1 bA bB):=by
  rw[Tz];rfl
 have m1':gs8[0]?=some (BJ (vB P kv pa told (Pz x0 u fn j o) f X (c0::cs) s.r s.q1 bA bB)):=by rw[<-e8];exact m1
 refine(Hw (J:=λ_=>True) (λ_ _ _ _ _ _=>trivial) OB 16 (DK (A.blk.w4a kv pa told f X (c0::cs) s.r s.q1 bA bB (Pz x0 u fn j o))) m1' D8).bind λgs9 w9 sl9 t9 _ ⟨q9,n9,B9,h9,o9,_,D9⟩=>?_
 obtain⟨fe,ee⟩:=Xf (s:=s) (c0:=c0) (cs:=cs) A.FU (A.blk.w4b kv pa told f X (c0::cs) s.r s.q1 bA bB (Pz x0 u fn j o)) (A.blk.w4c kv pa told f X (c0::cs) s.r s.q1 bA bB (Pz x0 u fn j o)) (A.blk.w4d kv pa told f X (c0::cs) s.r s.q1 bA bB (Pz x0 u fn j o)) (A.blk.w4e kv pa told f X (c0::cs) s.r s.q1 bA bB (Pz x0 u fn j o)) (A.blk.w4f kv pa told f X (c0::cs) s.r s.q1 bA bB (Pz x0 u fn j o));have h9':gs9[0]?=some (BJ (Vl P s fe (bs6 P) told c0 cs)):=by rw[<-ee];exact h9
 refine(Y8 (Z:=λy=>Z y\/(LZ pa.block bB) y) (Ad:=Ad) A E.ok E.c0 HP (.inl rfl) Iu hWL (λy h=>.inl (E.KU y h)) hq0 (λl hl h=>h.elim (E.ss l hl) λh=>hLt l h hl) (λy h=>h.elim (Vu y) λ⟨_,e,_⟩=>by cases e) (λl h h'=>h.resolve_right λhl=>h' (.inr hl)) (λ_ _ h=>h) h9' D9).mono λBh w' t' cq8=>?_
 obtain⟨q',B',j1,j2,j3,j4,j5,j6⟩:=cq8;have bl3:CP (λy=>Z y\/(y=pa.block\/bB<=y)) G w':=((h8o.sub λ_ h=>.inl h).trans o9).trans j2;have TW:=U.bo7 hZ gr hbB Cb hbz hp1 Q (ob':=Vk F C (pa.add 5) R) rfl bl3 j6;have hle:v0.heap.size<=w'.heap.size:=by have:=bl3.size;have:=U.size;omega
 refine⟨λy=>Z y\/(bB<=y/\y<w'.heap.size),λ_ h=>.inl h,told,{ v0 with heap:=EN v0 pa.block (Vk F C (pa.add 5) R) w'.heap.size },B',hback _ ⟨?_,λy T Cm=>?_,?_,rfl,rfl⟩,j1,q',TW,λr hr=>?_,j3,j4,j5⟩
 .simp[EN];exact hle
 .show(EN v0 pa.block _ w'.heap.size)[y]?=_;rw[G9 zD,ru Cm,v_ T];rfl
 .show(EN v0 pa.block _ w'.heap.size)[pa.block]?=_;rw[G9 zD,rC rfl]
 .show r<(EN v0 pa.block _ w'.heap.size).size;simp only[EN,Array.size_ofFn];obtain hr|hr:=hr
  .have:=hZ r hr;have:=bl3.size;have:=U.size;omega
  .exact hr.2
theorem bo4 (S:Sj P N m kv pa s.n) (e:s.sv=Va pa) (told:n_):ai1 P N m s.r s.sv s.n (λi=>S.I i told) (λi x=>S.Cd i told x) (S.Bd told) where
 wp:=λi v f c a b τ d=>by rw[e];exact S.step s.r i told v f c a b τ d
 tI:=λi=>S.tI i told
 tC:=λi x=>S.tC i told x
 tB:=S.tB told
theorem af9 (b:Told f (pM kv pa told s.r s.q0 s.q2)):A8 f (slS kv pa told s.r)=f:=
 Told.eq λq a=>b q (by simp only[slS,pM,r_,p_,or_false]at a ⊢;obtain h|h|h|h:=a<;>simp[h])
theorem Ϧ (A:E5 P) (W:Xy P L p N host) (E:Env Z Ad s c) (S:Sj P N m kv pa s.n) (hT:Told f (pM kv pa told s.r s.q0 s.q2)) {sl:d_ (W_)}
  (H:eF Od P Z Ad s.Still (λg=>g=0) (λg=>g=c) 0 c (ByT P s c kq) (λg v=>g=Conc.served (gK P s f (c0::cs)) (commResult (OX s.q0 s.q2) .select 1 (b_ 2) true)/\S.Bd told v) gs w t):
  AQ P gs w sl t (Back Od P Ad Z S.Fin c0 cs):=by
 have O:=ah9 (P:=P) (k:=kq) A.done E;have C:∀n b w t,ByT P s c kq n b w t->∀d,(λ_=>True:o_->Prop) (w.at d):=λ_ _ _ _ _ _=>trivial
 have F:Conc.served (gK P s f (c0::cs)) (commResult (OX s.q0 s.q2) .select 1 (b_ 2) true)=BJ (n0 P kv pa told f (c0::cs) s.r s.q0 s.q2 2):=by
  unfold n0
  rw[af9 hT]
  rfl
 rw[F]at H;refine(H.TJ (sl:=sl) (K:=λ_=>True) C O (DK (A.FU.n1a _ _ _ _ _ _ _ _))).bind λG w1 D X _ x=>?_
 rw[at_toldN (l:=slS kv pa told s.r) (A.FU.n1b _ _ _ _ _ _ _ _) (A.FU.n1c _ _ _ _ _ _ _ _) (A.FU.n1d _ _ _ _ _ _ _ _)]at x;refine(eF.part (sl:=D) W E.under (Je E.KU) O (.inl rfl) rfl zF (λv Q=>S.bad s.r told v _ Q) (λR v τ d ⟨j,a,e,h⟩=>⟨j,a,e,S.tF _ v τ d h⟩) x).bind λI w2 q Y _ i=>?_
 obtain⟨⟨o,a⟩,i⟩:=(i.mono (C':=λg v=>∃y:(Y_)×n_,g=BJ (f56 (A8 y.1 [(7,y.2)]) (c0::cs) (T21 P) (Qh s.r))/\S.Fin y.2 v) λg v ⟨R,M,j,a,e,h⟩=>⟨(j,a),by rw[M,e];rfl,h⟩).pick;refine(i.TJ (sl:=q) (K:=λ_=>True) C O (DK (A.FU.w3a _ _ _ _))).bind λJ wa u ta _ z=>?_
 obtain⟨U,e⟩:=Xf (s:=s) (c0:=c0) (cs:=cs) A.FU (A.FU.w3b a _ _ s.r) (A.FU.w3c a _ _ s.r) (A.FU.w3d a _ _ s.r) (A.FU.w3e a _ _ s.r) (A.FU.w3f a o (c0::cs) s.r);rw[show BJ (run P 12 (f56 (A8 o [(7,a)]) (c0::cs) (T21 P) (Qh s.r)))=BJ (Fxa.w3 P a o (c0::cs) s.r)from rfl,e]at z;exact(Wv (sl:=u) A E z).mono λT w' V ⟨v,B,k1,k2,k3⟩=>⟨a,v,B,k1,k2,k3⟩
theorem nC (A:E5 P) (E:Env Z Ad s c) (S:Sj P N m kv pa s.n) (z:Told f (pM kv pa told s.r s.q0 s.q2)) {sl:d_ (W_)}
  (H:eF Od P Z Ad s.Still (λg=>g=0) (λg=>g=c) 0 c (ByT P s c kq) (λg v=>g=Conc.served (gK P s f (c0::cs)) (commResult (OX s.q0 s.q2) .select 1 (b_ 0) true)/\S.I s.n told v) gs w t):
  AQ P gs w sl t (Back Od P Ad Z S.Fin c0 cs):=by
 have O:=ah9 (P:=P) (k:=kq) A.done E;have l:∀n b w t,ByT P s c kq n b w t->∀d,(λ_=>True:o_->Prop) (w.at d):=λ_ _ _ _ _ _=>trivial
 have i:Conc.served (gK P s f (c0::cs)) (commResult (OX s.q0 s.q2) .select 1 (b_ 0) true)=BJ (n0 P kv pa told f (c0::cs) s.r s.q0 s.q2 0):=by
  unfold n0
  rw[af9 z]
  rfl
 rw[i]at H;refine(H.TJ (sl:=sl) (K:=λ_=>True) l O (DK (A.FU.w2a _ _ _ _ _ _ _ _))).bind λj y a u _ h=>?_
 obtain⟨p,e⟩:=Xf (s:=s) (c0:=c0) (cs:=cs) A.FU (A.FU.w2b kv pa told _ _ s.r s.q0 s.q2) (A.FU.w2c kv pa told _ _ s.r s.q0 s.q2) (A.FU.w2d kv pa told _ _ s.r s.q0 s.q2) (A.FU.w2e kv pa told _ _ s.r s.q0 s.q2) (A.FU.w2f kv pa told f (c0::cs) s.r s.q0 s.q2);rw[show BJ (run P 32 (n0 P kv pa told f (c0::cs) s.r s.q0 s.q2 0))=BJ (Fxa.w2 P kv pa told f (c0::cs) s.r s.q0 s.q2)from rfl,e]at h;exact(Wv (sl:=a) A E h).mono λo x q ⟨v,B,k1,k2,k3⟩=>⟨told,v,B,S.spent _ _ k1,k2,k3⟩
theorem vI (A:E5 P) (W:Xy P L p N host) (M:aO P N m) (E:Env Z Ad s c) (S:Sj P N m kv pa s.n) (hn:s.n<=1000) (hsv:s.sv=Va pa):
  ∀(k:Nat) (i:Int) (told:n_) (f fK:Y_) (gs:Array m_) (w:o_) (sl:d_ (W_)) (t:Trace),(s.n-i).toNat<=k->0<=i->i<=s.n->Told fK (pM kv pa told s.r s.q0 s.q2)->
  eF Od P Z Ad s.Still (IZ c) (λg=>g=0) c 0 (ByK P s c (gK P s fK (c0::cs))) (λg v=>g=BJ (LH P (A8 f (NY s.r s.sv s.n i)) (U9 P s.b5 s.b2 s.b3 s.r s.sv s.n))/\S.I i told v) gs w t->
  AQ P gs w sl t (yf Od P Ad Z S.Fin c0 cs):=by
 intro k
 induction k using Nat.strongRecOn with
 |_ k ih=>
  intro i told f fK gs w sl t hk h0 hle Y H
  have F:=A.child s.b5 s.b2 s.b3 s.r s.q0 s.q1 s.q2 s.q3 s.sv s.n
  have OK:=su (P:=P) (gS:=gK P s fK (c0::cs)) E
  refine(wJ F OG (bo4 S hsv told) hn W.fenced E.under (Je E.KU) xQ (λw a h B=>Ju h B) E.ss OK W.Qq (W.seen 136 zF) (W.ops _ zF) h0 k i f gs w sl t hk (Int.le_refl _) hle H).bind λgs1 w1 T t1 _ j=>?_
  obtain j|j:=j.or
  ·
   obtain⟨⟨b,l,x⟩,j⟩:=(j.mono (C':=λg v=>∃y:Int×(Y_)×n_,(i<=y.1/\y.1<s.n)/\g=BJ (k3 P s.q0 s.q3 (A8 y.2.1 (Fa s.r s.sv s.n y.1 1 y.2.2)) (U9 P s.b5 s.b2 s.b3 s.r s.sv s.n))/\S.Cd y.1 told y.2.2 v) λg v ⟨b,l,x,k1,k2,k3,k4⟩=>⟨(b,l,x),⟨k1,k2⟩,k3,k4⟩).pick;obtain⟨⟨hi0,hi1⟩,j⟩:=j.fact;refine(eF.give (sl:=T) (vT E x) (λw h=>al9 h) (LX _) (λw=>IW (F.s16 l _ b x) w) (wG F OG l _ b x) j).bind λz w2 o t2 _ u=>?_
   refine(nG (sl:=o) A W E S Y u).bind λgs3 w3 D t3 _ q=>?_
   obtain(q|⟨f3,bA,q⟩)|⟨f3,J,bA,q⟩:=q
   .exact .now q.up
   .exact Z8 (sl:=D) A W M E S hsv q
   refine(jk (sl:=D) A W M E S q).bind λgs4 w4 NY t4 _ O=>?_
   obtain⟨f4,An,hT4,O⟩:=O;have U:=su (P:=P) (gS:=gK P s f4 (c0::cs)) E;obtain⟨f5,hw5⟩:=Zm (main:=c==0) (K:=s.KW) (Still:=s.Still) (A.ans s.r s.q0 s.q1 s.q3 s.sv s.n) l (U9 P s.b5 s.b2 s.b3 s.r s.sv s.n) b x An;refine(O.walk (sl:=NY) xQ (λw a h B=>Ju h B) E.ss U hw5).bind λgs5 w5 sl5 t5 _ H5=>?_
   refine(eF.out (sl:=sl5) (Q:=λtm w'=>∃g,tm=TN 49 (A8 g [(6,.bool true)])/\S.I (b+1) J w') W E.under (Je E.KU) U zF rfl zF (λv hv=>by rw[hsv];exact S.mf s.q1 s.q3 b J An v f5 hv zD hi1) (λtm v τ d ⟨g,e,h⟩=>⟨g,e,S.tI _ _ v τ d h⟩) H5).bind λgs6 w6 Fa t6 _ R=>?_
   obtain⟨⟨V,td⟩,R⟩:=(R.mono (C':=λg v=>∃y:(Y_)×List Item,g=BJ (a2 P s.q0 s.q1 s.q3 x (A8 l (Fxa.Fa s.r s.sv s.n b 1 x)) y.1 (U9 P s.b5 s.b2 s.b3 s.r s.sv s.n) y.2)/\S.I (b+1) J v) λg v ⟨tm,G,hg,V,e,h⟩=>⟨(V,G),by rw[hg,e];rfl,h⟩).pick;obtain⟨f7,C⟩:=oU (main:=c==0) (K:=s.KW) (Still:=s.Still) (A.ans s.r s.q0 s.q1 s.q3 s.sv s.n) l V (U9 P s.b5 s.b2 s.b3 s.r s.sv s.n) td b x;rw[show IntKind.i64.wrap (b+1)=b+1 by simp[IntKind.wrap,IntKind.bits,IntKind.signed];omega]at C;refine(R.walk (sl:=Fa) xQ (λw a h B=>Ju h B) E.ss U C).bind λX w7 Oy t7 _ H7=>?_
   exact ih (s.n-(b+1)).toNat zD (b+1) J f7 f4 X w7 Oy t7 (w_ _) zD zD hT4 H7
  .obtain j|j:=j.or
   ·
    obtain⟨⟨b,l,x⟩,j⟩:=(j.mono (C':=λg v=>∃y:Int×(Y_)×n_,g=BJ (e3 P s.q2 s.q3 (A8 y.2.1 (Fa s.r s.sv s.n y.1 2 y.2.2)) (U9 P s.b5 s.b2 s.b3 s.r s.sv s.n))/\S.Bd told v) λg v ⟨b,l,x,k1,k2⟩=>⟨(b,l,x),k1,k2⟩).pick;refine(eF.last (sl:=T) 2 E (LX _) (λw=>IW (F.e16 l _ b x) w) (ji F l b x) j).bind λz w2 o t2 _ ⟨kq,u⟩=>?_
    exact(Ϧ (sl:=o) A W E S Y u).mono λ_ _ _ h=>h.up
   ·
    obtain⟨l,j⟩:=j.pick;refine(eF.last (sl:=T) 0 E (LX _) (λw=>IW (F.d16 l _ s.n) w) (Zk F l s.n) j).bind λz w2 o t2 _ ⟨kq,u⟩=>?_
    exact(nC (sl:=o) A E S Y u).mono λ_ _ _ h=>h.up
end
end Go.Fxa
