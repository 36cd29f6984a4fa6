/- The rounds: the child steps, c -/
import Derived.Test.YtmhplpfpcnjekaaGreatA13
namespace Go.Fxa
open Go.Conc
open Go.ConcN (sumTo upd sumTo_upd upd_ne upd_same)
variable {Q:X_->o_->Prop}{Od:Old}{EH:h_}{kd:CallKind}{k:List Item}{ds:List Deferred}{c:Code}{tmps:X_}{m pb kq:Nat}{cs:Z_}{J:o_->Prop}{C:m_->o_->Prop}{f fc:Nat->n_}{gs:Array m_}{w v:o_}{t:Trace}{x:Frame×Z_}{told:n_}{i:Int}{ob:Obj}
structure Yl (P:l_)(L:h_->Prop)(p:h_->Oper->Bool)(N:Fence)(host:h_):Prop where
 fenced:V4 P L p N
 QM:dW L N host
 seen:∀f,(f=56\/f=93\/f=97\/f=136\/f=187)->∀es,seen P f es=seen P host es
 ops:∀c,c∈[R2 P,R3 P,S0 P,S1 P,R10 P,R11 P,R15 P,R16 P,A0 P,R21 P,XA P,aX P,R12 P]->c.AP (p host)=true
def Ends (Q:X_->o_->Prop)(e:Exit)(a:Act)(w:o_):Prop:=e=.normal/\a.defers=[]/\Q a.tmps w
def SX (Q:X_->o_->Prop)(e:Exit)(a:Act)(w:o_):Prop:=e=.ret/\a.defers=[]/\Q a.tmps w
def XQ (kv:n_)(pa:f_)(told:n_)(r:Nat)(x:n_)(bA:Nat):List (Nat×n_):=[(0,kv),(1,pv pa),(7,told),(8,pr r),(9,x),(10,pr bA)]
def slG (kv:n_)(pa:f_)(told:n_)(r bA:Nat)(b:Bool):List (Nat×n_):=[(0,kv),(1,pv pa),(7,told),(8,pr r),(10,pr bA),(59,.bool b)]
def VM (pa:f_):n_:=.pointer (some (pa.add 5))
def IG (v v':o_):Prop:=v.heap.size<=v'.heap.size/\(∀x,x<v.heap.size->v'.heap[x]?=v.heap[x]?)/\v'.os=v.os/\v'.output=v.output
def θ (pa:f_)(cs:X_)(ty:j_)(p:Int)(v v':o_):Prop:=
 v.heap.size<=v'.heap.size/\(∀x,x<v.heap.size->x≠pa.block->v'.heap[x]?=v.heap[x]?)/\v'.heap[pa.block]?=some (VV cs ty (pa.add 5) p)/\v'.os=v.os/\v'.output=v.output
structure Tq (P:l_)(N:Fence)(m:Nat)(kv:n_)(pa:f_)(n:Int) where
 I:Int->n_->o_->Prop
 Cd:Int->n_->n_->o_->Prop
 Bd:n_->o_->Prop
 D:Int->n_->n_->Nat->o_->Prop
 E0:Int->n_->Nat->o_->Prop
 E:Int->n_->Nat->o_->Prop
 An:Int->n_->n_->o_->Prop
 Fin:n_->o_->Prop
 Dn:Int->n_->n_->Nat->o_->Prop
 Db:Int->n_->n_->Nat->o_->Prop
 Bc:Int->n_->Nat->o_->Prop
 Bl:Int->n_->o_->Prop
 tDn:∀i told x b,Dw (Dn i told x b)
 tDb:∀i told x b,Dw (Db i told x b)
 tBc:∀i told b,Dw (Bc i told b)
 tBl:∀i told,Dw (Bl i told)
 tI:∀i told,Dw (I i told)
 tC:∀i told x,Dw (Cd i told x)
 tB:∀told,Dw (Bd told)
 tD:∀i told x b,Dw (D i told x b)
 tE0:∀i told b,Dw (E0 i told b)
 tE:∀i told b,Dw (E i told b)
 tA:∀i told A,Dw (An i told A)
 tF:∀told,Dw (Fin told)
 step:∀(r:Nat)(i:Int)(told:n_)(v:o_)(f:Y_),I i told v->0<=i->i<n->∀τ d,(XA P).wpIn N m P (Ends λtm w'=>∃f' oc x,tm=yP (AQ f' (Fh r (VM pa) n i oc x))/\((oc=0/\I (i+1) told w')\/(oc=1/\Cd i told x w')\/(oc=2/\Bd told w'))) ⟨yP (AQ f (Ob r (VM pa) n i)),[]⟩ (v.re τ d)
 serve:∀(r:Nat)(i:Int)(told x:n_)(v:o_)(f:Y_),Cd i told x v->∀τ d,(R10 P).wpIn N m P (Ends λtm w'=>∃f' bA,tm=TN 76 (AQ f' (XQ kv pa told r x bA))/\D i told x bA w') ⟨TN 76 (AQ f (slX kv pa told r x)),[]⟩ (v.re τ d)
 asked:∀(r:Nat)(i:Int)(told x:n_)(bA:Nat)(v:o_)(f:Y_),D i told x bA v->∀τ d,(R11 P).wpIn N m P (Ends λtm w'=>∃f' b,tm=TN 76 (AQ (AQ f' (XQ kv pa told r x bA)) [(39,.bool b)])/\((b=false/\Dn i told x bA w')\/(b=true/\Db i told x bA w'))) ⟨TN 76 (AQ f (XQ kv pa told r x bA)),[]⟩ (v.re τ d)
 tells:∀(r:Nat)(i:Int)(told x:n_)(bA:Nat)(v:o_)(f:Y_),Dn i told x bA v->∀τ d,(R15 P).wpIn N m P (Ends λtm w'=>∃f' CB,tm=TN 76 (AQ f' (yL kv pa CB r bA))/\E0 i CB bA w') ⟨TN 76 (AQ f (XQ kv pa told r x bA)),[]⟩ (v.re τ d)
 ended:∀(r:Nat)(i:Int)(told:n_)(bA:Nat)(v:o_)(f:Y_),E0 i told bA v->∀τ d,(R16 P).wpIn N m P (Ends λtm w'=>∃f' b,tm=TN 76 (AQ f' (slG kv pa told r bA b))/\((b=true/\Fin told w')\/(b=false/\E i told bA w'))) ⟨TN 76 (AQ f (yL kv pa told r bA)),[]⟩ (v.re τ d)
 answer:∀i told bA v,E i told bA v->∃s0 s1 s2,Cells v [(R_ bA),(S_ bA 1),(S_ bA 2)] [s0,s1,s2]/\An i told (.agg #[s0,s1,s2]) v
 grow:∀i told A v v',An i told A v->IG v v'->An i told A v'
 oO:∀(q1 q3:Nat)(i:Int)(told A:n_)(v:o_)(f:Y_),An i told A v->0<=i->i<n->∀τ d,(aX P).wpIn N m P (SX λtm w'=>∃g,tm=TN 49 (AQ g [(6,.bool true)])/\I (i+1) told w') ⟨TN 49 (AQ f (slA q1 q3 (VM pa) A)),[]⟩ (v.re τ d)
 bad:∀(r:Nat)(told:n_)(v:o_)(f:Y_),Bd told v->∀τ d,(R21 P).wpIn N m P (Ends λtm w'=>∃f' CB,tm=TN 76 (AQ f' [(7,CB)])/\Fin CB w') ⟨TN 76 (AQ f (slS kv pa told r)),[]⟩ (v.re τ d)
 spent:∀told v,I n told v->Fin told v
 blocks:∀(r:Nat)(i:Int)(told x:n_)(bA:Nat)(v:o_)(f:Y_),Db i told x bA v->∀τ d,(R12 P).wpIn N m P (Ends λtm w'=>∃f',tm=TN 76 (AQ f' (yL kv pa told r bA))/\Bc i told bA w') ⟨TN 76 (AQ f (XQ kv pa told r x bA)),[]⟩ (v.re τ d)
 blocked:∀i told bA v,Bc i told bA v->∃x0 y0 fn ca cb,Cells v [(R_ bA),(S_ bA 1),(S_ bA 2)] [a_ x0,a_ y0,.func fn ca cb]/\Bl i told v
 bp5:∀i told v,Bl i told v->∃cs ty p,v.heap[pa.block]?=some (N_ cs ty)/\cs[pa.off+7]?=some (a_ p)/\∀v',θ pa cs ty p v v'->Fin told v'
structure dU (P:l_)(N:Fence)(m:Nat):Prop where
 box:∀(r:Nat)(s0 s1 s2:n_)(v:o_)(g:Y_),∀τ d,(A0 P).wpIn N m P (Ends λtm w'=>∃g' bB,tm=TN 9 (AQ g' (ad5 r (.agg #[s0,s1,s2]) bB))/\(IG v w'/\bB=v.heap.size/\w'.heap.size=v.heap.size+1)/\Cells w' [(R_ bB),(S_ bB 1),(S_ bB 2)] [s0,s1,s2]) ⟨TN 9 (AQ g [(0,pr r),(1,.agg #[s0,s1,s2])]),[]⟩ (v.re τ d)
theorem jH:∀e a w,Ends Q e a w->(e=.normal\/e=.ret)/\a.defers=[]:=λ_ _ _ h=>⟨.inl h.1,h.2.1⟩
theorem zN:∀e a w,SX Q e a w->(e=.normal\/e=.ret)/\a.defers=[]:=λ_ _ _ h=>⟨.inr h.1,h.2.1⟩
section
variable {P:l_}{L:h_->Prop}{p:h_->Oper->Bool}{N:Fence}{Z:Nat->Prop}{Ad Still:Loc->Prop}{Mem Am:Nat->Prop}{h j:Nat}{By:Nat->m_->o_->Trace->Prop}{gs:Array m_}{w:o_}{sl:d_ (W_)}{t:Trace}{host:h_}
theorem cZ.part (W:Yl P L p N host)(u:Gx Ad Z)(o:Gx Still Z)(O:G8 P Z Ad Still (fun B t=>PX Ad Still Mem Am B h t) j By)(s:EH=56\/EH=93\/EH=97\/EH=136\/EH=187)(n:(kd==CallKind.early)=false)
  (r:c∈[R2 P,R3 P,S0 P,S1 P,R10 P,R11 P,R15 P,R16 P,A0 P,R21 P,XA P,aX P,R12 P]) (y:∀v,J v->∀τ d,c.wpIn N m P (Ends Q) ⟨tmps,[]⟩ (v.re τ d)) (q:∀l,Dw (Q l))
  (H:cZ Od P Z Ad Still Mem Am h j By (λg v=>g=G (Frame.mk EH tmps (.code c::k) ds .run kd none) cs/\J v) gs w t):AX P gs w sl t (cZ Od P Z Ad Still Mem Am h j By (λg v=>∃l,g=G (Frame.mk EH l k ds .run kd none) cs/\Q l v)):=
 (cZ.piece W.fenced u o O W.QM (W.seen EH s) n (W.ops c r) jH y H).mono λe i f a=>a.mono λg v ⟨l,τ,d,hb⟩=>by
  obtain⟨rfl,_,_,hq⟩|⟨_,_,b,_⟩:=hb
  .exact⟨l,rfl,(q l).back hq⟩
  .cases b
theorem cZ.out (W:Yl P L p N host)(u:Gx Ad Z)(o:Gx Still Z)(O:G8 P Z Ad Still (fun B t=>PX Ad Still Mem Am B h t) j By)(s:EH=56\/EH=93\/EH=97\/EH=136\/EH=187)(n:(kd==CallKind.early)=false)
  (r:c∈[R2 P,R3 P,S0 P,S1 P,R10 P,R11 P,R15 P,R16 P,A0 P,R21 P,XA P,aX P,R12 P]) (y:∀v,J v->∀τ d,c.wpIn N m P (SX Q) ⟨tmps,[]⟩ (v.re τ d)) (q:∀l,Dw (Q l))
  (H:cZ Od P Z Ad Still Mem Am h j By (λg v=>g=G (Frame.mk EH tmps (.code c::k) ds .run kd none) cs/\J v) gs w t):AX P gs w sl t (cZ Od P Z Ad Still Mem Am h j By (λg v=>∃l todo,g=G (Frame.mk EH l todo ds .returning kd none) cs/\Q l v)):=
 (cZ.piece W.fenced u o O W.QM (W.seen EH s) n (W.ops c r) zN y H).mono λe i f a=>a.mono λg v ⟨l,τ,d,hb⟩=>by
  obtain⟨_,b,_⟩|⟨todo,rfl,_,_,hq⟩:=hb
  .cases b
  .exact⟨l,todo,rfl,(q l).back hq⟩
theorem cZ.pick {ι:Type}{C:ι->m_->o_->Prop}(H:cZ Od P Z Ad Still Mem Am h j By (λg v=>∃x,C x g v) gs w t):∃x,cZ Od P Z Ad Still Mem Am h j By (C x) gs w t:=by
 obtain⟨q,n,B,g,v,a,⟨x,c⟩,b⟩:=H;exact⟨x,q,n,B,g,v,a,c,b⟩
theorem cZ.fact {F:Prop}(H:cZ Od P Z Ad Still Mem Am h j By (λg v=>F/\C g v) gs w t):F/\cZ Od P Z Ad Still Mem Am h j By C gs w t:=by
 obtain⟨q,n,B,g,v,a,⟨c,d⟩,b⟩:=H;exact⟨c,q,n,B,g,v,a,d,b⟩
theorem cZ.or {C':m_->o_->Prop}(H:cZ Od P Z Ad Still Mem Am h j By (λg v=>C g v\/C' g v) gs w t):cZ Od P Z Ad Still Mem Am h j By C gs w t\/cZ Od P Z Ad Still Mem Am h j By C' gs w t:=by
 obtain⟨q,n,B,g,v,b,a|a,c⟩:=H
 .exact .inl ⟨q,n,B,g,v,b,a,c⟩
 .exact .inr ⟨q,n,B,g,v,b,a,c⟩
end
def Told (f:Y_)(l:List (Nat×n_)):Prop:=∀p∈l,f p.1=p.2
theorem Told.eq {l:List (Nat×n_)}(h:Told f l):AQ f l=f:=NL h
def rU (kv:n_)(pa:f_)(told:n_)(r q0 q2:Nat):List (Nat×n_):=[(0,kv),(1,pv pa),(7,told),(8,pr r),(25,D5 q0),(27,D5 q2)]
def gK (P:l_)(s:J8)(f:Y_)(cs:Z_):m_:=BO (kS P f cs s.r)
section
variable {P:l_}{L:h_->Prop}{p:h_->Oper->Bool}{N:Fence}{m:Nat}{host:h_}{Z:Nat->Prop}{Ad:Loc->Prop}{s:J8}{c:Nat}{kv:n_}{pa:f_}{c0:Frame}{cs:Z_}
def Back (Od:Old)(P:l_)(Ad:Loc->Prop)(Z:Nat->Prop)(Fin:n_->o_->Prop)(c0:Frame)(cs:Z_)(gs:Array m_)(w:o_)(t:Trace):Prop:=
 ∃told v B,Fin told v/\gs[0]?=some (G (c0.finish told) cs)/\Y7 Od P Ad Z B v gs w t
def zB (Od:Old)(P:l_)(Ad:Loc->Prop)(Z:Nat->Prop)(Fin:n_->o_->Prop)(c0:Frame)(cs:Z_)(gs:Array m_)(w:o_)(t:Trace):Prop:=
 ∃Z',(∀x,Z x->Z' x)/\Back Od P Ad Z' Fin c0 cs gs w t
theorem Back.up {Fin:n_->o_->Prop}(h:Back Od P Ad Z Fin c0 cs gs w t):zB Od P Ad Z Fin c0 cs gs w t:=⟨Z,λ_ h=>h,h⟩
theorem XY {a:List Item}(K:Vo P)(hb:x.1=(sR P [] s.r).1)(b:x.2=(below x).1::c0::cs)(d:Ea (below x)=(56,a,[],.returning,.normal,none,c0::cs))(g:X3 (below x) [6]=[told])(h:(below x).1.tmps.size=76):
  ∃f,BO x=BO (VW P s f a told c0 cs):=by
 have e:=at_toldM (l:=[(6,told)]) d g h;refine⟨slot (below x),?_⟩;unfold VW;rw[K.sRf];have e1:(below x).1=ϖ (AQ (slot (below x)) [(6,told)]) a:=congrArg Prod.fst e;show G x.1 x.2=G (sR P [] s.r).1 (ϖ (AQ (slot (below x)) [(6,told)]) a::c0::cs);rw[hb,b,e1]
theorem pU (A:Ff P)(W:Yl P L p N host)(E:Env Z Ad s c)(S:Tq P N m kv pa s.n){x:n_}(hT:Told f (rU kv pa told s.r s.q0 s.q2)){sl:d_ (W_)}
  (H:cZ Od P Z Ad s.Still (I8 c) (λg=>g=c) 0 c (rQ P s c (gC P s fc i x)) (λg v=>g=Conc.served (gK P s f (c0::cs)) (commResult (O9 s.q0 s.q2) .select 0 x true)/\S.Cd i told x v) gs w t):
  AX P gs w sl t λBA w' t'=>(Back Od P Ad Z S.Fin c0 cs BA w' t'\/(∃f' bA,cZ Od P Z Ad s.Still (I8 c) (λg=>g=c) 0 c (rQ P s c (gC P s fc i x)) (λg v=>g=BO (f56 (AQ f' (yL kv pa told s.r bA)) (c0::cs) (T12 P) (QA s.r))/\S.Bc i told bA v) BA w' t'))\/∃f' CB bA,cZ Od P Z Ad s.Still (I8 c) (λg=>g=c) 0 c (rQ P s c (gC P s fc i x)) (λg v=>g=BO (f56 (AQ f' (slF kv pa CB s.r bA)) (c0::cs) (T16 P) (QA s.r))/\S.E i CB bA v) BA w' t':=by
 have O:=YJ (P:=P) (gC:=gC P s fc i x) E;have I:=Jj E.Lu;have G:∀n b w t,rQ P s c (gC P s fc i x) n b w t->∀d,(λ_=>True:o_->Prop) (w.at d):=λ_ _ _ _ _ _=>trivial
 have e0:Conc.served (gK P s f (c0::cs)) (commResult (O9 s.q0 s.q2) .select 0 x true)=BO (x0 P kv pa told f (c0::cs) s.r s.q0 s.q2 x):=by
  unfold x0
  rw[show AQ f (slS kv pa told s.r)=f from Told.eq λq hq=>hT q (by simp only[slS,rU,r_,lG,or_false]at hq ⊢;obtain h|h|h|h:=hq<;>simp[h])]
  rfl
 rw[e0]at H;refine(H.Uz (sl:=sl) (K:=λ_=>True) G O (DT (A.F7.x1a _ _ _ _ _ _ _ _ _))).bind λgs1 w1 JL t1 _ H1=>?_
 rw[show run P 12 (x0 P kv pa told f (c0::cs) s.r s.q0 s.q2 x)=x1 P kv pa told f (c0::cs) s.r s.q0 s.q2 x from rfl,at_toldN (l:=slX kv pa told s.r x) (A.F7.x1b _ _ _ _ _ _ _ _ _) (A.F7.x1c _ _ _ _ _ _ _ _ _) (A.F7.x1d _ _ _ _ _ _ _ _ _)]at H1;refine(cZ.part (sl:=JL) W E.under I O (.inl rfl) rfl sJ (λv k=>S.serve s.r i told x v _ k) (λo v τ d ⟨f',bA,e,h⟩=>⟨f',bA,e,S.tD _ _ _ _ v τ d h⟩) H1).bind λgs2 w2 V t2 _ Q=>?_
 obtain⟨⟨f2,bA⟩,Q⟩:=(Q.mono (C':=λg v=>∃y:(Y_)×Nat,g=BO (f56 (AQ y.1 (XQ kv pa told s.r x y.2)) (c0::cs) (T10 P) (QA s.r))/\S.D i told x y.2 v) λg v ⟨o,a,f',bA,e,h⟩=>⟨(f',bA),by rw[a,e];rfl,h⟩).pick;refine(Q.Uz (sl:=V) (K:=λ_=>True) G O (Jd (A.F7.x2 _ _ _))).bind λgs3 w3 X t3 _ H3=>?_
 refine(cZ.part (sl:=X) W E.under I O (.inl rfl) rfl sJ (λv k=>S.asked s.r i told x bA v f2 k) (λo v τ d ⟨f',b,e,h⟩=>⟨f',b,e,h.imp (λh=>⟨h.1,S.tDn _ _ _ _ v τ d h.2⟩) λh=>⟨h.1,S.tDb _ _ _ _ v τ d h.2⟩⟩) H3).bind λgs4 w4 Ob t4 _ j=>?_
 rcases(j.mono (C':=λg v=>(∃y:Nat->n_,g=BO (f56 (AQ (AQ y (XQ kv pa told s.r x bA)) [(39,.bool true)]) (c0::cs) (T11 P) (QA s.r))/\S.Db i told x bA v)\/(∃y:Nat->n_,g=BO (f56 (AQ (AQ y (XQ kv pa told s.r x bA)) [(39,.bool false)]) (c0::cs) (T11 P) (QA s.r))/\S.Dn i told x bA v)) λg v ⟨o,a,f',b,e,h⟩=>by
  obtain⟨rfl,h⟩|⟨rfl,h⟩:=h
  .exact .inr ⟨f',by rw[a,e];rfl,h⟩
  .exact .inl ⟨f',by rw[a,e];rfl,h⟩).or with j|j
 .obtain⟨M,j⟩:=j.pick;refine(j.Uz (sl:=Ob) (K:=λ_=>True) G O (Jd (A.blk.y3 _ _ _))).bind λT w5 F t5 _ J=>?_
  rw[show AQ (AQ M (XQ kv pa told s.r x bA)) [(39,.bool true)]=AQ (AQ (AQ M (XQ kv pa told s.r x bA)) [(39,.bool true)]) (XQ kv pa told s.r x bA)from(Told.eq λq hq=>by
   simp only[XQ,r_,lG,or_false]at hq
   obtain h|h|h|h|h|h:=hq<;>subst h<;>rfl).symm]at J;refine(cZ.part (sl:=F) W E.under I O (.inl rfl) rfl sJ (λv k=>S.blocks s.r i told x bA v _ k) (λo v τ d ⟨f',e,h⟩=>⟨f',e,S.tBc _ _ _ v τ d h⟩) J).mono λU w6 t6 z=>?_
  obtain⟨R,z⟩:=(z.mono (C':=λg v=>∃y:Nat->n_,g=BO (f56 (AQ y (yL kv pa told s.r bA)) (c0::cs) (T12 P) (QA s.r))/\S.Bc i told bA v) λg v ⟨o,a,f',e,h⟩=>⟨f',by rw[a,e];rfl,h⟩).pick;exact .inl (.inr ⟨R,bA,z⟩)
 obtain⟨M,j⟩:=j.pick;refine(j.Uz (sl:=Ob) (K:=λ_=>True) G O (Jd (A.F7.x3 _ _ _))).bind λT w5 F t5 _ J=>?_
 rw[show AQ (AQ M (XQ kv pa told s.r x bA)) [(39,.bool false)]=AQ (AQ (AQ M (XQ kv pa told s.r x bA)) [(39,.bool false)]) (XQ kv pa told s.r x bA)from(Told.eq λq hq=>by
  simp only[XQ,r_,lG,or_false]at hq
  obtain h|h|h|h|h|h:=hq<;>subst h<;>rfl).symm]at J;refine(cZ.part (sl:=F) W E.under I O (.inl rfl) rfl sJ (λv k=>S.tells s.r i told x bA v _ k) (λo v τ d ⟨f',CB,e,h⟩=>⟨f',CB,e,S.tE0 _ _ _ v τ d h⟩) J).bind λU w6 Fh t6 _ z=>?_
 obtain⟨⟨R,CB⟩,z⟩:=(z.mono (C':=λg v=>∃y:(Y_)×n_,g=BO (f56 (AQ y.1 (yL kv pa y.2 s.r bA)) (c0::cs) (T15 P) (QA s.r))/\S.E0 i y.2 bA v) λg v ⟨o,a,f',CB,e,h⟩=>⟨(f',CB),by rw[a,e];rfl,h⟩).pick;refine(z.Uz (sl:=Fh) (K:=λ_=>True) G O (Jd (A.F7.x4 _ _ _))).bind λgs7 w7 OL t7 _ H7=>?_
 refine(cZ.part (sl:=OL) W E.under I O (.inl rfl) rfl sJ (λv k=>S.ended s.r i CB bA v R k) (λo v τ d ⟨f',b,e,h⟩=>⟨f',b,e,h.imp (λh=>⟨h.1,S.tF _ v τ d h.2⟩) λh=>⟨h.1,S.tE _ _ _ v τ d h.2⟩⟩) H7).bind λgs8 w8 Y t8 _ H8=>?_
 rcases(H8.mono (C':=λg v=>(∃y:Nat->n_,g=BO (f56 (AQ y (slG kv pa CB s.r bA true)) (c0::cs) (T16 P) (QA s.r))/\S.Fin CB v)\/(∃y:Nat->n_,g=BO (f56 (AQ y (slF kv pa CB s.r bA)) (c0::cs) (T16 P) (QA s.r))/\S.E i CB bA v)) λg v ⟨o,a,f',b,e,h⟩=>by
  obtain⟨rfl,h⟩|⟨rfl,h⟩:=h
  .exact .inl ⟨f',by rw[a,e];rfl,h⟩
  .exact .inr ⟨f',by rw[a,e];rfl,h⟩).or with u|u
 .obtain⟨C,u⟩:=u.pick;rw[show AQ C (slG kv pa CB s.r bA true)=AQ (AQ C (slG kv pa CB s.r bA true)) [(7,CB),(59,.bool true)]from(Told.eq λq hq=>by
   simp only[r_,lG,or_false]at hq
   obtain h|h:=hq<;>subst h<;>rfl).symm]at u;refine(u.Uz (sl:=Y) (K:=λ_=>True) G O (DT (A.F7.w1a _ _ _ _))).bind λgsa wa sla ta _ Ha=>?_
  obtain⟨fe,e⟩:=XY (s:=s) (c0:=c0) (cs:=cs) A.F7 (A.F7.w1b CB _ _ s.r) (A.F7.w1c CB _ _ s.r) (A.F7.w1d CB _ _ s.r) (A.F7.w1e CB _ _ s.r) (A.F7.w1f CB (AQ C (slG kv pa CB s.r bA true)) (c0::cs) s.r);rw[show BO (run P 13 (f56 (AQ (AQ C (slG kv pa CB s.r bA true)) [(7,CB),(59,.bool true)]) (c0::cs) (T16 P) (QA s.r)))=BO (Fxa.w1 P CB (AQ C (slG kv pa CB s.r bA true)) (c0::cs) s.r)from rfl,e]at Ha;exact(qM (sl:=sla) A E Ha).mono λBA w' t' ⟨v,B,k1,k2,k3⟩=>.inl (.inl ⟨CB,v,B,k1,k2,k3⟩)
 .obtain⟨C,u⟩:=u.pick;exact .now (.inr ⟨C,CB,bA,u⟩)
theorem MH (x:Frame×Z_):(BO x).status=.running:=rfl
theorem zK (K:Vo P)(hb:Ea x=(56,yV P,QA s.r,.run,.normal,none,c0::cs))(b:X3 x [0,1,7,8,25,27]=[kv,pv pa,told,pr s.r,D5 s.q0,D5 s.q2])(d:x.1.tmps.size=76):
  ∃f,Told f (rU kv pa told s.r s.q0 s.q2)/\BO x=gK P s f (c0::cs)/\Ox P x=some (O9 s.q0 s.q2):=by
 have e:=at_toldN (l:=rU kv pa told s.r s.q0 s.q2) hb b d;refine⟨AQ (slot x) (rU kv pa told s.r s.q0 s.q2),?_,?_,?_⟩
 .intro q hq;simp only[rU,r_,lG,or_false]at hq;obtain h|h|h|h|h|h:=hq<;>subst h<;>rfl
 .exact congrArg BO e
 .have a:=K.k1 (AQ (slot x) (rU kv pa told s.r s.q0 s.q2)) (c0::cs) s.r s.q0 s.q2;rw[show AQ (AQ (slot x) (rU kv pa told s.r s.q0 s.q2)) [(25,D5 s.q0),(27,D5 s.q2)]=AQ (slot x) (rU kv pa told s.r s.q0 s.q2)from Told.eq λq hq=>by
   simp only[r_,lG,or_false]at hq
   obtain h|h:=hq<;>subst h<;>rfl]at a;rw[e];exact a
def WT (J:o_->Prop)(bB:Nat)(v:o_):Prop:=∃v0,J v0/\IG v0 v/\bB=v0.heap.size/\v.heap.size=v0.heap.size+1
theorem WT.tape {bB:Nat}:Dw (WT J bB):=λ_ _ _ ⟨v0,b,a,c,d⟩=>⟨v0,b,⟨a.1,a.2.1,a.2.2.1,a.2.2.2⟩,c,d⟩
theorem ZC (A:Ff P)(W:Yl P L p N host)(M:dU P N m)(E:Env Z Ad s c){gCx:m_}{s0 s1 s2:n_}{f0:Nat->n_}{Y:Z_}{sl:d_ (W_)}
  (H3:cZ Od P Z Ad s.Still (I8 c) (λg=>g=c) 0 c (rQ P s c gCx) (λg v=>g=BO (Frame.mk 97 (TN 9 (AQ f0 [(0,pr s.r),(1,.agg #[s0,s1,s2])])) (.code (A0 P)::V97 P) [] .run .normal none,Y)/\J v) gs w t):
  AX P gs w sl t λBA w' t'=>∃g4 bB,cZ Od P Z Ad s.Still (I8 c) (λg=>g=c) 0 c (rQ P s c gCx) (λg v=>g=BO (xs P g4 Y s.r s.q1 bB (.agg #[s0,s1,s2]))/\WT J bB v/\Cells v [(R_ bB),(S_ bB 1),(S_ bB 2)] [s0,s1,s2]) BA w' t':=by
 have O:=YJ (P:=P) (gC:=gCx) E;have R:=Jj E.Lu;have x:∀{y:Frame×Z_},Eb P y (D5 s.q1)=some ([(S_ s.r 1)],D5 s.q1)->RW P (0==0) s.KW s.Still 1 (BO y) (BO (BK y (D5 s.q1))):=λh=>RW.at h (λw h=>let ⟨_,_,hr⟩:=h.1;(KQ hr).2.1) (OW (s:=s)).t1
 have walk:∀{gs:Array m_} {w:o_} {sl:d_ (W_)} {t:Trace} {J:o_->Prop} {k:Nat} {a I:m_},cZ Od P Z Ad s.Still (I8 c) (λg=>g=c) 0 c (rQ P s c gCx) (λg v=>g=a/\J v) gs w t->RW P (0==0) s.KW s.Still k a I->AX P gs w sl t (cZ Od P Z Ad s.Still (I8 c) (λg=>g=c) 0 c (rQ P s c gCx) (λg v=>g=I/\J v)):=
  λH hw=>H.walk bp4 (λw a h X=>JH h X) E.ss O hw
 refine(cZ.part (sl:=sl) (Q:=λG w'=>∃q bB,G=TN 9 (AQ q (ad5 s.r (.agg #[s0,s1,s2]) bB))/\WT J bB w'/\Cells w' [(R_ bB),(S_ bB 1),(S_ bB 2)] [s0,s1,s2]) W E.under R O (.inr (.inr (.inl rfl))) rfl sJ
  (λv hv τ d=>wpIn_mono (M.box s.r s0 s1 s2 v _ τ d) λe a w' ⟨k1,k2,q,bB,k3,K,k5⟩=>⟨k1,k2,q,bB,k3,⟨v,hv,K.1,K.2⟩,k5⟩) (λG v τ d ⟨q,bB,e,h,V⟩=>⟨q,bB,e,WT.tape v τ d h,V⟩) H3).bind λU w4 Ob t4 _ B=>?_
 obtain⟨⟨g4,bB⟩,B⟩:=(B.mono (C':=λg v=>∃y:(Y_)×Nat,g=BO (f97 (AQ y.1 (ad5 s.r (.agg #[s0,s1,s2]) y.2)) Y (V97 P))/\WT J y.2 v/\Cells v [(R_ y.2),(S_ y.2 1),(S_ y.2 2)] [s0,s1,s2]) λg v ⟨G,D,q,bB,e,h⟩=>⟨(q,bB),by rw[D,e];rfl,h⟩).pick;refine(cZ.draws (sl:=Ob) A.mixed O (A.F7.dr _ _) A.F7.dl B).bind λC w5 F t5 _ o=>?_
 have S:AX P C w5 F t5 (cZ Od P Z Ad s.Still (I8 c) (λg=>g=c) 0 c (rQ P s c gCx) (λg v=>g=BO (xs P g4 Y s.r s.q1 bB (.agg #[s0,s1,s2]))/\WT J bB v/\Cells v [(R_ bB),(S_ bB 1),(S_ bB 2)] [s0,s1,s2])):=by
  obtain⟨⟨l,z⟩,o⟩:=(o.mono (C':=λg v=>∃y:{ l:List Nat // l∈[[0,1,2,3,4,5],[0,1,2,4,3,5],[0,1,4,2,3,5],[0,4,1,2,3,5],[4,0,1,2,3,5]]},g=BO (XT P g4 Y s.r bB (.agg #[s0,s1,s2]) y.1)/\WT J bB v/\Cells v [(R_ bB),(S_ bB 1),(S_ bB 2)] [s0,s1,s2]) λg v ⟨⟨l,z,D⟩,h⟩=>⟨⟨l,z⟩,D,h⟩).pick
  simp only[r_,lG,or_false]at z
  obtain rfl|rfl|rfl|rfl|rfl:=z
  .refine(walk o (RW.AU (A.F7.l1a _ _ _ _ _))).bind λ_ _ b _ _ j=>(walk j (x (A.F7.l1b _ _ _ _ s.q1 _))).bind λ_ _ f _ _ n=>?_
   have:=cZ.reads (sl:=f) E.under O (A.F7.l1c _ _ _ _ s.q1 _ s0 s1 s2) (λv h=>h.2) n
   rwa [A.F7.l1d]at this
  .refine(walk o (RW.AU (A.F7.l2a _ _ _ _ _))).bind λ_ _ b _ _ j=>(cZ.reads (sl:=b) E.under O (A.F7.l2b _ _ _ _ _ s0 s1 s2) (λv h=>h.2) j).bind λ_ _ f _ _ n=>?_
   have:=walk (sl:=f) n (x (A.F7.l2c _ _ _ _ s.q1 _))
   rwa [A.F7.l2d]at this
  .refine(walk o (RW.AU (A.F7.l3a _ _ _ _ _))).bind λ_ _ b _ _ j=>(cZ.reads (sl:=b) E.under O (A.F7.l3b _ _ _ _ _ s0 s1 s2) (λv h=>h.2) j).bind λ_ _ f _ _ n=>(walk n (RW.AU (A.F7.l3c _ _ _ _ _))).bind λ_ _ i _ _ u=>?_
   have:=walk (sl:=i) u (x (A.F7.l3d _ _ _ _ s.q1 _))
   rwa [A.F7.l3e]at this
  .refine(walk o (RW.AU (A.F7.l4a _ _ _ _ _))).bind λ_ _ b _ _ j=>(cZ.reads (sl:=b) E.under O (A.F7.l4b _ _ _ _ _ s0 s1 s2) (λv h=>h.2) j).bind λ_ _ f _ _ n=>(walk n (RW.AU (A.F7.l4c _ _ _ _ _))).bind λ_ _ i _ _ u=>?_
   have:=walk (sl:=i) u (x (A.F7.l4d _ _ _ _ s.q1 _))
   rwa [A.F7.l4e]at this
  .refine(walk o (RW.AU (A.F7.l5a _ _ _ _ _))).bind λ_ _ b _ _ j=>(cZ.reads (sl:=b) E.under O (A.F7.l5b _ _ _ _ _ s0 s1 s2) (λv h=>h.2) j).bind λ_ _ f _ _ n=>(walk n (RW.AU (A.F7.l5c _ _ _ _ _))).bind λ_ _ i _ _ u=>?_
   have:=walk (sl:=i) u (x (A.F7.l5d _ _ _ _ s.q1 _))
   rwa [A.F7.l5e]at this
 exact S.mono λBA w' t' T=>⟨g4,bB,T⟩
theorem kY (A:Ff P)(W:Yl P L p N host)(M:dU P N m)(E:Env Z Ad s c)(S:Tq P N m kv pa s.n){x:n_}{bA:Nat}{sl:d_ (W_)}
  (H:cZ Od P Z Ad s.Still (I8 c) (λg=>g=c) 0 c (rQ P s c (gC P s fc i x)) (λg v=>g=BO (f56 (AQ f (slF kv pa told s.r bA)) (c0::cs) (T16 P) (QA s.r))/\S.E i told bA v) gs w t):
  AX P gs w sl t λBA w' t'=>∃f' An,Told f' (rU kv pa told s.r s.q0 s.q2)/\cZ Od P Z Ad s.Still (I8 c) (λg=>g=0) c 0 (ByK P s c (gK P s f' (c0::cs))) (λg v=>g=Conc.served (gC P s fc i x) (commResult (G5 s.q1 s.q3) .select 0 An true)/\S.An i told An v) BA w' t':=by
 have O:=YJ (P:=P) (gC:=gC P s fc i x) E;have Q:∀n b w t,rQ P s c (gC P s fc i x) n b w t->∀d,(λ_=>True:o_->Prop) (w.at d):=λ_ _ _ _ _ _=>trivial
 refine(H.Uz (sl:=sl) (K:=λ_=>True) Q O (DT (A.F7.cr6 _ _ _ _ _ _ _))).bind λX w1 U t1 _ q=>?_
 obtain⟨⟨a,e,j⟩,q⟩:=(q.mono (C':=λg v=>∃y:n_×n_×n_,g=BO (x18 P kv pa told f (c0::cs) s.r bA)/\Cells v [(R_ bA),(S_ bA 1),(S_ bA 2)] [y.1,y.2.1,y.2.2]/\S.An i told (.agg #[y.1,y.2.1,y.2.2]) v) λg v ⟨hg,h⟩=>by
  obtain⟨a,e,j,h1,h2⟩:=S.answer i told bA v h
  exact⟨(a,e,j),hg,h1,h2⟩).pick;refine(cZ.reads (sl:=U) E.under O (A.F7.cr5 _ _ _ _ _ _ _ a e j) (λv h=>h.1) q).bind λY w2 D t2 _ R=>?_
 refine(R.Uz (sl:=D) (K:=λ_=>True) Q O (DT (A.F7.cr4 _ _ _ _ _ _ _ _))).bind λgs3 w3 F t3 _ G=>?_
 rw[show run P 2 (BK (x18 P kv pa told f (c0::cs) s.r bA) (.agg #[a,e,j]))=x19 P kv pa told f (c0::cs) s.r bA (.agg #[a,e,j])from rfl,at_toldN (l:=[(0,pr s.r),(1,.agg #[a,e,j])]) (A.F7.cr2 _ _ _ _ _ _ _ _) (A.F7.cr1 _ _ _ _ _ _ _ _) (A.F7.cr0 _ _ _ _ _ _ _ _)]at G;refine(ZC (sl:=F) A W M E (G.mono (C':=λg v=>g=BO (Frame.mk 97 (TN 9 (AQ (slot (x19 P kv pa told f (c0::cs) s.r bA (.agg #[a,e,j]))) [(0,pr s.r),(1,.agg #[a,e,j])])) (.code (A0 P)::V97 P) [] .run .normal none,Y18 P kv pa told f (c0::cs) s.r bA (.agg #[a,e,j]))/\S.An i told (.agg #[a,e,j]) v) λg v h=>⟨h.1,h.2.2⟩)).bind λgs7 w7 OL t7 _ u=>?_
 obtain⟨o,bB,u⟩:=u;obtain⟨J,z,C,B⟩:=zK (s:=s) A.F7 (A.F7.v3b kv pa told f o (c0::cs) s.r s.q0 s.q1 s.q2 bA bB (.agg #[a,e,j])) (A.F7.v3c _ _ _ _ _ _ _ _ _ _ _ _ _) (A.F7.v3d _ _ _ _ _ _ _ _ _ _ _ _ _);have hw:RW P (0==0) s.KW s.Still 48 (BO (v0 P kv pa told f o (c0::cs) s.r s.q1 bA bB (.agg #[a,e,j]))) (BO (v3 P kv pa told f o (c0::cs) s.r s.q0 s.q1 s.q2 bA bB (.agg #[a,e,j]))):=
  ((((RW.AU (A.F7.v1a _ _ _ _ _ _ _ _ _ _ _)).trans (RW.at (A.F7.v1b _ _ _ _ _ _ _ s.q0 _ _ _ _) (OW (s:=s)).r0 (OW (s:=s)).t0)).trans (RW.AU (A.F7.v2a _ _ _ _ _ _ _ _ _ _ _ _))).trans (RW.at (A.F7.v2b _ _ _ _ _ _ _ _ _ s.q2 _ _ _) (OW (s:=s)).r2 (OW (s:=s)).t2)).trans (RW.AU (A.F7.v3a _ _ _ _ _ _ _ _ _ _ _ _ _));have I:=RW.seat (k:=0) (home:=(·=gK P s J (c0::cs))) (cases:=O9 s.q0 s.q2) (shape:=.select) (MH _) ⟨_,#[],C,MH _,sJ,λw _=>I5 B w⟩ hw;have V:BO (v0 P kv pa told f o (c0::cs) s.r s.q1 bA bB (.agg #[a,e,j]))=Conc.served (BO (xs P o (Y18 P kv pa told f (c0::cs) s.r bA (.agg #[a,e,j])) s.r s.q1 bB (.agg #[a,e,j]))) (commResult (lU s.q1 (.agg #[a,e,j])) .send ((0:Nat):Int) undef false):=by
  unfold v0
  rw[Uk]
  rfl
 rw[V]at I;refine(cZ.give (sl:=OL) (VD E (.agg #[a,e,j])) (λw h=>zY h) rfl (λw=>gz (A.F7.xs _ _ _ _ _ _) w) I (u.mono λg v h=>⟨h.1,let ⟨v0,k1,k2,_⟩:=h.2.1;S.grow _ _ _ _ _ k1 k2⟩)).mono λBA w' t' T=>⟨J,_,z,T⟩
end
def ET (v:o_)(pb:Nat)(ob:Obj)(n:Nat):Array Obj:=Array.ofFn (n:=n) λx=>if x.1=pb then ob else(v.heap[x.1]?).getD DV
theorem Hu {n x:Nat}(a:x<n):(ET v pb ob n)[x]?=some (if x=pb then ob else(v.heap[x]?).getD DV):=by
 simp[ET,a]
def LZ (pb bB y:Nat):Prop:=y=pb\/bB<=y
def LL (pb bB:Nat)(l:Loc):Prop:=∃a:f_,l=.cell a/\LZ pb bB a.block
section
variable {P:l_}{L:h_->Prop}{p:h_->Oper->Bool}{N:Fence}{m:Nat}{host:h_}{Z:Nat->Prop}{Ad:Loc->Prop}{s:J8}{c:Nat}{kv:n_}{pa:f_}{c0:Frame}{cs:Z_}
theorem Yr.bu7 {v0 w2:o_}{bB:Nat}{ob':Obj}(T:Yr Od Z v w)(B:∀r,Z r->r<v.heap.size)(z:IG v0 v)(hb:bB=v0.heap.size)(E:v.heap.size=v0.heap.size+1)(q:¬Z bB/\¬Od.dead bB)(D:v0.heap[pb]?=some ob)(n:¬Z pb/\¬Od.dead pb)(y:ob'.plain=true)
  (u:CS (λx=>Z x\/(x=pb\/bB<=x)) w w2) (A:w2.heap[pb]?=some ob'):
  Yr Od (λx=>Z x\/(bB<=x/\x<w2.heap.size)) {v0 with heap:=ET v0 pb ob' w2.heap.size} w2:=by
 subst hb;have m:=(y_.1 D).1;have l:v0.heap.size<=w2.heap.size:=by have:=u.size;have:=T.size;omega
 have i:∀x,Z x->x<v0.heap.size:=λx a=>by
  have:=B x a
  have:x≠v0.heap.size:=λe=>q.1 (e ▸ a)
  omega
 have f:∀x,Od.dead x->x<v0.heap.size:=λx a=>by
  have:=(y_.1 (T.KN x a)).1
  have:x≠v0.heap.size:=λe=>q.2 (e ▸ a)
  omega
 have c:∀x,x<v0.heap.size->x≠pb->(ET v0 pb ob' w2.heap.size)[x]?=v.heap[x]?:=λx a k=>by
  rw[Hu wB,ru k,z.2.1 x a,v_ a];rfl
 refine⟨by simp[ET],λx a b=>?_,λx a g=>?_,λx o b=>?_,?_,?_,λx a=>?_,λx a=>?_,λx a h=>?_⟩
 .by_cases g:x<w2.heap.size
  .have d:x<v0.heap.size:=Nat.lt_of_not_le λh=>a (.inr ⟨h,g⟩)
   by_cases e:x=pb
   .subst e;rw[A];show(ET v0 x ob' w2.heap.size)[x]?=_;rw[Hu g,rW rfl]
   .show(ET v0 pb ob' w2.heap.size)[x]?=_;have j:¬Z x:=λh=>a (.inl h)
    rw[c x d e,T.same x j b];exact(u.same x λh=>h.elim j λh=>h.elim e λh=>wB).symm
  .rw[Array.getElem?_eq_none (show w2.heap.size<=x by omega)];exact Array.getElem?_eq_none (by show(ET v0 pb ob' w2.heap.size).size<=x;simp only[ET,Array.size_ofFn];omega)
 .show(ET v0 pb ob' w2.heap.size)[x]?=_;obtain a|a:=a
  .have d:=i x a;rw[c x d (λe=>n.1 (e ▸ a))];exact T.dead x a wB
  .rw[Hu a.2,ru wB,Array.getElem?_eq_none a.1];rfl
 .have b:(ET v0 pb ob' w2.heap.size)[x]?=some o:=b;have g:x<w2.heap.size:=by have:=(y_.1 b).1;simpa [ET]using this
  by_cases e:x=pb
  .rw[Hu g,rW e]at b;rw[<-x_ b];exact y
  .by_cases d:x<v0.heap.size
   .rw[c x d e]at b;exact T.plain x o b
   .rw[Hu g,ru e,Array.getElem?_eq_none wB]at b;rw[<-x_ b];rfl
 .exact(z.2.2.1.symm.trans T.os).trans u.os.symm
 .exact(z.2.2.2.symm.trans T.output).trans u.output.symm
 .show(ET v0 pb ob' w2.heap.size)[x]?=_;rw[c x (f x a) (λe=>n.2 (e ▸ a))];exact T.KN x a
 .have:=f x a;rw[u.same x λh=>h.elim (T.ax x a) λh=>h.elim (λe=>n.2 (e ▸ a)) λh=>by omega];exact T.kept x a
 .have:=f x a;exact h.elim (T.ax x a) λh=>wB
theorem bY (A:Ff P)(W:Yl P L p N host)(M:dU P N m)(E:Env Z Ad s c)(S:Tq P N m kv pa s.n)(hsv:s.sv=VM pa){x:n_}{bA:Nat}{sl:d_ (W_)}
  (H:cZ Od P Z Ad s.Still (I8 c) (λg=>g=c) 0 c (rQ P s c (gC P s fc i x)) (λg v=>g=BO (f56 (AQ f (yL kv pa told s.r bA)) (c0::cs) (T12 P) (QA s.r))/\S.Bc i told bA v) gs w t):
  AX P gs w sl t (zB Od P Ad Z S.Fin c0 cs):=by
 have O:=YJ (P:=P) (gC:=gC P s fc i x) E;have hj:∀n b w t,rQ P s c (gC P s fc i x) n b w t->∀d,(λ_=>True:o_->Prop) (w.at d):=λ_ _ _ _ _ _=>trivial
 refine(H.Uz (sl:=sl) (K:=λ_=>True) hj O (DT (A.blk.a13 _ _ _ _ _ _ _))).bind λgs1 w1 JL t1 _ H1=>?_
 obtain⟨⟨x0,u,fn,j,o⟩,H1⟩:=(H1.mono (C':=λg v=>∃y:Int×Int×Fn×X_×X_,g=BO (x13 P kv pa told f (c0::cs) s.r bA)/\Cells v [(R_ bA),(S_ bA 1),(S_ bA 2)] [a_ y.1,a_ y.2.1,.func y.2.2.1 y.2.2.2.1 y.2.2.2.2]/\S.Bl i told v) λg v ⟨hg,h⟩=>by
  obtain⟨x0,u,fn,j,o,h1,h2⟩:=S.blocked i told bA v h
  exact⟨(x0,u,fn,j,o),hg,h1,h2⟩).pick;refine(cZ.reads (sl:=JL) E.under O (A.blk.b13 _ _ _ _ _ _ _ (a_ x0) (a_ u) (.func fn j o)) (λv h=>h.1) H1).bind λgs2 w2 sl2 t2 _ H2=>?_
 refine(H2.Uz (sl:=sl2) (K:=λ_=>True) hj O (DT (A.blk.a14 _ _ _ _ _ _ _ _))).bind λgs3 w3 sl3 t3 _ H3=>?_
 rw[show run P 2 (BK (x13 P kv pa told f (c0::cs) s.r bA) (.agg #[a_ x0,a_ u,.func fn j o]))=x14 P kv pa told (PW x0 u fn j o) f (c0::cs) s.r bA from rfl,at_toldN (l:=[(0,pr s.r),(1,PW x0 u fn j o)]) (A.blk.b14 _ _ _ _ _ _ _ _) (A.blk.c14 _ _ _ _ _ _ _ _) (A.blk.d14 _ _ _ _ _ _ _ _)]at H3;refine(ZC (sl:=sl3) (J:=S.Bl i told) A W M E (H3.mono λg v h=>⟨h.1,h.2.2⟩)).bind λgs7 F OL t7 _ H7=>?_
 obtain⟨V,bB,H7⟩:=H7;obtain⟨q,n,B,g,v,h1,⟨rfl,⟨v0,hBl,gr,hbB,Cm⟩,z⟩,T,hZ,D⟩:=H7;obtain⟨π,C,Q,hp1,hp2,hback⟩:=S.bp5 i told v0 hBl;obtain⟨b,hb,hBy⟩:=D.idle;have υ:s.KS F:=hBy.1.1;have Y:=VD (P:=P) E (PW x0 u fn j o);refine(Zc (Am:=λg=>g=c) Y.leans Y.PT Y.lasts Y.meets Y.ϑ Y.ϐ rfl (es:=#[]) (n+sumTo gs7.size q+1) n gs7 _ F OL t7 q B wB h1 rfl D (Y.opens F υ) (λd=>gz (A.F7.xs _ _ _ _ _ _) (F.at d)) sJ).bind λgs8 X sl8 t8 _ Mt=>?_
 obtain⟨q8,g₂,d,k',m1,m2,m3,m4,m5,rfl,m7,m8,m9,m10,m11⟩:=Mt;subst m3;have hK':s.KS ((F.at d).setChan s.q1 0 #[] false (k'+1) (k'+1) false):=Y.keeps F d (k'+1) υ;generalize hw8:(F.at d).setChan s.q1 0 #[] false (k'+1) (k'+1) false=X at*;have h8:∀y,y≠s.q1->X.heap[y]?=F.heap[y]?:=λy R=>by rw[<-hw8];exact JY (gJ R)
 have h8s:X.heap.size=F.heap.size:=by rw[<-hw8];exact JI
 have h8o:CS Z F X:=by rw[<-hw8];exact Nk (E.zq ae7) F d (k'+1) false
 obtain⟨kq,hkq⟩:=hK'.2.2 s.q3 aW;have hpl:=(y_.1 hp1).1;have G:v.heap[pa.block]?=some (N_ π C):=by rw[gr.2.1 _ hpl];exact hp1
 have I:¬Z pa.block/\¬Od.dead pa.block:=by
  refine⟨λh=>?_,λh=>?_⟩
  .rw[T.dead _ h wB]at G;simp[DV]at G
  .rw[T.KN _ h]at G;simp[DV]at G
 have hbz:¬Z bB/\¬Od.dead bB:=⟨(T.cell z.1).2.1,T.Yh z.1⟩;have U:∀y,(y=pa.block\/bB<=y)->¬Z y:=λy R hz=>by
  obtain rfl|R:=R
  .exact I.1 hz
  .have:=hZ y hz;have:y≠bB:=λe=>hbz.1 (e ▸ hz)
   omega
 have hpw:X.heap[pa.block]?=some (N_ π C):=by
  rw[h8 pa.block (λe=>I.1 (by rw[e];exact E.zq ae7)),<-T.same _ I.1 I.2];exact G
 have hbw:bB<X.heap.size:=by rw[h8s,<-T.size];omega
 have hLs:∀l,(LL pa.block bB) l->¬Ad l:=λl ⟨a,e,ha⟩ h=>by subst e;exact U _ ha (E.under.1 a h)
 have hLt:∀l,(LL pa.block bB) l->¬s.Still l:=λl ⟨a,e,ha⟩ h=>by subst e;exact U _ ha ((Jj E.Lu).1 a h)
 have hLW:∀l,LY s.r s.pre l->¬(LL pa.block bB) l:=λl h hl=>hLs l hl (E.ofw l h)
 have hWL:∀l,LY s.r s.pre l->(λl=>Ad l\/LL pa.block bB l) l/\¬(λl=>s.Still l\/LL pa.block bB l) l:=λl h=>⟨.inl (E.ofw l h),λhs=>hs.elim (λhs=>(E.w l h).2 hs) (hLW l h)⟩
 have hnr:¬(LZ pa.block bB) s.r:=λh=>U _ h (E.Lu _ (by simp[J8.own]))
 have HX:=Xt (Zl:=(LZ pa.block bB)) (cs:=π) (UB:=C) (p:=Q) (sa:=pa.add 5) (.inl rfl);have HP:Ny P (λy=>y=s.r\/(LZ pa.block bB) y) (λl=>Ad l\/LL pa.block bB l) (λl=>s.Still l\/LL pa.block bB l) (λg=>g=c) c s.r s.pre 257 (Fz P s) (ja P c s.r s.pre 257 (Fz P s) (λl=>Ad l\/LL pa.block bB l) (λl=>s.Still l\/LL pa.block bB l) (LZ pa.block bB) (Jt π C (pa.add 5) Q)) (Jt π C (pa.add 5) Q):=
  bh4 (.inl rfl) (λ_ h=>.inr h) hnr hWL (λa ha=>⟨.inr ⟨a,rfl,ha⟩,.inr ⟨a,rfl,ha⟩⟩) E.c0 rfl HX;have hwalk:Ir P s.r s.pre 257 (LZ pa.block bB) (Fz P s).gR (Jt π C (pa.add 5) Q) (66+1) (Conc.served (gC P s fc i x) (commResult (G5 s.q1 s.q3) .select 0 (PW x0 u fn j o) true)) X:=by
  have:=yx (Zl:=(LZ pa.block bB)) (S0:=bB) (cs:=π) (UB:=C) (p:=Q) (pa:=D5 s.q0) (pb:=D5 s.q1) (pc:=D5 s.q2) (pd:=D5 s.q3) (A.back s.b5 s.b2 s.b3 s.r s.q0 s.q1 s.q3 (pa.add 5) s.n) (.inl rfl) (λy R=>.inr R) (by show pa.block<bB;omega) hp2 fc i x x0 u fn j o hpw hbw
  unfold gC Fz outs
  rw[hsv]
  exact this
 have hby:ByX P s c (ja P c s.r s.pre 257 (Fz P s) (λl=>Ad l\/LL pa.block bB l) (λl=>s.Still l\/LL pa.block bB l) (LZ pa.block bB) (Jt π C (pa.add 5) Q)) (Jt π C (pa.add 5) Q) kq (66+1+((Fz P s).k1+(Fz P s).k2+(Fz P s).k3+(Fz P s).k4+(Fz P s).nF+(Fz P s).nP+10)) (Conc.served (gC P s fc i x) (commResult (G5 s.q1 s.q3) .select 0 (PW x0 u fn j o) true)) X t8:=
  ⟨.inl ⟨⟨m10,m9.knL (λl ⟨a,e,_⟩=>by rw[e];rfl) hLs hLt E.ss⟩,hK'.1,m9.hears c (.inr rfl),66,rfl,hwalk⟩,hkq,hK'.2.1⟩;have D8:Duo P (λl=>Ad l\/LL pa.block bB l) (λl=>s.Still l\/LL pa.block bB l) (λg=>g=0) (λg=>g=c) B 0 c (ByX P s c (ja P c s.r s.pre 257 (Fz P s) (λl=>Ad l\/LL pa.block bB l) (λl=>s.Still l\/LL pa.block bB l) (LZ pa.block bB) (Jt π C (pa.add 5) Q)) (Jt π C (pa.add 5) Q) kq) _ gs8 X t8 q8:=
  ⟨gJ E.c0,.inl rfl,λg hg=>.inl hg,⟨_,m2,hby⟩,m7,m8,(m11.fewer (Me:=λg=>g=0) λg hg=>.inl hg).cw2 hLs,by rw[h8s];exact D.size⟩;have IA:∀y,(y=s.r\/(LZ pa.block bB) y)->(Z y\/(LZ pa.block bB) y):=λy R=>R.imp (λe=>by rw[e];exact E.Lu _ (by simp[J8.own])) id
 have hq0:∀y,s.own y->y≠s.r->¬(y=s.r\/(LZ pa.block bB) y):=λy ho CX h=>h.elim CX λh=>U y h (E.Lu y ho)
 have OB:=ve (Z':=λy=>Z y\/(LZ pa.block bB) y) (k:=kq) A.done E.ok E.c0 HP (.inl rfl) IA hWL (λy h=>.inl (E.Lu y h)) hq0;have e8:Conc.served (BO (xs P V (Y13 P kv pa told (PW x0 u fn j o) f (c0::cs) s.r bA) s.r s.q1 bB (PW x0 u fn j o))) (commResult (lU s.q1 (PW x0 u fn j o)) .send ((0:Nat):Int) undef false)=BO (vB P kv pa told (PW x0 u fn j o) f V (c0::cs) s.r s.q1 bA bB):=by
  rw[Uk];rfl
 have m1':gs8[0]?=some (BO (vB P kv pa told (PW x0 u fn j o) f V (c0::cs) s.r s.q1 bA bB)):=by rw[<-e8];exact m1
 refine(Ie (J:=λ_=>True) (λ_ _ _ _ _ _=>trivial) OB 16 (DT (A.blk.w4a kv pa told f V (c0::cs) s.r s.q1 bA bB (PW x0 u fn j o))) m1' D8).bind λgs9 w9 sl9 t9 _ ⟨q9,n9,B9,h9,o9,_,D9⟩=>?_
 obtain⟨fe,ee⟩:=XY (s:=s) (c0:=c0) (cs:=cs) A.F7 (A.blk.w4b kv pa told f V (c0::cs) s.r s.q1 bA bB (PW x0 u fn j o)) (A.blk.w4c kv pa told f V (c0::cs) s.r s.q1 bA bB (PW x0 u fn j o)) (A.blk.w4d kv pa told f V (c0::cs) s.r s.q1 bA bB (PW x0 u fn j o)) (A.blk.w4e kv pa told f V (c0::cs) s.r s.q1 bA bB (PW x0 u fn j o)) (A.blk.w4f kv pa told f V (c0::cs) s.r s.q1 bA bB (PW x0 u fn j o));have h9':gs9[0]?=some (BO (VW P s fe (ca4 P) told c0 cs)):=by rw[<-ee];exact h9
 refine(ZT (Z:=λy=>Z y\/(LZ pa.block bB) y) (Ad:=Ad) A E.ok E.c0 HP (.inl rfl) IA hWL (λy h=>.inl (E.Lu y h)) hq0 (λl hl h=>h.elim (E.ss l hl) λh=>hLt l h hl) (λy h=>h.elim (V9 y) λ⟨_,e,_⟩=>by cases e) (λl h h'=>h.resolve_right λhl=>h' (.inr hl)) (λ_ _ h=>h) h9' D9).mono λBA w' t' dd0=>?_
 obtain⟨q',B',j1,j2,j3,j4,j5,j6⟩:=dd0;have br0:CS (λy=>Z y\/(y=pa.block\/bB<=y)) F w':=((h8o.sub λ_ h=>.inl h).trans o9).trans j2;have TW:=T.bu7 hZ gr hbB Cm hbz hp1 I (ob':=VV π C (pa.add 5) Q) rfl br0 j6;have hle:v0.heap.size<=w'.heap.size:=by have:=br0.size;have:=T.size;omega
 refine⟨λy=>Z y\/(bB<=y/\y<w'.heap.size),λ_ h=>.inl h,told,{v0 with heap:=ET v0 pa.block (VV π C (pa.add 5) Q) w'.heap.size},B',hback _ ⟨?_,λy R CX=>?_,?_,rfl,rfl⟩,j1,q',TW,λr hr=>?_,j3,j4,j5⟩
 .simp[ET];exact hle
 .show(ET v0 pa.block _ w'.heap.size)[y]?=_;rw[Hu wB,ru CX,v_ R];rfl
 .show(ET v0 pa.block _ w'.heap.size)[pa.block]?=_;rw[Hu wB,rW rfl]
 .show r<(ET v0 pa.block _ w'.heap.size).size;simp only[ET,Array.size_ofFn];obtain hr|hr:=hr
  .have:=hZ r hr;have:=br0.size;have:=T.size;omega
  .exact hr.2
theorem bu4 (S:Tq P N m kv pa s.n)(e:s.sv=VM pa)(told:n_):al8 P N m s.r s.sv s.n (λi=>S.I i told) (λi x=>S.Cd i told x) (S.Bd told) where
 wp:=λi v f b a hi τ d=>by rw[e];exact S.step s.r i told v f b a hi τ d
 tI:=λi=>S.tI i told
 tC:=λi x=>S.tC i told x
 tB:=S.tB told
theorem aj2 (hT:Told f (rU kv pa told s.r s.q0 s.q2)):AQ f (slS kv pa told s.r)=f:=
 Told.eq λq hq=>hT q (by simp only[slS,rU,r_,lG,or_false]at hq ⊢;obtain h|h|h|h:=hq<;>simp[h])
theorem ad1 (A:Ff P)(W:Yl P L p N host)(E:Env Z Ad s c)(S:Tq P N m kv pa s.n)(hT:Told f (rU kv pa told s.r s.q0 s.q2)){sl:d_ (W_)}
  (H:cZ Od P Z Ad s.Still (λg=>g=0) (λg=>g=c) 0 c (ByT P s c kq) (λg v=>g=Conc.served (gK P s f (c0::cs)) (commResult (O9 s.q0 s.q2) .select 1 (b_ 2) true)/\S.Bd told v) gs w t):
  AX P gs w sl t (Back Od P Ad Z S.Fin c0 cs):=by
 have O:=al6 (P:=P) (k:=kq) A.done E;have C:∀n b w t,ByT P s c kq n b w t->∀d,(λ_=>True:o_->Prop) (w.at d):=λ_ _ _ _ _ _=>trivial
 have F:Conc.served (gK P s f (c0::cs)) (commResult (O9 s.q0 s.q2) .select 1 (b_ 2) true)=BO (n0 P kv pa told f (c0::cs) s.r s.q0 s.q2 2):=by
  unfold n0
  rw[aj2 hT]
  rfl
 rw[F]at H;refine(H.Uz (sl:=sl) (K:=λ_=>True) C O (DT (A.F7.n1a _ _ _ _ _ _ _ _))).bind λG w1 D X _ x=>?_
 rw[at_toldN (l:=slS kv pa told s.r) (A.F7.n1b _ _ _ _ _ _ _ _) (A.F7.n1c _ _ _ _ _ _ _ _) (A.F7.n1d _ _ _ _ _ _ _ _)]at x;refine(cZ.part (sl:=D) W E.under (Jj E.Lu) O (.inl rfl) rfl sJ (λv Q=>S.bad s.r told v _ Q) (λR v τ d ⟨j,a,e,h⟩=>⟨j,a,e,S.tF _ v τ d h⟩) x).bind λI w2 q Y _ i=>?_
 obtain⟨⟨o,a⟩,i⟩:=(i.mono (C':=λg v=>∃y:(Y_)×n_,g=BO (f56 (AQ y.1 [(7,y.2)]) (c0::cs) (T21 P) (QA s.r))/\S.Fin y.2 v) λg v ⟨R,M,j,a,e,h⟩=>⟨(j,a),by rw[M,e];rfl,h⟩).pick;refine(i.Uz (sl:=q) (K:=λ_=>True) C O (DT (A.F7.w3a _ _ _ _))).bind λJ wa u ta _ z=>?_
 obtain⟨U,e⟩:=XY (s:=s) (c0:=c0) (cs:=cs) A.F7 (A.F7.w3b a _ _ s.r) (A.F7.w3c a _ _ s.r) (A.F7.w3d a _ _ s.r) (A.F7.w3e a _ _ s.r) (A.F7.w3f a o (c0::cs) s.r);rw[show BO (run P 12 (f56 (AQ o [(7,a)]) (c0::cs) (T21 P) (QA s.r)))=BO (Fxa.w3 P a o (c0::cs) s.r)from rfl,e]at z;exact(Xo (sl:=u) A E z).mono λT w' V ⟨v,B,k1,k2,k3⟩=>⟨a,v,B,k1,k2,k3⟩
theorem pO (A:Ff P)(E:Env Z Ad s c)(S:Tq P N m kv pa s.n)(hT:Told f (rU kv pa told s.r s.q0 s.q2)){sl:d_ (W_)}
  (H:cZ Od P Z Ad s.Still (λg=>g=0) (λg=>g=c) 0 c (ByT P s c kq) (λg v=>g=Conc.served (gK P s f (c0::cs)) (commResult (O9 s.q0 s.q2) .select 1 (b_ 0) true)/\S.I s.n told v) gs w t):
  AX P gs w sl t (Back Od P Ad Z S.Fin c0 cs):=by
 have O:=al6 (P:=P) (k:=kq) A.done E;have l:∀n b w t,ByT P s c kq n b w t->∀d,(λ_=>True:o_->Prop) (w.at d):=λ_ _ _ _ _ _=>trivial
 have i:Conc.served (gK P s f (c0::cs)) (commResult (O9 s.q0 s.q2) .select 1 (b_ 0) true)=BO (n0 P kv pa told f (c0::cs) s.r s.q0 s.q2 0):=by
  unfold n0
  rw[aj2 hT]
  rfl
 rw[i]at H;refine(H.Uz (sl:=sl) (K:=λ_=>True) l O (DT (A.F7.w2a _ _ _ _ _ _ _ _))).bind λj y a u _ h=>?_
 obtain⟨p,e⟩:=XY (s:=s) (c0:=c0) (cs:=cs) A.F7 (A.F7.w2b kv pa told _ _ s.r s.q0 s.q2) (A.F7.w2c kv pa told _ _ s.r s.q0 s.q2) (A.F7.w2d kv pa told _ _ s.r s.q0 s.q2) (A.F7.w2e kv pa told _ _ s.r s.q0 s.q2) (A.F7.w2f kv pa told f (c0::cs) s.r s.q0 s.q2);rw[show BO (run P 32 (n0 P kv pa told f (c0::cs) s.r s.q0 s.q2 0))=BO (Fxa.w2 P kv pa told f (c0::cs) s.r s.q0 s.q2)from rfl,e]at h;exact(Xo (sl:=a) A E h).mono λo x q ⟨v,B,k1,k2,k3⟩=>⟨told,v,B,S.spent _ _ k1,k2,k3⟩
theorem xI (A:Ff P)(W:Yl P L p N host)(M:dU P N m)(E:Env Z Ad s c)(S:Tq P N m kv pa s.n)(hn:s.n<=1000)(hsv:s.sv=VM pa):
  ∀(k:Nat)(i:Int)(told:n_)(f fK:Y_)(gs:Array m_)(w:o_)(sl:d_ (W_))(t:Trace),(s.n-i).toNat<=k->0<=i->i<=s.n->Told fK (rU kv pa told s.r s.q0 s.q2)->
  cZ Od P Z Ad s.Still (I8 c) (λg=>g=0) c 0 (ByK P s c (gK P s fK (c0::cs))) (λg v=>g=BO (LH P (AQ f (Ob s.r s.sv s.n i)) (VK P s.b5 s.b2 s.b3 s.r s.sv s.n))/\S.I i told v) gs w t->
  AX P gs w sl t (zB Od P Ad Z S.Fin c0 cs):=by
 intro k
 induction k using Nat.strongRecOn with
 |_ k ih=>
  intro i told f fK gs w sl t hk h0 hle hT H
  have F:=A.child s.b5 s.b2 s.b3 s.r s.q0 s.q1 s.q2 s.q3 s.sv s.n
  have OK:=vg (P:=P) (gS:=gK P s fK (c0::cs)) E
  refine(yw F OW (bu4 S hsv told) hn W.fenced E.under (Jj E.Lu) zo (λw a h B=>JH h B) E.ss OK W.QM (W.seen 136 sJ) (W.ops _ sJ) h0 k i f gs w sl t hk (Int.le_refl _) hle H).bind λgs1 w1 T t1 _ j=>?_
  obtain j|j:=j.or
  ·
   obtain⟨⟨b,l,x⟩,j⟩:=(j.mono (C':=λg v=>∃y:Int×(Y_)×n_,(i<=y.1/\y.1<s.n)/\g=BO (k3 P s.q0 s.q3 (AQ y.2.1 (Fh s.r s.sv s.n y.1 1 y.2.2)) (VK P s.b5 s.b2 s.b3 s.r s.sv s.n))/\S.Cd y.1 told y.2.2 v) λg v ⟨b,l,x,k1,k2,k3,k4⟩=>⟨(b,l,x),⟨k1,k2⟩,k3,k4⟩).pick;obtain⟨⟨hi0,hi1⟩,j⟩:=j.fact;refine(cZ.give (sl:=T) (xQ E x) (λw h=>ap9 h) (MH _) (λw=>I5 (F.s16 l _ b x) w) (yl F OW l _ b x) j).bind λz w2 o t2 _ u=>?_
   refine(pU (sl:=o) A W E S hT u).bind λgs3 w3 D t3 _ q=>?_
   obtain(q|⟨f3,bA,q⟩)|⟨f3,J,bA,q⟩:=q
   .exact .now q.up
   .exact bY (sl:=D) A W M E S hsv q
   refine(kY (sl:=D) A W M E S q).bind λgs4 w4 Ob t4 _ O=>?_
   obtain⟨f4,An,Y,O⟩:=O;have U:=vg (P:=P) (gS:=gK P s f4 (c0::cs)) E;obtain⟨f5,hw5⟩:=ae (main:=c==0) (K:=s.KW) (Still:=s.Still) (A.ans s.r s.q0 s.q1 s.q3 s.sv s.n) l (VK P s.b5 s.b2 s.b3 s.r s.sv s.n) b x An;refine(O.walk (sl:=Ob) zo (λw a h B=>JH h B) E.ss U hw5).bind λgs5 w5 sl5 t5 _ H5=>?_
   refine(cZ.out (sl:=sl5) (Q:=λtm w'=>∃g,tm=TN 49 (AQ g [(6,.bool true)])/\S.I (b+1) J w') W E.under (Jj E.Lu) U sJ rfl sJ (λv hv=>by rw[hsv];exact S.oO s.q1 s.q3 b J An v f5 hv wB hi1) (λtm v τ d ⟨g,e,h⟩=>⟨g,e,S.tI _ _ v τ d h⟩) H5).bind λgs6 w6 Fh t6 _ R=>?_
   obtain⟨⟨V,td⟩,R⟩:=(R.mono (C':=λg v=>∃y:(Y_)×List Item,g=BO (a2 P s.q0 s.q1 s.q3 x (AQ l (Fxa.Fh s.r s.sv s.n b 1 x)) y.1 (VK P s.b5 s.b2 s.b3 s.r s.sv s.n) y.2)/\S.I (b+1) J v) λg v ⟨tm,G,hg,V,e,h⟩=>⟨(V,G),by rw[hg,e];rfl,h⟩).pick;obtain⟨f7,C⟩:=qW (main:=c==0) (K:=s.KW) (Still:=s.Still) (A.ans s.r s.q0 s.q1 s.q3 s.sv s.n) l V (VK P s.b5 s.b2 s.b3 s.r s.sv s.n) td b x;rw[show IntKind.i64.wrap (b+1)=b+1 by simp[IntKind.wrap,IntKind.bits,IntKind.signed];omega]at C;refine(R.walk (sl:=Fh) zo (λw a h B=>JH h B) E.ss U C).bind λX w7 OL t7 _ H7=>?_
   exact ih (s.n-(b+1)).toNat wB (b+1) J f7 f4 X w7 OL t7 w_ wB wB Y H7
  .obtain j|j:=j.or
   ·
    obtain⟨⟨b,l,x⟩,j⟩:=(j.mono (C':=λg v=>∃y:Int×(Y_)×n_,g=BO (e3 P s.q2 s.q3 (AQ y.2.1 (Fh s.r s.sv s.n y.1 2 y.2.2)) (VK P s.b5 s.b2 s.b3 s.r s.sv s.n))/\S.Bd told v) λg v ⟨b,l,x,k1,k2⟩=>⟨(b,l,x),k1,k2⟩).pick;refine(cZ.last (sl:=T) 2 E (MH _) (λw=>I5 (F.e16 l _ b x) w) (kX F l b x) j).bind λz w2 o t2 _ ⟨kq,u⟩=>?_
    exact(ad1 (sl:=o) A W E S hT u).mono λ_ _ _ h=>h.up
   ·
    obtain⟨l,j⟩:=j.pick;refine(cZ.last (sl:=T) 0 E (MH _) (λw=>I5 (F.d16 l _ s.n) w) (Z9 F l s.n) j).bind λz w2 o t2 _ ⟨kq,u⟩=>?_
    exact(pO (sl:=o) A E S hT u).mono λ_ _ _ h=>h.up
end
end Go.Fxa
