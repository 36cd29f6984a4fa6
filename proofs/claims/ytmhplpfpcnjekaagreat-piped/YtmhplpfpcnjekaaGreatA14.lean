/- The rounds: the child steps, c -/
import Derived.Test.YtmhplpfpcnjekaaGreatA13
namespace Go.Fxa
open Go.Conc
open Go.ConcN (sumTo upd sumTo_upd upd_ne upd_same)
structure VU (P:l_) (L:h_->Prop) (p:h_->Oper->Bool) (N:Fence) (host:h_):Prop where
 fenced:Ul P L p N
 PE:YE L N host
 seen:∀f,(f=56\/f=93\/f=97\/f=136\/f=187)->∀es,seen P f es=seen P host es
 ops:∀c,c∈[R2 P,R3 P,S0 P,S1 P,R10 P,R11 P,R15 P,R16 P,A0 P,Ϻ P,Vk P,XT P,R12 P]->c.Bf (p host)=true
def Ends (Q:X_->o_->Prop) (e:Exit) (a:Act) (w:o_):Prop:=e=.normal/\a.defers=[]/\Q a.tmps w
def XU (Q:X_->o_->Prop) (e:Exit) (a:Act) (w:o_):Prop:=e=.ret/\a.defers=[]/\Q a.tmps w
def Vu (kv:n_) (pa:f_) (told:n_) (r:Nat) (x:n_) (bA:Nat):List (Nat×n_):=[(0,kv),(1,pv pa),(7,told),(8,pr r),(9,x),(10,pr bA)]
def ϣ (kv:n_) (pa:f_) (told:n_) (r bA:Nat) (b:Bool):List (Nat×n_):=[(0,kv),(1,pv pa),(7,told),(8,pr r),(10,pr bA),(59,.bool b)]
def TV (pa:f_):n_:=.pointer (some (pa.add 5))
def Ib (v v':o_):Prop:=v.heap.size<=v'.heap.size/\(∀x,x<v.heap.size->v'.heap[x]?=v.heap[x]?)/\v'.os=v.os/\v'.output=v.output
def tK (pa:f_) (cs:X_) (ty:j_) (p:Int) (v v':o_):Prop:=
 v.heap.size<=v'.heap.size/\(∀x,x<v.heap.size->x≠pa.block->v'.heap[x]?=v.heap[x]?)/\v'.heap[pa.block]?=some (Uh cs ty (pa.add 5) p)/\v'.os=v.os/\v'.output=v.output
structure QN (P:l_) (N:Fence) (m:Nat) (kv:n_) (pa:f_) (n:Int) where
 I:Int->n_->o_->Prop
 Cd:Int->n_->n_->o_->Prop
 Bd:n_->o_->Prop
 D:Int->n_->n_->Nat->o_->Prop
 E0:Int->n_->Nat->o_->Prop
 E:Int->n_->Nat->o_->Prop
 An:Int->n_->n_->o_->Prop
 Fin:n_->o_->Prop
 Dn:Int->n_->n_->Nat->o_->Prop
 Db:Int->n_->n_->Nat->o_->Prop
 Bc:Int->n_->Nat->o_->Prop
 Bl:Int->n_->o_->Prop
 tDn:∀i told x b,CY (Dn i told x b)
 tDb:∀i told x b,CY (Db i told x b)
 tBc:∀i told b,CY (Bc i told b)
 tBl:∀i told,CY (Bl i told)
 tI:∀i told,CY (I i told)
 tC:∀i told x,CY (Cd i told x)
 tB:∀told,CY (Bd told)
 tD:∀i told x b,CY (D i told x b)
 tE0:∀i told b,CY (E0 i told b)
 tE:∀i told b,CY (E i told b)
 tA:∀i told A,CY (An i told A)
 tF:∀told,CY (Fin told)
 step:∀(r:Nat) (i:Int) (told:n_) (v:o_) (f:Y_),I i told v->0<=i->i<n->∀τ d,(Vk P).wpIn N m P (Ends λtm w'=>∃f' oc x,tm=qy (AL f' (sl6 r (TV pa) n i oc x))/\((oc=0/\I (i+1) told w')\/(oc=1/\Cd i told x w')\/(oc=2/\Bd told w'))) ⟨qy (AL f (sl4 r (TV pa) n i)),[]⟩ (v.re τ d)
 serve:∀(r:Nat) (i:Int) (told x:n_) (v:o_) (f:Y_),Cd i told x v->∀τ d,(R10 P).wpIn N m P (Ends λtm w'=>∃f' bA,tm=TN 76 (AL f' (Vu kv pa told r x bA))/\D i told x bA w') ⟨TN 76 (AL f (slX kv pa told r x)),[]⟩ (v.re τ d)
 asked:∀(r:Nat) (i:Int) (told x:n_) (bA:Nat) (v:o_) (f:Y_),D i told x bA v->∀τ d,(R11 P).wpIn N m P (Ends λtm w'=>∃f' b,tm=TN 76 (AL (AL f' (Vu kv pa told r x bA)) [(39,.bool b)])/\((b=false/\Dn i told x bA w')\/(b=true/\Db i told x bA w'))) ⟨TN 76 (AL f (Vu kv pa told r x bA)),[]⟩ (v.re τ d)
 tells:∀(r:Nat) (i:Int) (told x:n_) (bA:Nat) (v:o_) (f:Y_),Dn i told x bA v->∀τ d,(R15 P).wpIn N m P (Ends λtm w'=>∃f' BM,tm=TN 76 (AL f' (qo kv pa BM r bA))/\E0 i BM bA w') ⟨TN 76 (AL f (Vu kv pa told r x bA)),[]⟩ (v.re τ d)
 ended:∀(r:Nat) (i:Int) (told:n_) (bA:Nat) (v:o_) (f:Y_),E0 i told bA v->∀τ d,(R16 P).wpIn N m P (Ends λtm w'=>∃f' b,tm=TN 76 (AL f' (ϣ kv pa told r bA b))/\((b=true/\Fin told w')\/(b=false/\E i told bA w'))) ⟨TN 76 (AL f (qo kv pa told r bA)),[]⟩ (v.re τ d)
 answer:∀i told bA v,E i told bA v->∃s0 s1 s2,Cells v [(S_ bA),(T_ bA 1),(T_ bA 2)] [s0,s1,s2]/\An i told (.agg #[s0,s1,s2]) v
 grow:∀i told A v v',An i told A v->Ib v v'->An i told A v'
 fH:∀(q1 q3:Nat) (i:Int) (told A:n_) (v:o_) (f:Y_),An i told A v->0<=i->i<n->∀τ d,(XT P).wpIn N m P (XU λtm w'=>∃g,tm=TN 49 (AL g [(6,.bool true)])/\I (i+1) told w') ⟨TN 49 (AL f (slA q1 q3 (TV pa) A)),[]⟩ (v.re τ d)
 bad:∀(r:Nat) (told:n_) (v:o_) (f:Y_),Bd told v->∀τ d,(Ϻ P).wpIn N m P (Ends λtm w'=>∃f' BM,tm=TN 76 (AL f' [(7,BM)])/\Fin BM w') ⟨TN 76 (AL f (Ϯ kv pa told r)),[]⟩ (v.re τ d)
 spent:∀told v,I n told v->Fin told v
 blocks:∀(r:Nat) (i:Int) (told x:n_) (bA:Nat) (v:o_) (f:Y_),Db i told x bA v->∀τ d,(R12 P).wpIn N m P (Ends λtm w'=>∃f',tm=TN 76 (AL f' (qo kv pa told r bA))/\Bc i told bA w') ⟨TN 76 (AL f (Vu kv pa told r x bA)),[]⟩ (v.re τ d)
 blocked:∀i told bA v,Bc i told bA v->∃x0 y0 fn ca cb,Cells v [(S_ bA),(T_ bA 1),(T_ bA 2)] [a_ x0,a_ y0,.func fn ca cb]/\Bl i told v
 ao4:∀i told v,Bl i told v->∃cs ty p,v.heap[pa.block]?=some (O_ cs ty)/\cs[pa.off+7]?=some (a_ p)/\∀v',tK pa cs ty p v v'->Fin told v'
structure YC (P:l_) (N:Fence) (m:Nat):Prop where
 box:∀(r:Nat) (s0 s1 s2:n_) (v:o_) (g:Y_),∀τ d,(A0 P).wpIn N m P (Ends λtm w'=>∃g' bB,tm=TN 9 (AL g' (xM r (.agg #[s0,s1,s2]) bB))/\(Ib v w'/\bB=v.heap.size/\w'.heap.size=v.heap.size+1)/\Cells w' [(S_ bB),(T_ bB 1),(T_ bB 2)] [s0,s1,s2]) ⟨TN 9 (AL g [(0,pr r),(1,.agg #[s0,s1,s2])]),[]⟩ (v.re τ d)
theorem ZP {Q:X_->o_->Prop}:∀e a w,Ends Q e a w->(e=.normal\/e=.ret)/\a.defers=[]:=λ_ _ _ h=>⟨.inl h.1,h.2.1⟩
theorem rO {Q:X_->o_->Prop}:∀e a w,XU Q e a w->(e=.normal\/e=.ret)/\a.defers=[]:=λ_ _ _ h=>⟨.inr h.1,h.2.1⟩
section
variable {P:l_} {L:h_->Prop} {p:h_->Oper->Bool} {N:Fence} {Z:Nat->Prop} {Ac Still:Loc->Prop} {Mem Ai:Nat->Prop} {h j:Nat} {By:Nat->m_->o_->Trace->Prop} {gs:Array m_} {w:o_} {sl:d_ (W_)} {t:Trace} {host:h_}
theorem Holds.part {Od:Old} {Ei:h_} {kd:CallKind} {k:List Item} {ds:List Deferred} {Q:X_->o_->Prop} {c:Code} {tmps:X_} {m:Nat} {cs:Z_} {J:o_->Prop} (W:VU P L p N host) (hu:FT Ac Z) (BI:FT Still Z) (O:Gp P Z Ac Still (fun B t=>PX Ac Still Mem Ai B h t) j By) (hf:Ei=56\/Ei=93\/Ei=97\/Ei=136\/Ei=187) (hkd:(kd==CallKind.early)=false)
  (hc:c∈[R2 P,R3 P,S0 P,S1 P,R10 P,R11 P,R15 P,R16 P,A0 P,Ϻ P,Vk P,XT P,R12 P]) (hw:∀v,J v->∀τ d,c.wpIn N m P (Ends Q) ⟨tmps,[]⟩ (v.re τ d)) (hQ:∀tm,CY (Q tm))
  (H:Holds Od P Z Ac Still Mem Ai h j By (λg v=>g=G (Frame.mk Ei tmps (.code c::k) ds .run kd none) cs/\J v) gs w t):AA P gs w sl t (Holds Od P Z Ac Still Mem Ai h j By (λg v=>∃tm,g=G (Frame.mk Ei tm k ds .run kd none) cs/\Q tm v)):=
 (Holds.piece W.fenced hu BI O W.PE (W.seen Ei hf) hkd (W.ops c hc) ZP hw H).mono λi n l a=>a.mono λg v ⟨tm,τ,d,b⟩=>by
  obtain⟨rfl,_,_,f⟩|⟨_,_,e,_⟩:=b
  .exact⟨tm,rfl,(hQ tm).back f⟩
  .cases e
theorem Holds.out {Od:Old} {Ei:h_} {kd:CallKind} {k:List Item} {ds:List Deferred} {Q:X_->o_->Prop} {c:Code} {tmps:X_} {m:Nat} {cs:Z_} {J:o_->Prop} (W:VU P L p N host) (hu:FT Ac Z) (BI:FT Still Z) (O:Gp P Z Ac Still (fun B t=>PX Ac Still Mem Ai B h t) j By) (hf:Ei=56\/Ei=93\/Ei=97\/Ei=136\/Ei=187) (hkd:(kd==CallKind.early)=false)
  (hc:c∈[R2 P,R3 P,S0 P,S1 P,R10 P,R11 P,R15 P,R16 P,A0 P,Ϻ P,Vk P,XT P,R12 P]) (hw:∀v,J v->∀τ d,c.wpIn N m P (XU Q) ⟨tmps,[]⟩ (v.re τ d)) (hQ:∀tm,CY (Q tm))
  (H:Holds Od P Z Ac Still Mem Ai h j By (λg v=>g=G (Frame.mk Ei tmps (.code c::k) ds .run kd none) cs/\J v) gs w t):AA P gs w sl t (Holds Od P Z Ac Still Mem Ai h j By (λg v=>∃tm todo,g=G (Frame.mk Ei tm todo ds .returning kd none) cs/\Q tm v)):=
 (Holds.piece W.fenced hu BI O W.PE (W.seen Ei hf) hkd (W.ops c hc) rO hw H).mono λi n l a=>a.mono λg v ⟨tm,τ,d,b⟩=>by
  obtain⟨_,e,_⟩|⟨todo,rfl,_,_,f⟩:=b
  .cases e
  .exact⟨tm,todo,rfl,(hQ tm).back f⟩
theorem Holds.pick {Od:Old} {ι:Type} {C:ι->m_->o_->Prop} (H:Holds Od P Z Ac Still Mem Ai h j By (λg v=>∃x,C x g v) gs w t):∃x,Holds Od P Z Ac Still Mem Ai h j By (C x) gs w t:=by
 obtain⟨q,n,B,g,v,a,⟨x,c⟩,b⟩:=H;exact⟨x,q,n,B,g,v,a,c,b⟩
theorem Holds.fact {Od:Old} {F:Prop} {C:m_->o_->Prop} (H:Holds Od P Z Ac Still Mem Ai h j By (λg v=>F/\C g v) gs w t):F/\Holds Od P Z Ac Still Mem Ai h j By C gs w t:=by
 obtain⟨q,n,B,g,v,a,⟨c,d⟩,b⟩:=H;exact⟨c,q,n,B,g,v,a,d,b⟩
theorem Holds.or {Od:Old} {C C':m_->o_->Prop} (H:Holds Od P Z Ac Still Mem Ai h j By (λg v=>C g v\/C' g v) gs w t):Holds Od P Z Ac Still Mem Ai h j By C gs w t\/Holds Od P Z Ac Still Mem Ai h j By C' gs w t:=by
 obtain⟨q,n,B,g,v,b,a|a,c⟩:=H
 .exact .inl ⟨q,n,B,g,v,b,a,c⟩
 .exact .inr ⟨q,n,B,g,v,b,a,c⟩
end
def Told (f:Y_) (l:List (Nat×n_)):Prop:=∀p∈l,f p.1=p.2
theorem Told.eq {f:Nat->n_} {l:List (Nat×n_)} (h:Told f l):AL f l=f:=MC h
def jm (kv:n_) (pa:f_) (told:n_) (r q0 q2:Nat):List (Nat×n_):=[(0,kv),(1,pv pa),(7,told),(8,pr r),(25,DI q0),(27,DI q2)]
def gK (P:l_) (s:JF) (f:Y_) (cs:Z_):m_:=BD (kS P f cs s.r)
section
variable {P:l_} {L:h_->Prop} {p:h_->Oper->Bool} {N:Fence} {m:Nat} {host:h_} {Z:Nat->Prop} {Ac:Loc->Prop} {s:JF} {c:Nat} {kv:n_} {pa:f_} {c0:Frame} {cs:Z_}
def Back (Od:Old) (P:l_) (Ac:Loc->Prop) (Z:Nat->Prop) (Fin:n_->o_->Prop) (c0:Frame) (cs:Z_) (gs:Array m_) (w:o_) (t:Trace):Prop:=
 ∃told v B,Fin told v/\gs[0]?=some (G (c0.finish told) cs)/\Beside Od P Ac Z B v gs w t
def qZ (Od:Old) (P:l_) (Ac:Loc->Prop) (Z:Nat->Prop) (Fin:n_->o_->Prop) (c0:Frame) (cs:Z_) (gs:Array m_) (w:o_) (t:Trace):Prop:=
 ∃Z',(∀x,Z x->Z' x)/\Back Od P Ac Z' Fin c0 cs gs w t
theorem Back.up {Od:Old} {Fin:n_->o_->Prop} {gs:Array m_} {w:o_} {t:Trace} (h:Back Od P Ac Z Fin c0 cs gs w t):qZ Od P Ac Z Fin c0 cs gs w t:=⟨Z,λ_ h=>h,h⟩
theorem Vz {x:Frame×Z_} {told:n_} {td:List Item} (K:Tm P) (hb:x.1=(sR P [] s.r).1) (hc:x.2=(below x).1::c0::cs) (hd:CU (below x)=(56,td,[],.returning,.normal,none,c0::cs)) (he:slotsOf (below x) [6]=[told]) (hf:(below x).1.tmps.size=76):
  ∃f,BD x=BD (Ui P s f td told c0 cs):=by
 have e:=at_toldM (l:=[(6,told)]) hd he hf;refine⟨slot (below x),?_⟩;unfold Ui;rw[K.sRf];have e1:(below x).1=uz (AL (slot (below x)) [(6,told)]) td:=congrArg Prod.fst e;show G x.1 x.2=G (sR P [] s.r).1 (uz (AL (slot (below x)) [(6,told)]) td::c0::cs);rw[hb,hc,e1]
theorem gU {Od:Old} (A:EK P) (W:VU P L p N host) (E:Env Z Ac s c) (S:QN P N m kv pa s.n) {i:Int} {told x:n_} {f fc:Nat->n_} (hT:Told f (jm kv pa told s.r s.q0 s.q2)) {gs:Array m_} {w:o_} {sl:d_ (W_)} {t:Trace}
  (H:Holds Od P Z Ac s.Still (IC c) (λg=>g=c) 0 c (jl P s c (gC P s fc i x)) (λg v=>g=Conc.served (gK P s f (c0::cs)) (commResult (NZ s.q0 s.q2) .select 0 x true)/\S.Cd i told x v) gs w t):
  AA P gs w sl t λA7 w' t'=>(Back Od P Ac Z S.Fin c0 cs A7 w' t'\/(∃f' bA,Holds Od P Z Ac s.Still (IC c) (λg=>g=c) 0 c (jl P s c (gC P s fc i x)) (λg v=>g=BD (f56 (AL f' (qo kv pa told s.r bA)) (c0::cs) (T12 P) (Pn s.r))/\S.Bc i told bA v) A7 w' t'))\/∃f' BM bA,Holds Od P Z Ac s.Still (IC c) (λg=>g=c) 0 c (jl P s c (gC P s fc i x)) (λg v=>g=BD (f56 (AL f' (slF kv pa BM s.r bA)) (c0::cs) (Ϫ P) (Pn s.r))/\S.E i BM bA v) A7 w' t':=by
 have O:=Wh (P:=P) (gC:=gC P s fc i x) E;have J:=IQ E.J7;have I:∀n b w t,jl P s c (gC P s fc i x) n b w t->∀d,(λ_=>True:o_->Prop) (w.at d):=λ_ _ _ _ _ _=>trivial
 have e0:Conc.served (gK P s f (c0::cs)) (commResult (NZ s.q0 s.q2) .select 0 x true)=BD (x0 P kv pa told f (c0::cs) s.r s.q0 s.q2 x):=by
  unfold x0
  rw[show AL f (Ϯ kv pa told s.r)=f from Told.eq λq j=>hT q (by simp only[Ϯ,jm,r_,List.not_mem_nil,or_false]at j ⊢;obtain h|h|h|h:=j<;>simp[h])]
  rfl
 rw[e0]at H;refine(H.RH (sl:=sl) (K:=λ_=>True) I O (Dv (A.Fz.x1a _ _ _ _ _ _ _ _ _))).bind λgs1 w1 Jg t1 _ H1=>?_
 rw[show run P 12 (x0 P kv pa told f (c0::cs) s.r s.q0 s.q2 x)=x1 P kv pa told f (c0::cs) s.r s.q0 s.q2 x from rfl,at_toldN (l:=slX kv pa told s.r x) (A.Fz.x1b _ _ _ _ _ _ _ _ _) (A.Fz.x1c _ _ _ _ _ _ _ _ _) (A.Fz.x1d _ _ _ _ _ _ _ _ _)]at H1;refine(Holds.part (sl:=Jg) W E.under J O (.inl rfl) rfl (by simp) (λv o=>S.serve s.r i told x v _ o) (λu v τ d ⟨f',bA,e,h⟩=>⟨f',bA,e,S.tD _ _ _ _ v τ d h⟩) H1).bind λgs2 w2 X t2 _ R=>?_
 obtain⟨⟨f2,bA⟩,R⟩:=(R.mono (C':=λg v=>∃y:(Y_)×Nat,g=BD (f56 (AL y.1 (Vu kv pa told s.r x y.2)) (c0::cs) (T10 P) (Pn s.r))/\S.D i told x y.2 v) λg v ⟨u,a,f',bA,e,h⟩=>⟨(f',bA),by rw[a,e];rfl,h⟩).pick;refine(R.RH (sl:=X) (K:=λ_=>True) I O (IK (A.Fz.x2 _ _ _))).bind λgs3 w3 Y t3 _ H3=>?_
 refine(Holds.part (sl:=Y) W E.under J O (.inl rfl) rfl (by simp) (λv o=>S.asked s.r i told x bA v f2 o) (λu v τ d ⟨f',b,e,h⟩=>⟨f',b,e,h.imp (λh=>⟨h.1,S.tDn _ _ _ _ v τ d h.2⟩) λh=>⟨h.1,S.tDb _ _ _ _ v τ d h.2⟩⟩) H3).bind λgs4 w4 sl4 t4 _ k=>?_
 rcases(k.mono (C':=λg v=>(∃y:Nat->n_,g=BD (f56 (AL (AL y (Vu kv pa told s.r x bA)) [(39,.bool true)]) (c0::cs) (T11 P) (Pn s.r))/\S.Db i told x bA v)\/(∃y:Nat->n_,g=BD (f56 (AL (AL y (Vu kv pa told s.r x bA)) [(39,.bool false)]) (c0::cs) (T11 P) (Pn s.r))/\S.Dn i told x bA v)) λg v ⟨u,a,f',b,e,h⟩=>by
  obtain⟨rfl,h⟩|⟨rfl,h⟩:=h
  .exact .inr ⟨f',by rw[a,e];rfl,h⟩
  .exact .inl ⟨f',by rw[a,e];rfl,h⟩).or with k|k
 .obtain⟨Q,k⟩:=k.pick;refine(k.RH (sl:=sl4) (K:=λ_=>True) I O (IK (A.blk.y3 _ _ _))).bind λU w5 G t5 _ M=>?_
  rw[show AL (AL Q (Vu kv pa told s.r x bA)) [(39,.bool true)]=AL (AL (AL Q (Vu kv pa told s.r x bA)) [(39,.bool true)]) (Vu kv pa told s.r x bA)from(Told.eq λq j=>by
   simp only[Vu,r_,List.not_mem_nil,or_false]at j
   obtain h|h|h|h|h|h:=j<;>subst h<;>rfl).symm]at M;refine(Holds.part (sl:=G) W E.under J O (.inl rfl) rfl (by simp) (λv o=>S.blocks s.r i told x bA v _ o) (λu v τ d ⟨f',e,h⟩=>⟨f',e,S.tBc _ _ _ v τ d h⟩) M).mono λV w6 t6 C=>?_
  obtain⟨T,C⟩:=(C.mono (C':=λg v=>∃y:Nat->n_,g=BD (f56 (AL y (qo kv pa told s.r bA)) (c0::cs) (T12 P) (Pn s.r))/\S.Bc i told bA v) λg v ⟨u,a,f',e,h⟩=>⟨f',by rw[a,e];rfl,h⟩).pick;exact .inl (.inr ⟨T,bA,C⟩)
 obtain⟨Q,k⟩:=k.pick;refine(k.RH (sl:=sl4) (K:=λ_=>True) I O (IK (A.Fz.x3 _ _ _))).bind λU w5 G t5 _ M=>?_
 rw[show AL (AL Q (Vu kv pa told s.r x bA)) [(39,.bool false)]=AL (AL (AL Q (Vu kv pa told s.r x bA)) [(39,.bool false)]) (Vu kv pa told s.r x bA)from(Told.eq λq j=>by
  simp only[Vu,r_,List.not_mem_nil,or_false]at j
  obtain h|h|h|h|h|h:=j<;>subst h<;>rfl).symm]at M;refine(Holds.part (sl:=G) W E.under J O (.inl rfl) rfl (by simp) (λv o=>S.tells s.r i told x bA v _ o) (λu v τ d ⟨f',BM,e,h⟩=>⟨f',BM,e,S.tE0 _ _ _ v τ d h⟩) M).bind λV w6 sl6 t6 _ C=>?_
 obtain⟨⟨T,BM⟩,C⟩:=(C.mono (C':=λg v=>∃y:(Y_)×n_,g=BD (f56 (AL y.1 (qo kv pa y.2 s.r bA)) (c0::cs) (T15 P) (Pn s.r))/\S.E0 i y.2 bA v) λg v ⟨u,a,f',BM,e,h⟩=>⟨(f',BM),by rw[a,e];rfl,h⟩).pick;refine(C.RH (sl:=sl6) (K:=λ_=>True) I O (IK (A.Fz.x4 _ _ _))).bind λgs7 w7 sl7 t7 _ H7=>?_
 refine(Holds.part (sl:=sl7) W E.under J O (.inl rfl) rfl (by simp) (λv o=>S.ended s.r i BM bA v T o) (λu v τ d ⟨f',b,e,h⟩=>⟨f',b,e,h.imp (λh=>⟨h.1,S.tF _ v τ d h.2⟩) λh=>⟨h.1,S.tE _ _ _ v τ d h.2⟩⟩) H7).bind λgs8 w8 sl8 t8 _ H8=>?_
 rcases(H8.mono (C':=λg v=>(∃y:Nat->n_,g=BD (f56 (AL y (ϣ kv pa BM s.r bA true)) (c0::cs) (Ϫ P) (Pn s.r))/\S.Fin BM v)\/(∃y:Nat->n_,g=BD (f56 (AL y (slF kv pa BM s.r bA)) (c0::cs) (Ϫ P) (Pn s.r))/\S.E i BM bA v)) λg v ⟨u,a,f',b,e,h⟩=>by
  obtain⟨rfl,h⟩|⟨rfl,h⟩:=h
  .exact .inl ⟨f',by rw[a,e];rfl,h⟩
  .exact .inr ⟨f',by rw[a,e];rfl,h⟩).or with z|z
 .obtain⟨F,z⟩:=z.pick;rw[show AL F (ϣ kv pa BM s.r bA true)=AL (AL F (ϣ kv pa BM s.r bA true)) [(7,BM),(59,.bool true)]from(Told.eq λq j=>by
   simp only[r_,List.not_mem_nil,or_false]at j
   obtain h|h:=j<;>subst h<;>rfl).symm]at z;refine(z.RH (sl:=sl8) (K:=λ_=>True) I O (Dv (A.Fz.w1a _ _ _ _))).bind λgsa wa sla ta _ Ha=>?_
  obtain⟨fe,e⟩:=Vz (s:=s) (c0:=c0) (cs:=cs) A.Fz (A.Fz.w1b BM _ _ s.r) (A.Fz.w1c BM _ _ s.r) (A.Fz.w1d BM _ _ s.r) (A.Fz.w1e BM _ _ s.r) (A.Fz.w1f BM (AL F (ϣ kv pa BM s.r bA true)) (c0::cs) s.r);rw[show BD (run P 13 (f56 (AL (AL F (ϣ kv pa BM s.r bA true)) [(7,BM),(59,.bool true)]) (c0::cs) (Ϫ P) (Pn s.r)))=BD (Fxa.w1 P BM (AL F (ϣ kv pa BM s.r bA true)) (c0::cs) s.r)from rfl,e]at Ha;exact(iQ (sl:=sla) A E Ha).mono λA7 w' t' ⟨v,B,k1,k2,k3⟩=>.inl (.inl ⟨BM,v,B,k1,k2,k3⟩)
 .obtain⟨F,z⟩:=z.pick;exact .now (.inr ⟨F,BM,bA,z⟩)
end
section
variable {P:l_} {L:h_->Prop} {p:h_->Oper->Bool} {N:Fence} {m:Nat} {host:h_} {Z:Nat->Prop} {Ac:Loc->Prop} {s:JF} {c:Nat} {kv:n_} {pa:f_} {c0:Frame} {cs:Z_}
theorem KH (x:Frame×Z_):(BD x).status=.running:=rfl
theorem rH {x:Frame×Z_} {told:n_} (K:Tm P) (hb:CU x=(56,qG P,Pn s.r,.run,.normal,none,c0::cs)) (hc:slotsOf x [0,1,7,8,25,27]=[kv,pv pa,told,pr s.r,DI s.q0,DI s.q2]) (hd:x.1.tmps.size=76):
  ∃f,Told f (jm kv pa told s.r s.q0 s.q2)/\BD x=gK P s f (c0::cs)/\Nr P x=some (NZ s.q0 s.q2):=by
 have e:=at_toldN (l:=jm kv pa told s.r s.q0 s.q2) hb hc hd;refine⟨AL (slot x) (jm kv pa told s.r s.q0 s.q2),?_,?_,?_⟩
 .intro q a;simp only[jm,r_,List.not_mem_nil,or_false]at a;obtain h|h|h|h|h|h:=a<;>subst h<;>rfl
 .exact congrArg BD e
 .have b:=K.k1 (AL (slot x) (jm kv pa told s.r s.q0 s.q2)) (c0::cs) s.r s.q0 s.q2;rw[show AL (AL (slot x) (jm kv pa told s.r s.q0 s.q2)) [(25,DI s.q0),(27,DI s.q2)]=AL (slot x) (jm kv pa told s.r s.q0 s.q2)from Told.eq λq a=>by
   simp only[r_,List.not_mem_nil,or_false]at a
   obtain h|h:=a<;>subst h<;>rfl]at b;rw[e];exact b
def Boxed (J:o_->Prop) (bB:Nat) (v:o_):Prop:=∃v0,J v0/\Ib v0 v/\bB=v0.heap.size/\v.heap.size=v0.heap.size+1
theorem Boxed.tape {J:o_->Prop} {bB:Nat}:CY (Boxed J bB):=λ_ _ _ ⟨v0,b,a,c,d⟩=>⟨v0,b,⟨a.1,a.2.1,a.2.2.1,a.2.2.2⟩,c,d⟩
theorem WW {Od:Old} (A:EK P) (W:VU P L p N host) (M:YC P N m) (E:Env Z Ac s c) {gCx:m_} {J:o_->Prop} {s0 s1 s2:n_} {f0:Nat->n_} {Y:Z_} {gs:Array m_} {w:o_} {sl:d_ (W_)} {t:Trace}
  (H3:Holds Od P Z Ac s.Still (IC c) (λg=>g=c) 0 c (jl P s c gCx) (λg v=>g=BD (Frame.mk 97 (TN 9 (AL f0 [(0,pr s.r),(1,.agg #[s0,s1,s2])])) (.code (A0 P)::V97 P) [] .run .normal none,Y)/\J v) gs w t):
  AA P gs w sl t λA7 w' t'=>∃g4 bB,Holds Od P Z Ac s.Still (IC c) (λg=>g=c) 0 c (jl P s c gCx) (λg v=>g=BD (xs P g4 Y s.r s.q1 bB (.agg #[s0,s1,s2]))/\Boxed J bB v/\Cells v [(S_ bB),(T_ bB 1),(T_ bB 2)] [s0,s1,s2]) A7 w' t':=by
 have O:=Wh (P:=P) (gC:=gCx) E;have R:=IQ E.J7;have x:∀{y:Frame×Z_},DL P y (DI s.q1)=some ([(T_ s.r 1)],DI s.q1)->RW P (0==0) s.KW s.Still 1 (BD y) (BD (BB y (DI s.q1))):=λh=>RW.at h (λw h=>let ⟨_,_,hr⟩:=h.1;(JU hr).2.1) (NK (s:=s)).t1
 have walk:∀{gs:Array m_} {w:o_} {sl:d_ (W_)} {t:Trace} {J:o_->Prop} {k:Nat} {a I:m_},Holds Od P Z Ac s.Still (IC c) (λg=>g=c) 0 c (jl P s c gCx) (λg v=>g=a/\J v) gs w t->RW P (0==0) s.KW s.Still k a I->AA P gs w sl t (Holds Od P Z Ac s.Still (IC c) (λg=>g=c) 0 c (jl P s c gCx) (λg v=>g=I/\J v)):=
  λH hw=>H.walk ao3 (λw a h X=>Jc h X) E.ss O hw
 refine(Holds.part (sl:=sl) (Q:=λG w'=>∃q bB,G=TN 9 (AL q (xM s.r (.agg #[s0,s1,s2]) bB))/\Boxed J bB w'/\Cells w' [(S_ bB),(T_ bB 1),(T_ bB 2)] [s0,s1,s2]) W E.under R O (.inr (.inr (.inl rfl))) rfl (by simp)
  (λv hv τ d=>wpIn_mono (M.box s.r s0 s1 s2 v _ τ d) λe a w' ⟨k1,k2,q,bB,k3,K,k5⟩=>⟨k1,k2,q,bB,k3,⟨v,hv,K.1,K.2⟩,k5⟩) (λG v τ d ⟨q,bB,e,h,V⟩=>⟨q,bB,e,Boxed.tape v τ d h,V⟩) H3).bind λU w4 sl4 t4 _ B=>?_
 obtain⟨⟨g4,bB⟩,B⟩:=(B.mono (C':=λg v=>∃y:(Y_)×Nat,g=BD (f97 (AL y.1 (xM s.r (.agg #[s0,s1,s2]) y.2)) Y (V97 P))/\Boxed J y.2 v/\Cells v [(S_ y.2),(T_ y.2 1),(T_ y.2 2)] [s0,s1,s2]) λg v ⟨G,D,q,bB,e,h⟩=>⟨(q,bB),by rw[D,e];rfl,h⟩).pick;refine(Holds.draws (sl:=sl4) A.mixed O (A.Fz.dr _ _) A.Fz.dl B).bind λC w5 F t5 _ o=>?_
 have S:AA P C w5 F t5 (Holds Od P Z Ac s.Still (IC c) (λg=>g=c) 0 c (jl P s c gCx) (λg v=>g=BD (xs P g4 Y s.r s.q1 bB (.agg #[s0,s1,s2]))/\Boxed J bB v/\Cells v [(S_ bB),(T_ bB 1),(T_ bB 2)] [s0,s1,s2])):=by
  obtain⟨⟨l,z⟩,o⟩:=(o.mono (C':=λg v=>∃y:{ l:List Nat // l∈[[0,1,2,3,4,5],[0,1,2,4,3,5],[0,1,4,2,3,5],[0,4,1,2,3,5],[4,0,1,2,3,5]] },g=BD (Vw P g4 Y s.r bB (.agg #[s0,s1,s2]) y.1)/\Boxed J bB v/\Cells v [(S_ bB),(T_ bB 1),(T_ bB 2)] [s0,s1,s2]) λg v ⟨⟨l,z,D⟩,h⟩=>⟨⟨l,z⟩,D,h⟩).pick
  simp only[r_,List.not_mem_nil,or_false]at z
  obtain rfl|rfl|rfl|rfl|rfl:=z
  .refine(walk o (RW.Ar (A.Fz.l1a _ _ _ _ _))).bind λ_ _ b _ _ j=>(walk j (x (A.Fz.l1b _ _ _ _ s.q1 _))).bind λ_ _ f _ _ n=>?_
   have:=Holds.reads (sl:=f) E.under O (A.Fz.l1c _ _ _ _ s.q1 _ s0 s1 s2) (λv h=>h.2) n
   rwa [A.Fz.l1d]at this
  .refine(walk o (RW.Ar (A.Fz.l2a _ _ _ _ _))).bind λ_ _ b _ _ j=>(Holds.reads (sl:=b) E.under O (A.Fz.l2b _ _ _ _ _ s0 s1 s2) (λv h=>h.2) j).bind λ_ _ f _ _ n=>?_
   have:=walk (sl:=f) n (x (A.Fz.l2c _ _ _ _ s.q1 _))
   rwa [A.Fz.l2d]at this
  .refine(walk o (RW.Ar (A.Fz.l3a _ _ _ _ _))).bind λ_ _ b _ _ j=>(Holds.reads (sl:=b) E.under O (A.Fz.l3b _ _ _ _ _ s0 s1 s2) (λv h=>h.2) j).bind λ_ _ f _ _ n=>(walk n (RW.Ar (A.Fz.l3c _ _ _ _ _))).bind λ_ _ i _ _ u=>?_
   have:=walk (sl:=i) u (x (A.Fz.l3d _ _ _ _ s.q1 _))
   rwa [A.Fz.l3e]at this
  .refine(walk o (RW.Ar (A.Fz.l4a _ _ _ _ _))).bind λ_ _ b _ _ j=>(Holds.reads (sl:=b) E.under O (A.Fz.l4b _ _ _ _ _ s0 s1 s2) (λv h=>h.2) j).bind λ_ _ f _ _ n=>(walk n (RW.Ar (A.Fz.l4c _ _ _ _ _))).bind λ_ _ i _ _ u=>?_
   have:=walk (sl:=i) u (x (A.Fz.l4d _ _ _ _ s.q1 _))
   rwa [A.Fz.l4e]at this
  .refine(walk o (RW.Ar (A.Fz.l5a _ _ _ _ _))).bind λ_ _ b _ _ j=>(Holds.reads (sl:=b) E.under O (A.Fz.l5b _ _ _ _ _ s0 s1 s2) (λv h=>h.2) j).bind λ_ _ f _ _ n=>(walk n (RW.Ar (A.Fz.l5c _ _ _ _ _))).bind λ_ _ i _ _ u=>?_
   have:=walk (sl:=i) u (x (A.Fz.l5d _ _ _ _ s.q1 _))
   rwa [A.Fz.l5e]at this
 exact S.mono λA7 w' t' T=>⟨g4,bB,T⟩
theorem aO {Od:Old} (A:EK P) (W:VU P L p N host) (M:YC P N m) (E:Env Z Ac s c) (S:QN P N m kv pa s.n) {i:Int} {told x:n_} {bA:Nat} {f fc:Nat->n_} {gs:Array m_} {w:o_} {sl:d_ (W_)} {t:Trace}
  (H:Holds Od P Z Ac s.Still (IC c) (λg=>g=c) 0 c (jl P s c (gC P s fc i x)) (λg v=>g=BD (f56 (AL f (slF kv pa told s.r bA)) (c0::cs) (Ϫ P) (Pn s.r))/\S.E i told bA v) gs w t):
  AA P gs w sl t λA7 w' t'=>∃f' An,Told f' (jm kv pa told s.r s.q0 s.q2)/\Holds Od P Z Ac s.Still (IC c) (λg=>g=0) c 0 (ByK P s c (gK P s f' (c0::cs))) (λg v=>g=Conc.served (gC P s fc i x) (commResult (Gl s.q1 s.q3) .select 0 An true)/\S.An i told An v) A7 w' t':=by
 have O:=Wh (P:=P) (gC:=gC P s fc i x) E;have R:∀n b w t,jl P s c (gC P s fc i x) n b w t->∀d,(λ_=>True:o_->Prop) (w.at d):=λ_ _ _ _ _ _=>trivial
 refine(H.RH (sl:=sl) (K:=λ_=>True) R O (Dv (A.Fz.bo2 _ _ _ _ _ _ _))).bind λY w1 V t1 _ q=>?_
 obtain⟨⟨a,e,j⟩,q⟩:=(q.mono (C':=λg v=>∃y:n_×n_×n_,g=BD (x18 P kv pa told f (c0::cs) s.r bA)/\Cells v [(S_ bA),(T_ bA 1),(T_ bA 2)] [y.1,y.2.1,y.2.2]/\S.An i told (.agg #[y.1,y.2.1,y.2.2]) v) λg v ⟨hg,h⟩=>by
  obtain⟨a,e,j,h1,h2⟩:=S.answer i told bA v h
  exact⟨(a,e,j),hg,h1,h2⟩).pick;refine(Holds.reads (sl:=V) E.under O (A.Fz.bo1 _ _ _ _ _ _ _ a e j) (λv h=>h.1) q).bind λgs2 w2 D t2 _ T=>?_
 refine(T.RH (sl:=D) (K:=λ_=>True) R O (Dv (A.Fz.bo0 _ _ _ _ _ _ _ _))).bind λgs3 w3 F t3 _ I=>?_
 rw[show run P 2 (BB (x18 P kv pa told f (c0::cs) s.r bA) (.agg #[a,e,j]))=x19 P kv pa told f (c0::cs) s.r bA (.agg #[a,e,j])from rfl,at_toldN (l:=[(0,pr s.r),(1,.agg #[a,e,j])]) (A.Fz.bn9 _ _ _ _ _ _ _ _) (A.Fz.bn8 _ _ _ _ _ _ _ _) (A.Fz.bn7 _ _ _ _ _ _ _ _)]at I;refine(WW (sl:=F) A W M E (I.mono (C':=λg v=>g=BD (Frame.mk 97 (TN 9 (AL (slot (x19 P kv pa told f (c0::cs) s.r bA (.agg #[a,e,j]))) [(0,pr s.r),(1,.agg #[a,e,j])])) (.code (A0 P)::V97 P) [] .run .normal none,Y18 P kv pa told f (c0::cs) s.r bA (.agg #[a,e,j]))/\S.An i told (.agg #[a,e,j]) v) λg v h=>⟨h.1,h.2.2⟩)).bind λgs7 w7 G t7 _ u=>?_
 obtain⟨o,bB,u⟩:=u;obtain⟨Q,z,C,B⟩:=rH (s:=s) A.Fz (A.Fz.v3b kv pa told f o (c0::cs) s.r s.q0 s.q1 s.q2 bA bB (.agg #[a,e,j])) (A.Fz.v3c _ _ _ _ _ _ _ _ _ _ _ _ _) (A.Fz.v3d _ _ _ _ _ _ _ _ _ _ _ _ _);have hw:RW P (0==0) s.KW s.Still 48 (BD (v0 P kv pa told f o (c0::cs) s.r s.q1 bA bB (.agg #[a,e,j]))) (BD (v3 P kv pa told f o (c0::cs) s.r s.q0 s.q1 s.q2 bA bB (.agg #[a,e,j]))):=
  ((((RW.Ar (A.Fz.v1a _ _ _ _ _ _ _ _ _ _ _)).trans (RW.at (A.Fz.v1b _ _ _ _ _ _ _ s.q0 _ _ _ _) (NK (s:=s)).r0 (NK (s:=s)).t0)).trans (RW.Ar (A.Fz.v2a _ _ _ _ _ _ _ _ _ _ _ _))).trans (RW.at (A.Fz.v2b _ _ _ _ _ _ _ _ _ s.q2 _ _ _) (NK (s:=s)).r2 (NK (s:=s)).t2)).trans (RW.Ar (A.Fz.v3a _ _ _ _ _ _ _ _ _ _ _ _ _));have J:=RW.seat (k:=0) (home:=(·=gK P s Q (c0::cs))) (cases:=NZ s.q0 s.q2) (shape:=.select) (KH _) ⟨_,#[],C,KH _,by simp,λw _=>IA B w⟩ hw;have X:BD (v0 P kv pa told f o (c0::cs) s.r s.q1 bA bB (.agg #[a,e,j]))=Conc.served (BD (xs P o (Y18 P kv pa told f (c0::cs) s.r bA (.agg #[a,e,j])) s.r s.q1 bB (.agg #[a,e,j]))) (commResult (bg s.q1 (.agg #[a,e,j])) .send ((0:Nat):Int) undef false):=by
  unfold v0
  rw[Rq]
  rfl
 rw[X]at J;refine(Holds.give (sl:=G) (TE E (.agg #[a,e,j])) (λw h=>rZ h) rfl (λw=>Y7 (A.Fz.xs _ _ _ _ _ _) w) J (u.mono λg v h=>⟨h.1,let ⟨v0,k1,k2,_⟩:=h.2.1;S.grow _ _ _ _ _ k1 k2⟩)).mono λA7 w' t' U=>⟨Q,_,z,U⟩
end
def Ew (v:o_) (pb:Nat) (ob:Obj) (n:Nat):Array Obj:=Array.ofFn (n:=n) λx=>if x.1=pb then ob else(v.heap[x.1]?).getD Dw
theorem Gx {v:o_} {pb n x:Nat} {ob:Obj} (hx:x<n):(Ew v pb ob n)[x]?=some (if x=pb then ob else(v.heap[x]?).getD Dw):=by
 simp[Ew,hx]
def LZ (pb bB y:Nat):Prop:=y=pb\/bB<=y
def LL (pb bB:Nat) (l:Loc):Prop:=∃a:f_,l=.cell a/\LZ pb bB a.block
section
variable {P:l_} {L:h_->Prop} {p:h_->Oper->Bool} {N:Fence} {m:Nat} {host:h_} {Z:Nat->Prop} {Ac:Loc->Prop} {s:JF} {c:Nat} {kv:n_} {pa:f_} {c0:Frame} {cs:Z_}
theorem Twin.au5 {Od:Old} {v0 v w w2:o_} {pb bB:Nat} {ob ob':Obj} (T:Twin Od Z v w) (hZ:∀r,Z r->r<v.heap.size) (hg:Ib v0 v) (hb:bB=v0.heap.size) (Cj:v.heap.size=v0.heap.size+1) (hbz:¬Z bB/\¬Od.dead bB) (hp:v0.heap[pb]?=some ob) (hpz:¬Z pb/\¬Od.dead pb) (bs4:ob'.plain=true)
  (ho:BZ (λx=>Z x\/(x=pb\/bB<=x)) w w2) (hw2:w2.heap[pb]?=some ob'):
  Twin Od (λx=>Z x\/(bB<=x/\x<w2.heap.size)) { v0 with heap:=Ew v0 pb ob' w2.heap.size } w2:=by
 subst hb;have m:=(y_.1 hp).1;have l:v0.heap.size<=w2.heap.size:=by have:=ho.size;have:=T.size;omega
 have i:∀x,Z x->x<v0.heap.size:=λx a=>by
  have:=hZ x a
  have:x≠v0.heap.size:=λe=>hbz.1 (e ▸ a)
  omega
 have f:∀x,Od.dead x->x<v0.heap.size:=λx a=>by
  have:=(y_.1 (T.JQ x a)).1
  have:x≠v0.heap.size:=λe=>hbz.2 (e ▸ a)
  omega
 have c:∀x,x<v0.heap.size->x≠pb->(Ew v0 pb ob' w2.heap.size)[x]?=v.heap[x]?:=λx a k=>by
  rw[Gx (by omega),if_neg k,hg.2.1 x a,v_ a];rfl
 refine⟨by simp[Ew],λx a b=>?_,λx a g=>?_,λx o b=>?_,?_,?_,λx a=>?_,λx a=>?_,λx a h=>?_⟩
 .by_cases g:x<w2.heap.size
  .have d:x<v0.heap.size:=Nat.lt_of_not_le λh=>a (.inr ⟨h,g⟩)
   by_cases e:x=pb
   .subst e;rw[hw2];show(Ew v0 x ob' w2.heap.size)[x]?=_;rw[Gx g,if_pos rfl]
   .show(Ew v0 pb ob' w2.heap.size)[x]?=_;have j:¬Z x:=λh=>a (.inl h)
    rw[c x d e,T.same x j b];exact(ho.same x λh=>h.elim j λh=>h.elim e λh=>by omega).symm
  .rw[Array.getElem?_eq_none (show w2.heap.size<=x by omega)];exact Array.getElem?_eq_none (by show(Ew v0 pb ob' w2.heap.size).size<=x;simp only[Ew,Array.size_ofFn];omega)
 .show(Ew v0 pb ob' w2.heap.size)[x]?=_;obtain a|a:=a
  .have d:=i x a;rw[c x d (λe=>hpz.1 (e ▸ a))];exact T.dead x a (by omega)
  .rw[Gx a.2,if_neg (by omega),Array.getElem?_eq_none a.1];rfl
 .have b:(Ew v0 pb ob' w2.heap.size)[x]?=some o:=b;have g:x<w2.heap.size:=by have:=(y_.1 b).1;simpa [Ew]using this
  by_cases e:x=pb
  .rw[Gx g,if_pos e]at b;rw[<-x_ b];exact bs4
  .by_cases d:x<v0.heap.size
   .rw[c x d e]at b;exact T.plain x o b
   .rw[Gx g,if_neg e,Array.getElem?_eq_none (by omega)]at b;rw[<-x_ b];rfl
 .exact(hg.2.2.1.symm.trans T.os).trans ho.os.symm
 .exact(hg.2.2.2.symm.trans T.output).trans ho.output.symm
 .show(Ew v0 pb ob' w2.heap.size)[x]?=_;rw[c x (f x a) (λe=>hpz.2 (e ▸ a))];exact T.JQ x a
 .have:=f x a;rw[ho.same x λh=>h.elim (T.XG x a) λh=>h.elim (λe=>hpz.2 (e ▸ a)) λh=>by omega];exact T.kept x a
 .have:=f x a;exact h.elim (T.XG x a) λh=>by omega
theorem Ym {Od:Old} (A:EK P) (W:VU P L p N host) (M:YC P N m) (E:Env Z Ac s c) (S:QN P N m kv pa s.n) (hsv:s.sv=TV pa) {i:Int} {told x:n_} {bA:Nat} {f fc:Nat->n_} {gs:Array m_} {w:o_} {sl:d_ (W_)} {t:Trace}
  (H:Holds Od P Z Ac s.Still (IC c) (λg=>g=c) 0 c (jl P s c (gC P s fc i x)) (λg v=>g=BD (f56 (AL f (qo kv pa told s.r bA)) (c0::cs) (T12 P) (Pn s.r))/\S.Bc i told bA v) gs w t):
  AA P gs w sl t (qZ Od P Ac Z S.Fin c0 cs):=by
 have O:=Wh (P:=P) (gC:=gC P s fc i x) E;have hj:∀n b w t,jl P s c (gC P s fc i x) n b w t->∀d,(λ_=>True:o_->Prop) (w.at d):=λ_ _ _ _ _ _=>trivial
 refine(H.RH (sl:=sl) (K:=λ_=>True) hj O (Dv (A.blk.a13 _ _ _ _ _ _ _))).bind λgs1 w1 Jg t1 _ H1=>?_
 obtain⟨⟨x0,u,fn,j,o⟩,H1⟩:=(H1.mono (C':=λg v=>∃y:Int×Int×Fn×X_×X_,g=BD (x13 P kv pa told f (c0::cs) s.r bA)/\Cells v [(S_ bA),(T_ bA 1),(T_ bA 2)] [a_ y.1,a_ y.2.1,.func y.2.2.1 y.2.2.2.1 y.2.2.2.2]/\S.Bl i told v) λg v ⟨hg,h⟩=>by
  obtain⟨x0,u,fn,j,o,h1,h2⟩:=S.blocked i told bA v h
  exact⟨(x0,u,fn,j,o),hg,h1,h2⟩).pick;refine(Holds.reads (sl:=Jg) E.under O (A.blk.b13 _ _ _ _ _ _ _ (a_ x0) (a_ u) (.func fn j o)) (λv h=>h.1) H1).bind λgs2 w2 sl2 t2 _ H2=>?_
 refine(H2.RH (sl:=sl2) (K:=λ_=>True) hj O (Dv (A.blk.a14 _ _ _ _ _ _ _ _))).bind λgs3 w3 sl3 t3 _ H3=>?_
 rw[show run P 2 (BB (x13 P kv pa told f (c0::cs) s.r bA) (.agg #[a_ x0,a_ u,.func fn j o]))=x14 P kv pa told (Ov x0 u fn j o) f (c0::cs) s.r bA from rfl,at_toldN (l:=[(0,pr s.r),(1,Ov x0 u fn j o)]) (A.blk.b14 _ _ _ _ _ _ _ _) (A.blk.c14 _ _ _ _ _ _ _ _) (A.blk.d14 _ _ _ _ _ _ _ _)]at H3;refine(WW (sl:=sl3) (J:=S.Bl i told) A W M E (H3.mono λg v h=>⟨h.1,h.2.2⟩)).bind λgs7 G sl7 t7 _ H7=>?_
 obtain⟨X,bB,H7⟩:=H7;obtain⟨q,n,B,g,v,h1,⟨rfl,⟨v0,hBl,gr,hbB,Cj⟩,z⟩,U,hZ,D⟩:=H7;obtain⟨F,C,R,hp1,hp2,hback⟩:=S.ao4 i told v0 hBl;obtain⟨b,hb,hBy⟩:=D.idle;have jC:s.KS G:=hBy.1.1;have G1:=TE (P:=P) E (Ov x0 u fn j o);refine(WB (Ai:=λg=>g=c) G1.leans G1.weak G1.lasts G1.meets G1.uw G1.uu rfl (es:=#[]) (n+sumTo gs7.size q+1) n gs7 _ G sl7 t7 q B (by omega) h1 rfl D (G1.opens G jC) (λd=>Y7 (A.Fz.xs _ _ _ _ _ _) (G.at d)) (by simp)).bind λgs8 Y sl8 t8 _ Mt=>?_
 obtain⟨q8,g₂,d,k',m1,m2,m3,m4,m5,rfl,m7,m8,m9,m10,m11⟩:=Mt;subst m3;have hK':s.KS ((G.at d).setChan s.q1 0 #[] false (k'+1) (k'+1) false):=G1.keeps G d (k'+1) jC;generalize hw8:(G.at d).setChan s.q1 0 #[] false (k'+1) (k'+1) false=Y at*;have h8:∀y,y≠s.q1->Y.heap[y]?=G.heap[y]?:=λy T=>by rw[<-hw8];exact Jt (Ne.symm T)
 have h8s:Y.heap.size=G.heap.size:=by rw[<-hw8];exact Jd
 have h8o:BZ Z G Y:=by rw[<-hw8];exact Lu (E.zq xZ) G d (k'+1) false
 obtain⟨kq,hkq⟩:=hK'.2.2 s.q3 XR;have hpl:=(y_.1 hp1).1;have I:v.heap[pa.block]?=some (O_ F C):=by rw[gr.2.1 _ hpl];exact hp1
 have Q:¬Z pa.block/\¬Od.dead pa.block:=by
  refine⟨λh=>?_,λh=>?_⟩
  .rw[U.dead _ h (by omega)]at I;simp[Dw]at I
  .rw[U.JQ _ h]at I;simp[Dw]at I
 have hbz:¬Z bB/\¬Od.dead bB:=⟨(U.cell z.1).2.1,U.VL z.1⟩;have V:∀y,(y=pa.block\/bB<=y)->¬Z y:=λy T hz=>by
  obtain rfl|T:=T
  .exact Q.1 hz
  .have:=hZ y hz;have:y≠bB:=λe=>hbz.1 (e ▸ hz)
   omega
 have hpw:Y.heap[pa.block]?=some (O_ F C):=by
  rw[h8 pa.block (λe=>Q.1 (by rw[e];exact E.zq xZ)),<-U.same _ Q.1 Q.2];exact I
 have hbw:bB<Y.heap.size:=by rw[h8s,<-U.size];omega
 have hLs:∀l,(LL pa.block bB) l->¬Ac l:=λl ⟨a,e,ha⟩ h=>by subst e;exact V _ ha (E.under.1 a h)
 have hLt:∀l,(LL pa.block bB) l->¬s.Still l:=λl ⟨a,e,ha⟩ h=>by subst e;exact V _ ha ((IQ E.J7).1 a h)
 have hLW:∀l,KD s.r s.pre l->¬(LL pa.block bB) l:=λl h hl=>hLs l hl (E.ofw l h)
 have hWL:∀l,KD s.r s.pre l->(λl=>Ac l\/LL pa.block bB l) l/\¬(λl=>s.Still l\/LL pa.block bB l) l:=λl h=>⟨.inl (E.ofw l h),λhs=>hs.elim (λhs=>(E.w l h).2 hs) (hLW l h)⟩
 have hnr:¬(LZ pa.block bB) s.r:=λh=>V _ h (E.J7 _ (by simp[JF.own]))
 have HX:=Vj (Zl:=(LZ pa.block bB)) (cs:=F) (RN:=C) (p:=R) (sa:=pa.add 5) (.inl rfl);have HP:LQ P (λy=>y=s.r\/(LZ pa.block bB) y) (λl=>Ac l\/LL pa.block bB l) (λl=>s.Still l\/LL pa.block bB l) (λg=>g=c) c s.r s.pre 257 (ER P s) (Zw P c s.r s.pre 257 (ER P s) (λl=>Ac l\/LL pa.block bB l) (λl=>s.Still l\/LL pa.block bB l) (LZ pa.block bB) (I7 F C (pa.add 5) R)) (I7 F C (pa.add 5) R):=
  ag7 (.inl rfl) (λ_ h=>.inr h) hnr hWL (λa ha=>⟨.inr ⟨a,rfl,ha⟩,.inr ⟨a,rfl,ha⟩⟩) E.c0 rfl HX;have hwalk:Hm P s.r s.pre 257 (LZ pa.block bB) (ER P s).gR (I7 F C (pa.add 5) R) (66+1) (Conc.served (gC P s fc i x) (commResult (Gl s.q1 s.q3) .select 0 (Ov x0 u fn j o) true)) Y:=by
  have:=pR (Zl:=(LZ pa.block bB)) (S0:=bB) (cs:=F) (RN:=C) (p:=R) (pa:=DI s.q0) (pb:=DI s.q1) (pc:=DI s.q2) (pd:=DI s.q3) (A.back s.b5 s.b2 s.b3 s.r s.q0 s.q1 s.q3 (pa.add 5) s.n) (.inl rfl) (λy T=>.inr T) (by show pa.block<bB;omega) hp2 fc i x x0 u fn j o hpw hbw
  unfold gC ER outs
  rw[hsv]
  exact this
 have hby:ByX P s c (Zw P c s.r s.pre 257 (ER P s) (λl=>Ac l\/LL pa.block bB l) (λl=>s.Still l\/LL pa.block bB l) (LZ pa.block bB) (I7 F C (pa.add 5) R)) (I7 F C (pa.add 5) R) kq (66+1+((ER P s).k1+(ER P s).k2+(ER P s).k3+(ER P s).k4+(ER P s).nF+(ER P s).nP+10)) (Conc.served (gC P s fc i x) (commResult (Gl s.q1 s.q3) .select 0 (Ov x0 u fn j o) true)) Y t8:=
  ⟨.inl ⟨⟨m10,m9.knL (λl ⟨a,e,_⟩=>by rw[e];rfl) hLs hLt E.ss⟩,hK'.1,m9.hears c (.inr rfl),66,rfl,hwalk⟩,hkq,hK'.2.1⟩;have D8:Duo P (λl=>Ac l\/LL pa.block bB l) (λl=>s.Still l\/LL pa.block bB l) (λg=>g=0) (λg=>g=c) B 0 c (ByX P s c (Zw P c s.r s.pre 257 (ER P s) (λl=>Ac l\/LL pa.block bB l) (λl=>s.Still l\/LL pa.block bB l) (LZ pa.block bB) (I7 F C (pa.add 5) R)) (I7 F C (pa.add 5) R) kq) _ gs8 Y t8 q8:=
  ⟨Ne.symm E.c0,.inl rfl,λg hg=>.inl hg,⟨_,m2,hby⟩,m7,m8,(m11.fewer (Ko:=λg=>g=0) λg hg=>.inl hg).br6 hLs,by rw[h8s];exact D.size⟩;have Hw:∀y,(y=s.r\/(LZ pa.block bB) y)->(Z y\/(LZ pa.block bB) y):=λy T=>T.imp (λe=>by rw[e];exact E.J7 _ (by simp[JF.own])) id
 have hq0:∀y,s.own y->y≠s.r->¬(y=s.r\/(LZ pa.block bB) y):=λy ho Cf h=>h.elim Cf λh=>V y h (E.J7 y ho)
 have OB:=lh (Z':=λy=>Z y\/(LZ pa.block bB) y) (k:=kq) A.done E.ok E.c0 HP (.inl rfl) Hw hWL (λy h=>.inl (E.J7 y h)) hq0;have e8:Conc.served (BD (xs P X (Y13 P kv pa told (Ov x0 u fn j o) f (c0::cs) s.r bA) s.r s.q1 bB (Ov x0 u fn j o))) (commResult (bg s.q1 (Ov x0 u fn j o)) .send ((0:Nat):Int) undef false)=BD (vB P kv pa told (Ov x0 u fn j o) f X (c0::cs) s.r s.q1 bA bB):=by
  rw[Rq];rfl
 have m1':gs8[0]?=some (BD (vB P kv pa told (Ov x0 u fn j o) f X (c0::cs) s.r s.q1 bA bB)):=by rw[<-e8];exact m1
 refine(GM (J:=λ_=>True) (λ_ _ _ _ _ _=>trivial) OB 16 (Dv (A.blk.w4a kv pa told f X (c0::cs) s.r s.q1 bA bB (Ov x0 u fn j o))) m1' D8).bind λgs9 w9 sl9 t9 _ ⟨q9,n9,B9,h9,o9,_,D9⟩=>?_
 obtain⟨fe,ee⟩:=Vz (s:=s) (c0:=c0) (cs:=cs) A.Fz (A.blk.w4b kv pa told f X (c0::cs) s.r s.q1 bA bB (Ov x0 u fn j o)) (A.blk.w4c kv pa told f X (c0::cs) s.r s.q1 bA bB (Ov x0 u fn j o)) (A.blk.w4d kv pa told f X (c0::cs) s.r s.q1 bA bB (Ov x0 u fn j o)) (A.blk.w4e kv pa told f X (c0::cs) s.r s.q1 bA bB (Ov x0 u fn j o)) (A.blk.w4f kv pa told f X (c0::cs) s.r s.q1 bA bB (Ov x0 u fn j o));have h9':gs9[0]?=some (BD (Ui P s fe (ay3 P) told c0 cs)):=by rw[<-ee];exact h9
 refine(Xn (Z:=λy=>Z y\/(LZ pa.block bB) y) (Ac:=Ac) A E.ok E.c0 HP (.inl rfl) Hw hWL (λy h=>.inl (E.J7 y h)) hq0 (λl hl h=>h.elim (E.ss l hl) λh=>hLt l h hl) (λy h=>h.elim (Uo y) λ⟨_,e,_⟩=>by cases e) (λl h h'=>h.resolve_right λhl=>h' (.inr hl)) (λ_ _ h=>h) h9' D9).mono λA7 w' t' bx3=>?_
 obtain⟨q',B',j1,j2,j3,j4,j5,j6⟩:=bx3;have ap7:BZ (λy=>Z y\/(y=pa.block\/bB<=y)) G w':=((h8o.sub λ_ h=>.inl h).trans o9).trans j2;have TW:=U.au5 hZ gr hbB Cj hbz hp1 Q (ob':=Uh F C (pa.add 5) R) rfl ap7 j6;have hle:v0.heap.size<=w'.heap.size:=by have:=ap7.size;have:=U.size;omega
 refine⟨λy=>Z y\/(bB<=y/\y<w'.heap.size),λ_ h=>.inl h,told,{ v0 with heap:=Ew v0 pa.block (Uh F C (pa.add 5) R) w'.heap.size },B',hback _ ⟨?_,λy T Cf=>?_,?_,rfl,rfl⟩,j1,q',TW,λr hr=>?_,j3,j4,j5⟩
 .simp[Ew];exact hle
 .show(Ew v0 pa.block _ w'.heap.size)[y]?=_;rw[Gx (by omega),if_neg Cf,v_ T];rfl
 .show(Ew v0 pa.block _ w'.heap.size)[pa.block]?=_;rw[Gx (by omega),if_pos rfl]
 .show r<(Ew v0 pa.block _ w'.heap.size).size;simp only[Ew,Array.size_ofFn];obtain hr|hr:=hr
  .have:=hZ r hr;have:=ap7.size;have:=U.size;omega
  .exact hr.2
end
section
variable {P:l_} {L:h_->Prop} {p:h_->Oper->Bool} {N:Fence} {m:Nat} {host:h_} {Z:Nat->Prop} {Ac:Loc->Prop} {s:JF} {c:Nat} {kv:n_} {pa:f_} {c0:Frame} {cs:Z_}
theorem as9 (S:QN P N m kv pa s.n) (hsv:s.sv=TV pa) (told:n_):zO P N m s.r s.sv s.n (λi=>S.I i told) (λi x=>S.Cd i told x) (S.Bd told) where
 wp:=λi v f c a b τ d=>by rw[hsv];exact S.step s.r i told v f c a b τ d
 tI:=λi=>S.tI i told
 tC:=λi x=>S.tC i told x
 tB:=S.tB told
theorem zn {f:Nat->n_} {told:n_} (hT:Told f (jm kv pa told s.r s.q0 s.q2)):AL f (Ϯ kv pa told s.r)=f:=
 Told.eq λq a=>hT q (by simp only[Ϯ,jm,r_,List.not_mem_nil,or_false]at a ⊢;obtain h|h|h|h:=a<;>simp[h])
theorem wP {Od:Old} (A:EK P) (W:VU P L p N host) (E:Env Z Ac s c) (S:QN P N m kv pa s.n) {told:n_} {f:Nat->n_} (hT:Told f (jm kv pa told s.r s.q0 s.q2)) {kq:Nat} {gs:Array m_} {w:o_} {sl:d_ (W_)} {t:Trace}
  (H:Holds Od P Z Ac s.Still (λg=>g=0) (λg=>g=c) 0 c (ByT P s c kq) (λg v=>g=Conc.served (gK P s f (c0::cs)) (commResult (NZ s.q0 s.q2) .select 1 (b_ 2) true)/\S.Bd told v) gs w t):
  AA P gs w sl t (Back Od P Ac Z S.Fin c0 cs):=by
 have O:=zL (P:=P) (k:=kq) A.done E;have C:∀n b w t,ByT P s c kq n b w t->∀d,(λ_=>True:o_->Prop) (w.at d):=λ_ _ _ _ _ _=>trivial
 have F:Conc.served (gK P s f (c0::cs)) (commResult (NZ s.q0 s.q2) .select 1 (b_ 2) true)=BD (n0 P kv pa told f (c0::cs) s.r s.q0 s.q2 2):=by
  unfold n0
  rw[zn hT]
  rfl
 rw[F]at H;refine(H.RH (sl:=sl) (K:=λ_=>True) C O (Dv (A.Fz.n1a _ _ _ _ _ _ _ _))).bind λG w1 D X _ x=>?_
 rw[at_toldN (l:=Ϯ kv pa told s.r) (A.Fz.n1b _ _ _ _ _ _ _ _) (A.Fz.n1c _ _ _ _ _ _ _ _) (A.Fz.n1d _ _ _ _ _ _ _ _)]at x;refine(Holds.part (sl:=D) W E.under (IQ E.J7) O (.inl rfl) rfl (by simp) (λv Q=>S.bad s.r told v _ Q) (λR v τ d ⟨j,a,e,h⟩=>⟨j,a,e,S.tF _ v τ d h⟩) x).bind λI w2 q Y _ i=>?_
 obtain⟨⟨o,a⟩,i⟩:=(i.mono (C':=λg v=>∃y:(Y_)×n_,g=BD (f56 (AL y.1 [(7,y.2)]) (c0::cs) (T21 P) (Pn s.r))/\S.Fin y.2 v) λg v ⟨R,M,j,a,e,h⟩=>⟨(j,a),by rw[M,e];rfl,h⟩).pick;refine(i.RH (sl:=q) (K:=λ_=>True) C O (Dv (A.Fz.w3a _ _ _ _))).bind λJ wa u ta _ z=>?_
 obtain⟨U,e⟩:=Vz (s:=s) (c0:=c0) (cs:=cs) A.Fz (A.Fz.w3b a _ _ s.r) (A.Fz.w3c a _ _ s.r) (A.Fz.w3d a _ _ s.r) (A.Fz.w3e a _ _ s.r) (A.Fz.w3f a o (c0::cs) s.r);rw[show BD (run P 12 (f56 (AL o [(7,a)]) (c0::cs) (T21 P) (Pn s.r)))=BD (Fxa.w3 P a o (c0::cs) s.r)from rfl,e]at z;exact(Vf (sl:=u) A E z).mono λT w' V ⟨v,B,k1,k2,k3⟩=>⟨a,v,B,k1,k2,k3⟩
theorem gG {Od:Old} (A:EK P) (E:Env Z Ac s c) (S:QN P N m kv pa s.n) {told:n_} {f:Nat->n_} (hT:Told f (jm kv pa told s.r s.q0 s.q2)) {kq:Nat} {gs:Array m_} {w:o_} {sl:d_ (W_)} {t:Trace}
  (H:Holds Od P Z Ac s.Still (λg=>g=0) (λg=>g=c) 0 c (ByT P s c kq) (λg v=>g=Conc.served (gK P s f (c0::cs)) (commResult (NZ s.q0 s.q2) .select 1 (b_ 0) true)/\S.I s.n told v) gs w t):
  AA P gs w sl t (Back Od P Ac Z S.Fin c0 cs):=by
 have O:=zL (P:=P) (k:=kq) A.done E;have l:∀n b w t,ByT P s c kq n b w t->∀d,(λ_=>True:o_->Prop) (w.at d):=λ_ _ _ _ _ _=>trivial
 have i:Conc.served (gK P s f (c0::cs)) (commResult (NZ s.q0 s.q2) .select 1 (b_ 0) true)=BD (n0 P kv pa told f (c0::cs) s.r s.q0 s.q2 0):=by
  unfold n0
  rw[zn hT]
  rfl
 rw[i]at H;refine(H.RH (sl:=sl) (K:=λ_=>True) l O (Dv (A.Fz.w2a _ _ _ _ _ _ _ _))).bind λj y a u _ h=>?_
 obtain⟨p,e⟩:=Vz (s:=s) (c0:=c0) (cs:=cs) A.Fz (A.Fz.w2b kv pa told _ _ s.r s.q0 s.q2) (A.Fz.w2c kv pa told _ _ s.r s.q0 s.q2) (A.Fz.w2d kv pa told _ _ s.r s.q0 s.q2) (A.Fz.w2e kv pa told _ _ s.r s.q0 s.q2) (A.Fz.w2f kv pa told f (c0::cs) s.r s.q0 s.q2);rw[show BD (run P 32 (n0 P kv pa told f (c0::cs) s.r s.q0 s.q2 0))=BD (Fxa.w2 P kv pa told f (c0::cs) s.r s.q0 s.q2)from rfl,e]at h;exact(Vf (sl:=a) A E h).mono λo x q ⟨v,B,k1,k2,k3⟩=>⟨told,v,B,S.spent _ _ k1,k2,k3⟩
theorem oG {Od:Old} (A:EK P) (W:VU P L p N host) (M:YC P N m) (E:Env Z Ac s c) (S:QN P N m kv pa s.n) (hn:s.n<=1000) (hsv:s.sv=TV pa):
  ∀(k:Nat) (i:Int) (told:n_) (f fK:Y_) (gs:Array m_) (w:o_) (sl:d_ (W_)) (t:Trace),(s.n-i).toNat<=k->0<=i->i<=s.n->Told fK (jm kv pa told s.r s.q0 s.q2)->
  Holds Od P Z Ac s.Still (IC c) (λg=>g=0) c 0 (ByK P s c (gK P s fK (c0::cs))) (λg v=>g=BD (LH P (AL f (sl4 s.r s.sv s.n i)) (TQ P s.b5 s.b2 s.b3 s.r s.sv s.n))/\S.I i told v) gs w t->
  AA P gs w sl t (qZ Od P Ac Z S.Fin c0 cs):=by
 intro k
 induction k using Nat.strongRecOn with
 |_ k ih=>
  intro i told f fK gs w sl t hk h0 hle Y H
  have F:=A.child s.b5 s.b2 s.b3 s.r s.q0 s.q1 s.q2 s.q3 s.sv s.n
  have OK:=lq (P:=P) (gS:=gK P s fK (c0::cs)) E
  refine(pO F NK (as9 S hsv told) hn W.fenced E.under (IQ E.J7) qU (λw a h B=>Jc h B) E.ss OK W.PE (W.seen 136 (by simp)) (W.ops _ (by simp)) h0 k i f gs w sl t hk (Int.le_refl _) hle H).bind λgs1 w1 T t1 _ j=>?_
  obtain j|j:=j.or
  ·
   obtain⟨⟨b,l,x⟩,j⟩:=(j.mono (C':=λg v=>∃y:Int×(Y_)×n_,(i<=y.1/\y.1<s.n)/\g=BD (k3 P s.q0 s.q3 (AL y.2.1 (sl6 s.r s.sv s.n y.1 1 y.2.2)) (TQ P s.b5 s.b2 s.b3 s.r s.sv s.n))/\S.Cd y.1 told y.2.2 v) λg v ⟨b,l,x,k1,k2,k3,k4⟩=>⟨(b,l,x),⟨k1,k2⟩,k3,k4⟩).pick;obtain⟨⟨hi0,hi1⟩,j⟩:=j.fact;refine(Holds.give (sl:=T) (oQ E x) (λw h=>κ h) (KH _) (λw=>IA (F.s16 l _ b x) w) (pJ F NK l _ b x) j).bind λz w2 o t2 _ u=>?_
   refine(gU (sl:=o) A W E S Y u).bind λgs3 w3 D t3 _ q=>?_
   obtain(q|⟨f3,bA,q⟩)|⟨f3,J,bA,q⟩:=q
   .exact .now q.up
   .exact Ym (sl:=D) A W M E S hsv q
   refine(aO (sl:=D) A W M E S q).bind λgs4 w4 sl4 t4 _ O=>?_
   obtain⟨f4,An,hT4,O⟩:=O;have U:=lq (P:=P) (gS:=gK P s f4 (c0::cs)) E;obtain⟨f5,hw5⟩:=XB (main:=c==0) (K:=s.KW) (Still:=s.Still) (A.ans s.r s.q0 s.q1 s.q3 s.sv s.n) l (TQ P s.b5 s.b2 s.b3 s.r s.sv s.n) b x An;refine(O.walk (sl:=sl4) qU (λw a h B=>Jc h B) E.ss U hw5).bind λgs5 w5 sl5 t5 _ H5=>?_
   refine(Holds.out (sl:=sl5) (Q:=λtm w'=>∃g,tm=TN 49 (AL g [(6,.bool true)])/\S.I (b+1) J w') W E.under (IQ E.J7) U (by simp) rfl (by simp) (λv hv=>by rw[hsv];exact S.fH s.q1 s.q3 b J An v f5 hv (by omega) hi1) (λtm v τ d ⟨g,e,h⟩=>⟨g,e,S.tI _ _ v τ d h⟩) H5).bind λgs6 w6 sl6 t6 _ R=>?_
   obtain⟨⟨V,td⟩,R⟩:=(R.mono (C':=λg v=>∃y:(Y_)×List Item,g=BD (a2 P s.q0 s.q1 s.q3 x (AL l (Fxa.sl6 s.r s.sv s.n b 1 x)) y.1 (TQ P s.b5 s.b2 s.b3 s.r s.sv s.n) y.2)/\S.I (b+1) J v) λg v ⟨tm,G,hg,V,e,h⟩=>⟨(V,G),by rw[hg,e];rfl,h⟩).pick;obtain⟨f7,C⟩:=iZ (main:=c==0) (K:=s.KW) (Still:=s.Still) (A.ans s.r s.q0 s.q1 s.q3 s.sv s.n) l V (TQ P s.b5 s.b2 s.b3 s.r s.sv s.n) td b x;rw[show IntKind.i64.wrap (b+1)=b+1 by simp[IntKind.wrap,IntKind.bits,IntKind.signed];omega]at C;refine(R.walk (sl:=sl6) qU (λw a h B=>Jc h B) E.ss U C).bind λX w7 sl7 t7 _ H7=>?_
   exact ih (s.n-(b+1)).toNat (by omega) (b+1) J f7 f4 X w7 sl7 t7 (w_ _) (by omega) (by omega) hT4 H7
  .obtain j|j:=j.or
   ·
    obtain⟨⟨b,l,x⟩,j⟩:=(j.mono (C':=λg v=>∃y:Int×(Y_)×n_,g=BD (e3 P s.q2 s.q3 (AL y.2.1 (sl6 s.r s.sv s.n y.1 2 y.2.2)) (TQ P s.b5 s.b2 s.b3 s.r s.sv s.n))/\S.Bd told v) λg v ⟨b,l,x,k1,k2⟩=>⟨(b,l,x),k1,k2⟩).pick;refine(Holds.last (sl:=T) 2 E (KH _) (λw=>IA (F.e16 l _ b x) w) (aN F l b x) j).bind λz w2 o t2 _ ⟨kq,u⟩=>?_
    exact(wP (sl:=o) A W E S Y u).mono λ_ _ _ h=>h.up
   ·
    obtain⟨l,j⟩:=j.pick;refine(Holds.last (sl:=T) 0 E (KH _) (λw=>IA (F.d16 l _ s.n) w) (XA F l s.n) j).bind λz w2 o t2 _ ⟨kq,u⟩=>?_
    exact(gG (sl:=o) A E S Y u).mono λ_ _ _ h=>h.up
end
end Go.Fxa
