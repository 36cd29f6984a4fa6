/- The rounds: the child steps, c -/
import Derived.Test.YtmhplpfpcnjekaaGreatA13
namespace Go.Fxa
open Go.Conc
open Go.ConcN (sumTo upd sumTo_upd upd_ne upd_same)
structure Rv (P:Program) (L:FuncId->Prop) (p:FuncId->Oper->Bool) (N:Fence) (host:FuncId):Prop where
 fenced:Qm P L p N
 Mq:UI L N host
 seen:∀f,(f=56\/f=93\/f=97\/f=136\/f=187)->∀es,seen P f es=seen P host es
 ops:∀c,c∈[R2 P,R3 P,S0 P,S1 P,sU P,sS P,sP P,R16 P,A0 P,sO P,Q3 P,TV P,sQ P]->c.A9 (p host)=true
def Ends (Q:X_->World->Prop) (e:Exit) (a:Act) (w:World):Prop:=e=.normal/\a.defers=[]/\Q a.tmps w
def Rx (Q:X_->World->Prop) (e:Exit) (a:Act) (w:World):Prop:=e=.ret/\a.defers=[]/\Q a.tmps w
def Rc (kv:Value) (pa:Addr) (told:Value) (r:Nat) (x:Value) (bA:Nat):List (Nat×Value):=[(0,kv),(1,pv pa),(7,told),(8,pr r),(9,x),(10,pr bA)]
def rM (kv:Value) (pa:Addr) (told:Value) (r bA:Nat) (b:Bool):List (Nat×Value):=[(0,kv),(1,pv pa),(7,told),(8,pr r),(10,pr bA),(59,.bool b)]
def OV (pa:Addr):Value:=.pointer (some (pa.add 5))
def F5 (v v':World):Prop:=v.heap.size<=v'.heap.size/\(∀x,x<v.heap.size->v'.heap[x]?=v.heap[x]?)/\v'.os=v.os/\v'.output=v.output
def iN (pa:Addr) (cs:X_) (ty:TypeId) (p:Int) (v v':World):Prop:=
 v.heap.size<=v'.heap.size/\(∀x,x<v.heap.size->x≠pa.block->v'.heap[x]?=v.heap[x]?)/\v'.heap[pa.block]?=some (Qj cs ty (pa.add 5) p)/\v'.os=v.os/\v'.output=v.output
structure N7 (P:Program) (N:Fence) (m:Nat) (kv:Value) (pa:Addr) (n:Int) where
 I:Int->Value->World->Prop
 Cd:Int->Value->Value->World->Prop
 Bd:Value->World->Prop
 D:Int->Value->Value->Nat->World->Prop
 E0:Int->Value->Nat->World->Prop
 E:Int->Value->Nat->World->Prop
 An:Int->Value->Value->World->Prop
 Fin:Value->World->Prop
 Dn:Int->Value->Value->Nat->World->Prop
 Db:Int->Value->Value->Nat->World->Prop
 Bc:Int->Value->Nat->World->Prop
 Bl:Int->Value->World->Prop
 tDn:∀i told x b,Cm (Dn i told x b)
 tDb:∀i told x b,Cm (Db i told x b)
 tBc:∀i told b,Cm (Bc i told b)
 tBl:∀i told,Cm (Bl i told)
 tI:∀i told,Cm (I i told)
 tC:∀i told x,Cm (Cd i told x)
 tB:∀told,Cm (Bd told)
 tD:∀i told x b,Cm (D i told x b)
 tE0:∀i told b,Cm (E0 i told b)
 tE:∀i told b,Cm (E i told b)
 tA:∀i told A,Cm (An i told A)
 tF:∀told,Cm (Fin told)
 step:∀(r:Nat) (i:Int) (told:Value) (v:World) (f:Y_),I i told v->0<=i->i<n->∀τ d,(Q3 P).wpIn N m P (Ends fun tm w'=>∃f' oc x,tm=fH (AR f' (DT r (OV pa) n i oc x))/\((oc=0/\I (i+1) told w')\/(oc=1/\Cd i told x w')\/(oc=2/\Bd told w'))) ⟨fH (AR f (JY r (OV pa) n i)),[]⟩ (v.re τ d)
 serve:∀(r:Nat) (i:Int) (told x:Value) (v:World) (f:Y_),Cd i told x v->∀τ d,(sU P).wpIn N m P (Ends fun tm w'=>∃f' bA,tm=TN 76 (AR f' (Rc kv pa told r x bA))/\D i told x bA w') ⟨TN 76 (AR f (slX kv pa told r x)),[]⟩ (v.re τ d)
 asked:∀(r:Nat) (i:Int) (told x:Value) (bA:Nat) (v:World) (f:Y_),D i told x bA v->∀τ d,(sS P).wpIn N m P (Ends fun tm w'=>∃f' b,tm=TN 76 (AR (AR f' (Rc kv pa told r x bA)) [(39,.bool b)])/\((b=false/\Dn i told x bA w')\/(b=true/\Db i told x bA w'))) ⟨TN 76 (AR f (Rc kv pa told r x bA)),[]⟩ (v.re τ d)
 tells:∀(r:Nat) (i:Int) (told x:Value) (bA:Nat) (v:World) (f:Y_),Dn i told x bA v->∀τ d,(sP P).wpIn N m P (Ends fun tm w'=>∃f' BJ,tm=TN 76 (AR f' (fF kv pa BJ r bA))/\E0 i BJ bA w') ⟨TN 76 (AR f (Rc kv pa told r x bA)),[]⟩ (v.re τ d)
 ended:∀(r:Nat) (i:Int) (told:Value) (bA:Nat) (v:World) (f:Y_),E0 i told bA v->∀τ d,(R16 P).wpIn N m P (Ends fun tm w'=>∃f' b,tm=TN 76 (AR f' (rM kv pa told r bA b))/\((b=true/\Fin told w')\/(b=false/\E i told bA w'))) ⟨TN 76 (AR f (fF kv pa told r bA)),[]⟩ (v.re τ d)
 answer:∀i told bA v,E i told bA v->∃s0 s1 s2,Cells v [(S_ bA),(T_ bA 1),(T_ bA 2)] [s0,s1,s2]/\An i told (.agg #[s0,s1,s2]) v
 grow:∀i told A v v',An i told A v->F5 v v'->An i told A v'
 Yi:∀(q1 q3:Nat) (i:Int) (told A:Value) (v:World) (f:Y_),An i told A v->0<=i->i<n->∀τ d,(TV P).wpIn N m P (Rx fun tm w'=>∃g,tm=TN 49 (AR g [(6,.bool true)])/\I (i+1) told w') ⟨TN 49 (AR f (slA q1 q3 (OV pa) A)),[]⟩ (v.re τ d)
 bad:∀(r:Nat) (told:Value) (v:World) (f:Y_),Bd told v->∀τ d,(sO P).wpIn N m P (Ends fun tm w'=>∃f' BJ,tm=TN 76 (AR f' [(7,BJ)])/\Fin BJ w') ⟨TN 76 (AR f (rV kv pa told r)),[]⟩ (v.re τ d)
 spent:∀told v,I n told v->Fin told v
 blocks:∀(r:Nat) (i:Int) (told x:Value) (bA:Nat) (v:World) (f:Y_),Db i told x bA v->∀τ d,(sQ P).wpIn N m P (Ends fun tm w'=>∃f',tm=TN 76 (AR f' (fF kv pa told r bA))/\Bc i told bA w') ⟨TN 76 (AR f (Rc kv pa told r x bA)),[]⟩ (v.re τ d)
 blocked:∀i told bA v,Bc i told bA v->∃x0 y0 fn ca cb,Cells v [(S_ bA),(T_ bA 1),(T_ bA 2)] [.int .u16 x0,.int .u16 y0,.func fn ca cb]/\Bl i told v
 yo:∀i told v,Bl i told v->∃cs ty p,v.heap[pa.block]?=some (.cells cs ty (0,0))/\cs[pa.off+7]?=some (.int .u16 p)/\∀v',iN pa cs ty p v v'->Fin told v'
structure UG (P:Program) (N:Fence) (m:Nat):Prop where
 box:∀(r:Nat) (s0 s1 s2:Value) (v:World) (g:Y_),∀τ d,(A0 P).wpIn N m P (Ends fun tm w'=>∃g' bB,tm=TN 9 (AR g' (ma r (.agg #[s0,s1,s2]) bB))/\(F5 v w'/\bB=v.heap.size/\w'.heap.size=v.heap.size+1)/\Cells w' [(S_ bB),(T_ bB 1),(T_ bB 2)] [s0,s1,s2]) ⟨TN 9 (AR g [(0,pr r),(1,.agg #[s0,s1,s2])]),[]⟩ (v.re τ d)
theorem VS {Q:X_->World->Prop}:∀e a w,Ends Q e a w->(e=.normal\/e=.ret)/\a.defers=[]:=fun _ _ _ h=>⟨.inl h.1,h.2.1⟩
theorem gY {Q:X_->World->Prop}:∀e a w,Rx Q e a w->(e=.normal\/e=.ret)/\a.defers=[]:=fun _ _ _ h=>⟨.inr h.1,h.2.1⟩
section
variable {P:Program} {L:FuncId->Prop} {p:FuncId->Oper->Bool} {N:Fence} {Z:Nat->Prop} {Ac Still:Loc->Prop} {Mem Ak:Nat->Prop} {h j:Nat} {By:Nat->Goroutine->World->Trace->Prop} {gs:Array Goroutine} {w:World} {sl:Option (W_)} {t:Trace} {host:FuncId}
theorem Holds.part {Od:Old} {Dq:FuncId} {kd:CallKind} {k:List Item} {ds:List Deferred} {Q:X_->World->Prop} {c:Code} {tmps:X_} {m:Nat} {cs:Z_} {J:World->Prop} (W:Rv P L p N host) (hu:EP Ac Z) (BH:EP Still Z) (O:Fp P Z Ac Still (fun B t=>PX Ac Still Mem Ak B h t) j By) (hf:Dq=56\/Dq=93\/Dq=97\/Dq=136\/Dq=187) (hkd:(kd==CallKind.early)=false)
  (hc:c∈[R2 P,R3 P,S0 P,S1 P,sU P,sS P,sP P,R16 P,A0 P,sO P,Q3 P,TV P,sQ P]) (hw:∀v,J v->∀τ d,c.wpIn N m P (Ends Q) ⟨tmps,[]⟩ (v.re τ d)) (hQ:∀tm,Cm (Q tm))
  (H:Holds Od P Z Ac Still Mem Ak h j By (fun g v=>g=G (Frame.mk Dq tmps (.code c::k) ds .run kd none) cs/\J v) gs w t):AB P gs w sl t (Holds Od P Z Ac Still Mem Ak h j By (fun g v=>∃tm,g=G (Frame.mk Dq tm k ds .run kd none) cs/\Q tm v)):=
 (Holds.piece W.fenced hu BH O W.Mq (W.seen Dq hf) hkd (W.ops c hc) VS hw H).mono fun AZ w' t' H'=>H'.mono fun g v ⟨tm,τ,d,hb⟩=>by
  rcases hb with⟨rfl,_,_,hq⟩|⟨_,_,he,_⟩
  ·exact⟨tm,rfl,(hQ tm).back hq⟩
  ·cases he
theorem Holds.out {Od:Old} {Dq:FuncId} {kd:CallKind} {k:List Item} {ds:List Deferred} {Q:X_->World->Prop} {c:Code} {tmps:X_} {m:Nat} {cs:Z_} {J:World->Prop} (W:Rv P L p N host) (hu:EP Ac Z) (BH:EP Still Z) (O:Fp P Z Ac Still (fun B t=>PX Ac Still Mem Ak B h t) j By) (hf:Dq=56\/Dq=93\/Dq=97\/Dq=136\/Dq=187) (hkd:(kd==CallKind.early)=false)
  (hc:c∈[R2 P,R3 P,S0 P,S1 P,sU P,sS P,sP P,R16 P,A0 P,sO P,Q3 P,TV P,sQ P]) (hw:∀v,J v->∀τ d,c.wpIn N m P (Rx Q) ⟨tmps,[]⟩ (v.re τ d)) (hQ:∀tm,Cm (Q tm))
  (H:Holds Od P Z Ac Still Mem Ak h j By (fun g v=>g=G (Frame.mk Dq tmps (.code c::k) ds .run kd none) cs/\J v) gs w t):AB P gs w sl t (Holds Od P Z Ac Still Mem Ak h j By (fun g v=>∃tm todo,g=G (Frame.mk Dq tm todo ds .returning kd none) cs/\Q tm v)):=
 (Holds.piece W.fenced hu BH O W.Mq (W.seen Dq hf) hkd (W.ops c hc) gY hw H).mono fun AZ w' t' H'=>H'.mono fun g v ⟨tm,τ,d,hb⟩=>by
  rcases hb with⟨_,he,_⟩|⟨todo,rfl,_,_,hq⟩
  ·cases he
  ·exact⟨tm,todo,rfl,(hQ tm).back hq⟩
theorem Holds.pick {Od:Old} {ι:Type} {C:ι->Goroutine->World->Prop} (H:Holds Od P Z Ac Still Mem Ak h j By (fun g v=>∃x,C x g v) gs w t):∃x,Holds Od P Z Ac Still Mem Ak h j By (C x) gs w t:=by
 obtain⟨q,n,B,g,v,h1,⟨x,hx⟩,h3⟩:=H;exact⟨x,q,n,B,g,v,h1,hx,h3⟩
theorem Holds.fact {Od:Old} {F:Prop} {C:Goroutine->World->Prop} (H:Holds Od P Z Ac Still Mem Ak h j By (fun g v=>F/\C g v) gs w t):F/\Holds Od P Z Ac Still Mem Ak h j By C gs w t:=by
 obtain⟨q,n,B,g,v,h1,⟨hf,hx⟩,h3⟩:=H;exact⟨hf,q,n,B,g,v,h1,hx,h3⟩
theorem Holds.or {Od:Old} {C C':Goroutine->World->Prop} (H:Holds Od P Z Ac Still Mem Ak h j By (fun g v=>C g v\/C' g v) gs w t):Holds Od P Z Ac Still Mem Ak h j By C gs w t\/Holds Od P Z Ac Still Mem Ak h j By C' gs w t:=by
 obtain⟨q,n,B,g,v,h1,hx|hx,h3⟩:=H
 ·exact .inl ⟨q,n,B,g,v,h1,hx,h3⟩
 ·exact .inr ⟨q,n,B,g,v,h1,hx,h3⟩
end
def Told (f:Y_) (l:List (Nat×Value)):Prop:=∀p∈l,f p.1=p.2
theorem Told.eq {f:Nat->Value} {l:List (Nat×Value)} (h:Told f l):AR f l=f:=JM h
def Zg (kv:Value) (pa:Addr) (told:Value) (r q0 q2:Nat):List (Nat×Value):=[(0,kv),(1,pv pa),(7,told),(8,pr r),(25,CK q0),(27,CK q2)]
def gK (P:Program) (s:Ib) (f:Y_) (cs:Z_):Goroutine:=Bv (kS P f cs s.r)
section
variable {P:Program} {L:FuncId->Prop} {p:FuncId->Oper->Bool} {N:Fence} {m:Nat} {host:FuncId} {Z:Nat->Prop} {Ac:Loc->Prop} {s:Ib} {c:Nat} {kv:Value} {pa:Addr} {c0:Frame} {cs:Z_}
def Zz (Od:Old) (P:Program) (Ac:Loc->Prop) (Z:Nat->Prop) (Fin:Value->World->Prop) (c0:Frame) (cs:Z_) (gs:Array Goroutine) (w:World) (t:Trace):Prop:=
 ∃told v B,Fin told v/\gs[0]?=some (G (c0.finish told) cs)/\Beside Od P Ac Z B v gs w t
def gz (Od:Old) (P:Program) (Ac:Loc->Prop) (Z:Nat->Prop) (Fin:Value->World->Prop) (c0:Frame) (cs:Z_) (gs:Array Goroutine) (w:World) (t:Trace):Prop:=
 ∃Z',(∀x,Z x->Z' x)/\Zz Od P Ac Z' Fin c0 cs gs w t
theorem Zz.up {Od:Old} {Fin:Value->World->Prop} {gs:Array Goroutine} {w:World} {t:Trace} (h:Zz Od P Ac Z Fin c0 cs gs w t):gz Od P Ac Z Fin c0 cs gs w t:=⟨Z,fun _ h=>h,h⟩
theorem Rj {x:Frame×Z_} {told:Value} {td:List Item} (K:PK P) (hb:x.1=(sR P [] s.r).1) (hc:x.2=(below x).1::c0::cs) (hd:Ch (below x)=(56,td,[],.returning,.normal,none,c0::cs)) (he:slotsOf (below x) [6]=[told]) (hf:(below x).1.tmps.size=76):
  ∃f,Bv x=Bv (Qk P s f td told c0 cs):=by
 have e:=at_toldM (l:=[(6,told)]) hd he hf;refine⟨slot (below x),?_⟩;unfold Qk;rw[K.sRf];have e1:(below x).1=jr (AR (slot (below x)) [(6,told)]) td:=congrArg Prod.fst e;show G x.1 x.2=G (sR P [] s.r).1 (jr (AR (slot (below x)) [(6,told)]) td::c0::cs);rw[hb,hc,e1]
theorem Yx {Od:Old} (A:DW P) (W:Rv P L p N host) (E:Env Z Ac s c) (S:N7 P N m kv pa s.n) {i:Int} {told x:Value} {f fc:Nat->Value} (hT:Told f (Zg kv pa told s.r s.q0 s.q2)) {gs:Array Goroutine} {w:World} {sl:Option (W_)} {t:Trace}
  (H:Holds Od P Z Ac s.Still (Gm c) (fun g=>g=c) 0 c (Ze P s c (gC P s fc i x)) (fun g v=>g=Conc.served (gK P s f (c0::cs)) (commResult (KL s.q0 s.q2) .select 0 x true)/\S.Cd i told x v) gs w t):
  AB P gs w sl t fun AZ w' t'=>(Zz Od P Ac Z S.Fin c0 cs AZ w' t'\/(∃f' bA,Holds Od P Z Ac s.Still (Gm c) (fun g=>g=c) 0 c (Ze P s c (gC P s fc i x)) (fun g v=>g=Bv (f56 (AR f' (fF kv pa told s.r bA)) (c0::cs) (T12 P) (Mg s.r))/\S.Bc i told bA v) AZ w' t'))\/∃f' BJ bA,Holds Od P Z Ac s.Still (Gm c) (fun g=>g=c) 0 c (Ze P s c (gC P s fc i x)) (fun g v=>g=Bv (f56 (AR f' (slF kv pa BJ s.r bA)) (c0::cs) (rR P) (Mg s.r))/\S.E i BJ bA v) AZ w' t':=by
 have O:=RV (P:=P) (gC:=gC P s fc i x) E;have BH:=Gv E.IL;have hj:∀n b w t,Ze P s c (gC P s fc i x) n b w t->∀d,(fun _=>True:World->Prop) (w.at d):=fun _ _ _ _ _ _=>trivial
 have e0:Conc.served (gK P s f (c0::cs)) (commResult (KL s.q0 s.q2) .select 0 x true)=Bv (x0 P kv pa told f (c0::cs) s.r s.q0 s.q2 x):=by
  unfold x0
  rw[show AR f (rV kv pa told s.r)=f from Told.eq fun q hq=>hT q (by simp only[rV,Zg,List.mem_cons,List.not_mem_nil,or_false]at hq ⊢;rcases hq with h|h|h|h<;>simp[h])]
  rfl
 rw[e0]at H;refine(H.OO (sl:=sl) (K:=fun _=>True) hj O (Cy (A.Ey.x1a _ _ _ _ _ _ _ _ _))).bind fun gs1 w1 G6 t1 _ H1=>?_
 rw[show run P 12 (x0 P kv pa told f (c0::cs) s.r s.q0 s.q2 x)=x1 P kv pa told f (c0::cs) s.r s.q0 s.q2 x from rfl,at_toldN (l:=slX kv pa told s.r x) (A.Ey.x1b _ _ _ _ _ _ _ _ _) (A.Ey.x1c _ _ _ _ _ _ _ _ _) (A.Ey.x1d _ _ _ _ _ _ _ _ _)]at H1;refine(Holds.part (sl:=G6) W E.under BH O (.inl rfl) rfl (by simp) (fun v hv=>S.serve s.r i told x v _ hv) (fun tm v τ d ⟨f',bA,e,h⟩=>⟨f',bA,e,S.tD _ _ _ _ v τ d h⟩) H1).bind fun gs2 w2 sl2 t2 _ H2=>?_
 obtain⟨⟨f2,bA⟩,H2⟩:=(H2.mono (C':=fun g v=>∃y:(Y_)×Nat,g=Bv (f56 (AR y.1 (Rc kv pa told s.r x y.2)) (c0::cs) (T10 P) (Mg s.r))/\S.D i told x y.2 v) fun g v ⟨tm,hg,f',bA,e,h⟩=>⟨(f',bA),by rw[hg,e];rfl,h⟩).pick;refine(H2.OO (sl:=sl2) (K:=fun _=>True) hj O (Gs (A.Ey.x2 _ _ _))).bind fun lV w3 Zh t3 _ H3=>?_
 refine(Holds.part (sl:=Zh) W E.under BH O (.inl rfl) rfl (by simp) (fun v hv=>S.asked s.r i told x bA v f2 hv) (fun tm v τ d ⟨f',b,e,h⟩=>⟨f',b,e,h.imp (fun h=>⟨h.1,S.tDn _ _ _ _ v τ d h.2⟩) fun h=>⟨h.1,S.tDb _ _ _ _ v τ d h.2⟩⟩) H3).bind fun gs4 w4 JY t4 _ H4=>?_
 rcases(H4.mono (C':=fun g v=>(∃y:Nat->Value,g=Bv (f56 (AR (AR y (Rc kv pa told s.r x bA)) [(39,.bool true)]) (c0::cs) (sM P) (Mg s.r))/\S.Db i told x bA v)\/(∃y:Nat->Value,g=Bv (f56 (AR (AR y (Rc kv pa told s.r x bA)) [(39,.bool false)]) (c0::cs) (sM P) (Mg s.r))/\S.Dn i told x bA v)) fun g v ⟨tm,hg,f',b,e,h⟩=>by
  rcases h with⟨rfl,h⟩|⟨rfl,h⟩
  ·exact .inr ⟨f',by rw[hg,e];rfl,h⟩
  ·exact .inl ⟨f',by rw[hg,e];rfl,h⟩).or with H4|H4
 ·obtain⟨f4,H4⟩:=H4.pick;refine(H4.OO (sl:=JY) (K:=fun _=>True) hj O (Gs (A.blk.y3 _ _ _))).bind fun gs5 w5 xn t5 _ H5=>?_
  rw[show AR (AR f4 (Rc kv pa told s.r x bA)) [(39,.bool true)]=AR (AR (AR f4 (Rc kv pa told s.r x bA)) [(39,.bool true)]) (Rc kv pa told s.r x bA)from(Told.eq fun q hq=>by
   simp only[Rc,List.mem_cons,List.not_mem_nil,or_false]at hq
   rcases hq with h|h|h|h|h|h<;>subst h<;>rfl).symm]at H5;refine(Holds.part (sl:=xn) W E.under BH O (.inl rfl) rfl (by simp) (fun v hv=>S.blocks s.r i told x bA v _ hv) (fun tm v τ d ⟨f',e,h⟩=>⟨f',e,S.tBc _ _ _ v τ d h⟩) H5).mono fun yY w6 t6 H6=>?_
  obtain⟨f6,H6⟩:=(H6.mono (C':=fun g v=>∃y:Nat->Value,g=Bv (f56 (AR y (fF kv pa told s.r bA)) (c0::cs) (T12 P) (Mg s.r))/\S.Bc i told bA v) fun g v ⟨tm,hg,f',e,h⟩=>⟨f',by rw[hg,e];rfl,h⟩).pick;exact .inl (.inr ⟨f6,bA,H6⟩)
 obtain⟨f4,H4⟩:=H4.pick;refine(H4.OO (sl:=JY) (K:=fun _=>True) hj O (Gs (A.Ey.x3 _ _ _))).bind fun gs5 w5 xn t5 _ H5=>?_
 rw[show AR (AR f4 (Rc kv pa told s.r x bA)) [(39,.bool false)]=AR (AR (AR f4 (Rc kv pa told s.r x bA)) [(39,.bool false)]) (Rc kv pa told s.r x bA)from(Told.eq fun q hq=>by
  simp only[Rc,List.mem_cons,List.not_mem_nil,or_false]at hq
  rcases hq with h|h|h|h|h|h<;>subst h<;>rfl).symm]at H5;refine(Holds.part (sl:=xn) W E.under BH O (.inl rfl) rfl (by simp) (fun v hv=>S.tells s.r i told x bA v _ hv) (fun tm v τ d ⟨f',BJ,e,h⟩=>⟨f',BJ,e,S.tE0 _ _ _ v τ d h⟩) H5).bind fun yY w6 DT t6 _ H6=>?_
 obtain⟨⟨f6,BJ⟩,H6⟩:=(H6.mono (C':=fun g v=>∃y:(Y_)×Value,g=Bv (f56 (AR y.1 (fF kv pa y.2 s.r bA)) (c0::cs) (T15 P) (Mg s.r))/\S.E0 i y.2 bA v) fun g v ⟨tm,hg,f',BJ,e,h⟩=>⟨(f',BJ),by rw[hg,e];rfl,h⟩).pick;refine(H6.OO (sl:=DT) (K:=fun _=>True) hj O (Gs (A.Ey.x4 _ _ _))).bind fun rQ w7 rO t7 _ H7=>?_
 refine(Holds.part (sl:=rO) W E.under BH O (.inl rfl) rfl (by simp) (fun v hv=>S.ended s.r i BJ bA v f6 hv) (fun tm v τ d ⟨f',b,e,h⟩=>⟨f',b,e,h.imp (fun h=>⟨h.1,S.tF _ v τ d h.2⟩) fun h=>⟨h.1,S.tE _ _ _ v τ d h.2⟩⟩) H7).bind fun gs8 w8 sl8 t8 _ H8=>?_
 rcases(H8.mono (C':=fun g v=>(∃y:Nat->Value,g=Bv (f56 (AR y (rM kv pa BJ s.r bA true)) (c0::cs) (rR P) (Mg s.r))/\S.Fin BJ v)\/(∃y:Nat->Value,g=Bv (f56 (AR y (slF kv pa BJ s.r bA)) (c0::cs) (rR P) (Mg s.r))/\S.E i BJ bA v)) fun g v ⟨tm,hg,f',b,e,h⟩=>by
  rcases h with⟨rfl,h⟩|⟨rfl,h⟩
  ·exact .inl ⟨f',by rw[hg,e];rfl,h⟩
  ·exact .inr ⟨f',by rw[hg,e];rfl,h⟩).or with H9|H9
 ·obtain⟨f9,H9⟩:=H9.pick;rw[show AR f9 (rM kv pa BJ s.r bA true)=AR (AR f9 (rM kv pa BJ s.r bA true)) [(7,BJ),(59,.bool true)]from(Told.eq fun q hq=>by
   simp only[List.mem_cons,List.not_mem_nil,or_false]at hq
   rcases hq with h|h<;>subst h<;>rfl).symm]at H9;refine(H9.OO (sl:=sl8) (K:=fun _=>True) hj O (Cy (A.Ey.w1a _ _ _ _))).bind fun gsa wa WC ta _ Ha=>?_
  obtain⟨fe,e⟩:=Rj (s:=s) (c0:=c0) (cs:=cs) A.Ey (A.Ey.w1b BJ _ _ s.r) (A.Ey.w1c BJ _ _ s.r) (A.Ey.w1d BJ _ _ s.r) (A.Ey.w1e BJ _ _ s.r) (A.Ey.w1f BJ (AR f9 (rM kv pa BJ s.r bA true)) (c0::cs) s.r);rw[show Bv (run P 13 (f56 (AR (AR f9 (rM kv pa BJ s.r bA true)) [(7,BJ),(59,.bool true)]) (c0::cs) (rR P) (Mg s.r)))=Bv (Fxa.w1 P BJ (AR f9 (rM kv pa BJ s.r bA true)) (c0::cs) s.r)from rfl,e]at Ha;exact(YV (sl:=WC) A E Ha).mono fun AZ w' t' ⟨v,B,k1,k2,k3⟩=>.inl (.inl ⟨BJ,v,B,k1,k2,k3⟩)
 ·obtain⟨f9,H9⟩:=H9.pick;exact .now (.inr ⟨f9,BJ,bA,H9⟩)
end
section
variable {P:Program} {L:FuncId->Prop} {p:FuncId->Oper->Bool} {N:Fence} {m:Nat} {host:FuncId} {Z:Nat->Prop} {Ac:Loc->Prop} {s:Ib} {c:Nat} {kv:Value} {pa:Addr} {c0:Frame} {cs:Z_}
theorem Jb (x:Frame×Z_):(Bv x).status=.running:=rfl
theorem gU {x:Frame×Z_} {told:Value} (K:PK P) (hb:Ch x=(56,fP P,Mg s.r,.run,.normal,none,c0::cs)) (hc:slotsOf x [0,1,7,8,25,27]=[kv,pv pa,told,pr s.r,CK s.q0,CK s.q2]) (hd:x.1.tmps.size=76):
  ∃f,Told f (Zg kv pa told s.r s.q0 s.q2)/\Bv x=gK P s f (c0::cs)/\Kg P x=some (KL s.q0 s.q2):=by
 have e:=at_toldN (l:=Zg kv pa told s.r s.q0 s.q2) hb hc hd;refine⟨AR (slot x) (Zg kv pa told s.r s.q0 s.q2),?_,?_,?_⟩
 ·intro q hq;simp only[Zg,List.mem_cons,List.not_mem_nil,or_false]at hq;rcases hq with h|h|h|h|h|h<;>subst h<;>rfl
 ·exact congrArg Bv e
 ·have h1:=K.k1 (AR (slot x) (Zg kv pa told s.r s.q0 s.q2)) (c0::cs) s.r s.q0 s.q2;rw[show AR (AR (slot x) (Zg kv pa told s.r s.q0 s.q2)) [(25,CK s.q0),(27,CK s.q2)]=AR (slot x) (Zg kv pa told s.r s.q0 s.q2)from Told.eq fun q hq=>by
   simp only[List.mem_cons,List.not_mem_nil,or_false]at hq
   rcases hq with h|h<;>subst h<;>rfl]at h1;rw[e];exact h1
def Boxed (J:World->Prop) (bB:Nat) (v:World):Prop:=∃v0,J v0/\F5 v0 v/\bB=v0.heap.size/\v.heap.size=v0.heap.size+1
theorem Boxed.tape {J:World->Prop} {bB:Nat}:Cm (Boxed J bB):=fun _ _ _ ⟨v0,h1,h2,h3,h4⟩=>⟨v0,h1,⟨h2.1,h2.2.1,h2.2.2.1,h2.2.2.2⟩,h3,h4⟩
theorem SN {Od:Old} (A:DW P) (W:Rv P L p N host) (M:UG P N m) (E:Env Z Ac s c) {gCx:Goroutine} {J:World->Prop} {s0 s1 s2:Value} {f0:Nat->Value} {Y:Z_} {gs:Array Goroutine} {w:World} {sl:Option (W_)} {t:Trace}
  (H3:Holds Od P Z Ac s.Still (Gm c) (fun g=>g=c) 0 c (Ze P s c gCx) (fun g v=>g=Bv (Frame.mk 97 (TN 9 (AR f0 [(0,pr s.r),(1,.agg #[s0,s1,s2])])) (.code (A0 P)::xK P) [] .run .normal none,Y)/\J v) gs w t):
  AB P gs w sl t fun AZ w' t'=>∃g4 bB,Holds Od P Z Ac s.Still (Gm c) (fun g=>g=c) 0 c (Ze P s c gCx) (fun g v=>g=Bv (xs P g4 Y s.r s.q1 bB (.agg #[s0,s1,s2]))/\Boxed J bB v/\Cells v [(S_ bB),(T_ bB 1),(T_ bB 2)] [s0,s1,s2]) AZ w' t':=by
 have O:=RV (P:=P) (gC:=gCx) E;have BH:=Gv E.IL;have rd:∀{y:Frame×Z_},CL P y (CK s.q1)=some ([(T_ s.r 1)],CK s.q1)->RW P (0==0) s.KW s.Still 1 (Bv y) (Bv (Bj y (CK s.q1))):=fun h=>RW.at h (fun w h=>let ⟨_,_,hr⟩:=h.1;(Iw hr).2.1) (Kt (s:=s)).t1
 have walk:∀{gs:Array Goroutine} {w:World} {sl:Option (W_)} {t:Trace} {J:World->Prop} {k:Nat} {a a':Goroutine},Holds Od P Z Ac s.Still (Gm c) (fun g=>g=c) 0 c (Ze P s c gCx) (fun g v=>g=a/\J v) gs w t->RW P (0==0) s.KW s.Still k a a'->AB P gs w sl t (Holds Od P Z Ac s.Still (Gm c) (fun g=>g=c) 0 c (Ze P s c gCx) (fun g v=>g=a'/\J v)):=
  fun H hw=>H.walk yn (fun w a h hs=>GV h hs) E.ss O hw
 refine(Holds.part (sl:=sl) (Q:=fun tm w'=>∃g' bB,tm=TN 9 (AR g' (ma s.r (.agg #[s0,s1,s2]) bB))/\Boxed J bB w'/\Cells w' [(S_ bB),(T_ bB 1),(T_ bB 2)] [s0,s1,s2]) W E.under BH O (.inr (.inr (.inl rfl))) rfl (by simp)
  (fun v hv τ d=>wpIn_mono (M.box s.r s0 s1 s2 v _ τ d) fun e a w' ⟨k1,k2,g',bB,k3,k4,k5⟩=>⟨k1,k2,g',bB,k3,⟨v,hv,k4.1,k4.2⟩,k5⟩) (fun tm v τ d ⟨g',bB,e,h,h'⟩=>⟨g',bB,e,Boxed.tape v τ d h,h'⟩) H3).bind fun gs4 w4 JY t4 _ H4=>?_
 obtain⟨⟨g4,bB⟩,H4⟩:=(H4.mono (C':=fun g v=>∃y:(Y_)×Nat,g=Bv (f97 (AR y.1 (ma s.r (.agg #[s0,s1,s2]) y.2)) Y (xK P))/\Boxed J y.2 v/\Cells v [(S_ y.2),(T_ y.2 1),(T_ y.2 2)] [s0,s1,s2]) fun g v ⟨tm,hg,g',bB,e,h⟩=>⟨(g',bB),by rw[hg,e];rfl,h⟩).pick;refine(Holds.draws (sl:=JY) A.mixed O (A.Ey.dr _ _) A.Ey.dl H4).bind fun gs5 w5 xn t5 _ H5=>?_
 have H6:AB P gs5 w5 xn t5 (Holds Od P Z Ac s.Still (Gm c) (fun g=>g=c) 0 c (Ze P s c gCx) (fun g v=>g=Bv (xs P g4 Y s.r s.q1 bB (.agg #[s0,s1,s2]))/\Boxed J bB v/\Cells v [(S_ bB),(T_ bB 1),(T_ bB 2)] [s0,s1,s2])):=by
  obtain⟨⟨l,hl⟩,H5⟩:=(H5.mono (C':=fun g v=>∃y:{ l:List Nat // l∈[[0,1,2,3,4,5],[0,1,2,4,3,5],[0,1,4,2,3,5],[0,4,1,2,3,5],[4,0,1,2,3,5]] },g=Bv (Re P g4 Y s.r bB (.agg #[s0,s1,s2]) y.1)/\Boxed J bB v/\Cells v [(S_ bB),(T_ bB 1),(T_ bB 2)] [s0,s1,s2]) fun g v ⟨⟨l,hl,hg⟩,h⟩=>⟨⟨l,hl⟩,hg,h⟩).pick
  simp only[List.mem_cons,List.not_mem_nil,or_false]at hl
  rcases hl with rfl|rfl|rfl|rfl|rfl
  ·refine(walk H5 (RW.Av (A.Ey.l1a _ _ _ _ _))).bind fun _ _ WC _ _ Ha=>(walk Ha (rd (A.Ey.l1b _ _ _ _ s.q1 _))).bind fun _ _ yL _ _ Hb=>?_
   have:=Holds.reads (sl:=yL) E.under O (A.Ey.l1c _ _ _ _ s.q1 _ s0 s1 s2) (fun v h=>h.2) Hb
   rwa [A.Ey.l1d]at this
  ·refine(walk H5 (RW.Av (A.Ey.l2a _ _ _ _ _))).bind fun _ _ WC _ _ Ha=>(Holds.reads (sl:=WC) E.under O (A.Ey.l2b _ _ _ _ _ s0 s1 s2) (fun v h=>h.2) Ha).bind fun _ _ yL _ _ Hb=>?_
   have:=walk (sl:=yL) Hb (rd (A.Ey.l2c _ _ _ _ s.q1 _))
   rwa [A.Ey.l2d]at this
  ·refine(walk H5 (RW.Av (A.Ey.l3a _ _ _ _ _))).bind fun _ _ WC _ _ Ha=>(Holds.reads (sl:=WC) E.under O (A.Ey.l3b _ _ _ _ _ s0 s1 s2) (fun v h=>h.2) Ha).bind fun _ _ yL _ _ Hb=>(walk Hb (RW.Av (A.Ey.l3c _ _ _ _ _))).bind fun _ _ xm _ _ Hc=>?_
   have:=walk (sl:=xm) Hc (rd (A.Ey.l3d _ _ _ _ s.q1 _))
   rwa [A.Ey.l3e]at this
  ·refine(walk H5 (RW.Av (A.Ey.l4a _ _ _ _ _))).bind fun _ _ WC _ _ Ha=>(Holds.reads (sl:=WC) E.under O (A.Ey.l4b _ _ _ _ _ s0 s1 s2) (fun v h=>h.2) Ha).bind fun _ _ yL _ _ Hb=>(walk Hb (RW.Av (A.Ey.l4c _ _ _ _ _))).bind fun _ _ xm _ _ Hc=>?_
   have:=walk (sl:=xm) Hc (rd (A.Ey.l4d _ _ _ _ s.q1 _))
   rwa [A.Ey.l4e]at this
  ·refine(walk H5 (RW.Av (A.Ey.l5a _ _ _ _ _))).bind fun _ _ WC _ _ Ha=>(Holds.reads (sl:=WC) E.under O (A.Ey.l5b _ _ _ _ _ s0 s1 s2) (fun v h=>h.2) Ha).bind fun _ _ yL _ _ Hb=>(walk Hb (RW.Av (A.Ey.l5c _ _ _ _ _))).bind fun _ _ xm _ _ Hc=>?_
   have:=walk (sl:=xm) Hc (rd (A.Ey.l5d _ _ _ _ s.q1 _))
   rwa [A.Ey.l5e]at this
 exact H6.mono fun AZ w' t' H7=>⟨g4,bB,H7⟩
theorem Wx {Od:Old} (A:DW P) (W:Rv P L p N host) (M:UG P N m) (E:Env Z Ac s c) (S:N7 P N m kv pa s.n) {i:Int} {told x:Value} {bA:Nat} {f fc:Nat->Value} {gs:Array Goroutine} {w:World} {sl:Option (W_)} {t:Trace}
  (H:Holds Od P Z Ac s.Still (Gm c) (fun g=>g=c) 0 c (Ze P s c (gC P s fc i x)) (fun g v=>g=Bv (f56 (AR f (slF kv pa told s.r bA)) (c0::cs) (rR P) (Mg s.r))/\S.E i told bA v) gs w t):
  AB P gs w sl t fun AZ w' t'=>∃f' An,Told f' (Zg kv pa told s.r s.q0 s.q2)/\Holds Od P Z Ac s.Still (Gm c) (fun g=>g=0) c 0 (ByK P s c (gK P s f' (c0::cs))) (fun g v=>g=Conc.served (gC P s fc i x) (commResult (Fh s.q1 s.q3) .select 0 An true)/\S.An i told An v) AZ w' t':=by
 have O:=RV (P:=P) (gC:=gC P s fc i x) E;have hj:∀n b w t,Ze P s c (gC P s fc i x) n b w t->∀d,(fun _=>True:World->Prop) (w.at d):=fun _ _ _ _ _ _=>trivial
 refine(H.OO (sl:=sl) (K:=fun _=>True) hj O (Cy (A.Ey.av1 _ _ _ _ _ _ _))).bind fun gs1 w1 G6 t1 _ H1=>?_
 obtain⟨⟨s0,s1,s2⟩,H1⟩:=(H1.mono (C':=fun g v=>∃y:Value×Value×Value,g=Bv (x18 P kv pa told f (c0::cs) s.r bA)/\Cells v [(S_ bA),(T_ bA 1),(T_ bA 2)] [y.1,y.2.1,y.2.2]/\S.An i told (.agg #[y.1,y.2.1,y.2.2]) v) fun g v ⟨hg,h⟩=>by
  obtain⟨s0,s1,s2,h1,h2⟩:=S.answer i told bA v h
  exact⟨(s0,s1,s2),hg,h1,h2⟩).pick;refine(Holds.reads (sl:=G6) E.under O (A.Ey.av0 _ _ _ _ _ _ _ s0 s1 s2) (fun v h=>h.1) H1).bind fun gs2 w2 sl2 t2 _ H2=>?_
 refine(H2.OO (sl:=sl2) (K:=fun _=>True) hj O (Cy (A.Ey.au9 _ _ _ _ _ _ _ _))).bind fun lV w3 Zh t3 _ H3=>?_
 rw[show run P 2 (Bj (x18 P kv pa told f (c0::cs) s.r bA) (.agg #[s0,s1,s2]))=xk P kv pa told f (c0::cs) s.r bA (.agg #[s0,s1,s2])from rfl,at_toldN (l:=[(0,pr s.r),(1,.agg #[s0,s1,s2])]) (A.Ey.au8 _ _ _ _ _ _ _ _) (A.Ey.au7 _ _ _ _ _ _ _ _) (A.Ey.au6 _ _ _ _ _ _ _ _)]at H3;refine(SN (sl:=Zh) A W M E (H3.mono (C':=fun g v=>g=Bv (Frame.mk 97 (TN 9 (AR (slot (xk P kv pa told f (c0::cs) s.r bA (.agg #[s0,s1,s2]))) [(0,pr s.r),(1,.agg #[s0,s1,s2])])) (.code (A0 P)::xK P) [] .run .normal none,Y18 P kv pa told f (c0::cs) s.r bA (.agg #[s0,s1,s2]))/\S.An i told (.agg #[s0,s1,s2]) v) fun g v h=>⟨h.1,h.2.2⟩)).bind fun rQ w7 rO t7 _ H7=>?_
 obtain⟨g4,bB,H7⟩:=H7;obtain⟨f7,hT7,hg7,hc7⟩:=gU (s:=s) A.Ey (A.Ey.v3b kv pa told f g4 (c0::cs) s.r s.q0 s.q1 s.q2 bA bB (.agg #[s0,s1,s2])) (A.Ey.v3c _ _ _ _ _ _ _ _ _ _ _ _ _) (A.Ey.v3d _ _ _ _ _ _ _ _ _ _ _ _ _);have hw:RW P (0==0) s.KW s.Still 48 (Bv (v0 P kv pa told f g4 (c0::cs) s.r s.q1 bA bB (.agg #[s0,s1,s2]))) (Bv (v3 P kv pa told f g4 (c0::cs) s.r s.q0 s.q1 s.q2 bA bB (.agg #[s0,s1,s2]))):=
  ((((RW.Av (A.Ey.v1a _ _ _ _ _ _ _ _ _ _ _)).trans (RW.at (A.Ey.v1b _ _ _ _ _ _ _ s.q0 _ _ _ _) (Kt (s:=s)).r0 (Kt (s:=s)).t0)).trans (RW.Av (A.Ey.v2a _ _ _ _ _ _ _ _ _ _ _ _))).trans (RW.at (A.Ey.v2b _ _ _ _ _ _ _ _ _ s.q2 _ _ _) (Kt (s:=s)).r2 (Kt (s:=s)).t2)).trans (RW.Av (A.Ey.v3a _ _ _ _ _ _ _ _ _ _ _ _ _));have Mk:=RW.seat (k:=0) (home:=(·=gK P s f7 (c0::cs))) (cases:=KL s.q0 s.q2) (shape:=.select) (Jb _) ⟨_,#[],hg7,Jb _,by simp,fun w _=>Gj hc7 w⟩ hw;have e8:Bv (v0 P kv pa told f g4 (c0::cs) s.r s.q1 bA bB (.agg #[s0,s1,s2]))=Conc.served (Bv (xs P g4 (Y18 P kv pa told f (c0::cs) s.r bA (.agg #[s0,s1,s2])) s.r s.q1 bB (.agg #[s0,s1,s2]))) (commResult (WS s.q1 (.agg #[s0,s1,s2])) .send ((0:Nat):Int) undef false):=by
  unfold v0
  rw[OE]
  rfl
 rw[e8]at Mk;refine(Holds.give (sl:=rO) (PY E (.agg #[s0,s1,s2])) (fun w h=>iw h) rfl (fun w=>Vf (A.Ey.xs _ _ _ _ _ _) w) Mk (H7.mono fun g v h=>⟨h.1,let ⟨v0,k1,k2,_⟩:=h.2.1;S.grow _ _ _ _ _ k1 k2⟩)).mono fun AZ w' t' H8=>⟨f7,_,hT7,H8⟩
end
def DC (v:World) (pb:Nat) (ob:Obj) (n:Nat):Array Obj:=Array.ofFn (n:=n) fun x=>if x.1=pb then ob else(v.heap[x.1]?).getD CB
theorem Fx {v:World} {pb n x:Nat} {ob:Obj} (hx:x<n):(DC v pb ob n)[x]?=some (if x=pb then ob else(v.heap[x]?).getD CB):=by
 simp[DC,hx]
def LZ (pb bB y:Nat):Prop:=y=pb\/bB<=y
def LL (pb bB:Nat) (l:Loc):Prop:=∃a:Addr,l=.cell a/\LZ pb bB a.block
section
variable {P:Program} {L:FuncId->Prop} {p:FuncId->Oper->Bool} {N:Fence} {m:Nat} {host:FuncId} {Z:Nat->Prop} {Ac:Loc->Prop} {s:Ib} {c:Nat} {kv:Value} {pa:Addr} {c0:Frame} {cs:Z_}
theorem Twin.ab0 {Od:Old} {v0 v w w2:World} {pb bB:Nat} {ob lI:Obj} (T:Twin Od Z v w) (hZ:∀r,Z r->r<v.heap.size) (hg:F5 v0 v) (hb:bB=v0.heap.size) (BA:v.heap.size=v0.heap.size+1) (hbz:¬Z bB/\¬Od.dead bB) (hp:v0.heap[pb]?=some ob) (hpz:¬Z pb/\¬Od.dead pb) (az0:lI.plain=true)
  (ho:BO (fun x=>Z x\/(x=pb\/bB<=x)) w w2) (hw2:w2.heap[pb]?=some lI):
  Twin Od (fun x=>Z x\/(bB<=x/\x<w2.heap.size)) { v0 with heap:=DC v0 pb lI w2.heap.size } w2:=by
 subst hb;have hpl:=(Array.getElem?_eq_some_iff.1 hp).1;have hle:v0.heap.size<=w2.heap.size:=by have:=ho.size;have:=T.size;omega
 have hzl:∀x,Z x->x<v0.heap.size:=fun x hx=>by
  have:=hZ x hx
  have:x≠v0.heap.size:=fun e=>hbz.1 (e ▸ hx)
  omega
 have zN:∀x,Od.dead x->x<v0.heap.size:=fun x hx=>by
  have:=(Array.getElem?_eq_some_iff.1 (T.Io x hx)).1
  have:x≠v0.heap.size:=fun e=>hbz.2 (e ▸ hx)
  omega
 have hold:∀x,x<v0.heap.size->x≠pb->(DC v0 pb lI w2.heap.size)[x]?=v.heap[x]?:=fun x hx BN=>by
  rw[Fx (by omega),if_neg BN,hg.2.1 x hx,Array.getElem?_eq_getElem hx];rfl
 refine⟨by simp[DC],fun x hx hxo=>?_,fun x hx BC=>?_,fun x o hxo=>?_,?_,?_,fun x hx=>?_,fun x hx=>?_,fun x hx h=>?_⟩
 ·by_cases BC:x<w2.heap.size
  ·have hxv:x<v0.heap.size:=Nat.lt_of_not_le fun h=>hx (.inr ⟨h,BC⟩)
   by_cases e:x=pb
   ·subst e;rw[hw2];show(DC v0 x lI w2.heap.size)[x]?=_;rw[Fx BC,if_pos rfl]
   ·show(DC v0 pb lI w2.heap.size)[x]?=_;have hz:¬Z x:=fun h=>hx (.inl h)
    rw[hold x hxv e,T.same x hz hxo];exact(ho.same x fun h=>h.elim hz fun h=>h.elim e fun h=>by omega).symm
  ·rw[Array.getElem?_eq_none (show w2.heap.size<=x by omega)];exact Array.getElem?_eq_none (by show(DC v0 pb lI w2.heap.size).size<=x;simp only[DC,Array.size_ofFn];omega)
 ·show(DC v0 pb lI w2.heap.size)[x]?=_;rcases hx with hx|hx
  ·have hxv:=hzl x hx;rw[hold x hxv (fun e=>hpz.1 (e ▸ hx))];exact T.dead x hx (by omega)
  ·rw[Fx hx.2,if_neg (by omega),Array.getElem?_eq_none hx.1];rfl
 ·have hxo:(DC v0 pb lI w2.heap.size)[x]?=some o:=hxo;have BC:x<w2.heap.size:=by have:=(Array.getElem?_eq_some_iff.1 hxo).1;simpa [DC]using this
  by_cases e:x=pb
  ·rw[Fx BC,if_pos e]at hxo;rw[<-Option.some.inj hxo];exact az0
  ·by_cases hxv:x<v0.heap.size
   ·rw[hold x hxv e]at hxo;exact T.plain x o hxo
   ·rw[Fx BC,if_neg e,Array.getElem?_eq_none (by omega)]at hxo;rw[<-Option.some.inj hxo];rfl
 ·exact(hg.2.2.1.symm.trans T.os).trans ho.os.symm
 ·exact(hg.2.2.2.symm.trans T.output).trans ho.output.symm
 ·show(DC v0 pb lI w2.heap.size)[x]?=_;rw[hold x (zN x hx) (fun e=>hpz.2 (e ▸ hx))];exact T.Io x hx
 ·have:=zN x hx;rw[ho.same x fun h=>h.elim (T.TG x hx) fun h=>h.elim (fun e=>hpz.2 (e ▸ hx)) fun h=>by omega];exact T.kept x hx
 ·have:=zN x hx;exact h.elim (T.TG x hx) fun h=>by omega
theorem Us {Od:Old} (A:DW P) (W:Rv P L p N host) (M:UG P N m) (E:Env Z Ac s c) (S:N7 P N m kv pa s.n) (hsv:s.sv=OV pa) {i:Int} {told x:Value} {bA:Nat} {f fc:Nat->Value} {gs:Array Goroutine} {w:World} {sl:Option (W_)} {t:Trace}
  (H:Holds Od P Z Ac s.Still (Gm c) (fun g=>g=c) 0 c (Ze P s c (gC P s fc i x)) (fun g v=>g=Bv (f56 (AR f (fF kv pa told s.r bA)) (c0::cs) (T12 P) (Mg s.r))/\S.Bc i told bA v) gs w t):
  AB P gs w sl t (gz Od P Ac Z S.Fin c0 cs):=by
 have O:=RV (P:=P) (gC:=gC P s fc i x) E;have hj:∀n b w t,Ze P s c (gC P s fc i x) n b w t->∀d,(fun _=>True:World->Prop) (w.at d):=fun _ _ _ _ _ _=>trivial
 refine(H.OO (sl:=sl) (K:=fun _=>True) hj O (Cy (A.blk.a13 _ _ _ _ _ _ _))).bind fun gs1 w1 G6 t1 _ H1=>?_
 obtain⟨⟨x0,y0,fn,ca,cb⟩,H1⟩:=(H1.mono (C':=fun g v=>∃y:Int×Int×Fn×X_×X_,g=Bv (x13 P kv pa told f (c0::cs) s.r bA)/\Cells v [(S_ bA),(T_ bA 1),(T_ bA 2)] [.int .u16 y.1,.int .u16 y.2.1,.func y.2.2.1 y.2.2.2.1 y.2.2.2.2]/\S.Bl i told v) fun g v ⟨hg,h⟩=>by
  obtain⟨x0,y0,fn,ca,cb,h1,h2⟩:=S.blocked i told bA v h
  exact⟨(x0,y0,fn,ca,cb),hg,h1,h2⟩).pick;refine(Holds.reads (sl:=G6) E.under O (A.blk.b13 _ _ _ _ _ _ _ (.int .u16 x0) (.int .u16 y0) (.func fn ca cb)) (fun v h=>h.1) H1).bind fun gs2 w2 sl2 t2 _ H2=>?_
 refine(H2.OO (sl:=sl2) (K:=fun _=>True) hj O (Cy (A.blk.a14 _ _ _ _ _ _ _ _))).bind fun lV w3 Zh t3 _ H3=>?_
 rw[show run P 2 (Bj (x13 P kv pa told f (c0::cs) s.r bA) (.agg #[.int .u16 x0,.int .u16 y0,.func fn ca cb]))=x14 P kv pa told (Ll x0 y0 fn ca cb) f (c0::cs) s.r bA from rfl,at_toldN (l:=[(0,pr s.r),(1,Ll x0 y0 fn ca cb)]) (A.blk.b14 _ _ _ _ _ _ _ _) (A.blk.c14 _ _ _ _ _ _ _ _) (A.blk.d14 _ _ _ _ _ _ _ _)]at H3;refine(SN (sl:=Zh) (J:=S.Bl i told) A W M E (H3.mono fun g v h=>⟨h.1,h.2.2⟩)).bind fun rQ w7 rO t7 _ H7=>?_
 obtain⟨g4,bB,H7⟩:=H7;obtain⟨q,n,B,g,v,h1,⟨rfl,⟨v0,hBl,gr,hbB,BA⟩,hcells⟩,Tw,hZ,D⟩:=H7;obtain⟨iU,ty,pp,hp1,hp2,hback⟩:=S.yo i told v0 hBl;obtain⟨b,hb,xH⟩:=D.idle;have iY:s.KS w7:=xH.1.1;have G1:=PY (P:=P) E (Ll x0 y0 fn ca cb);refine(Sg (Ak:=fun g=>g=c) G1.leans G1.weak G1.lasts G1.meets G1.jm G1.jl rfl (es:=#[]) (n+sumTo rQ.size q+1) n rQ _ w7 rO t7 q B (by omega) h1 rfl D (G1.opens w7 iY) (fun d=>Vf (A.Ey.xs _ _ _ _ _ _) (w7.at d)) (by simp)).bind fun gs8 w8 sl8 t8 _ Mt=>?_
 obtain⟨q8,g₂,d,k',m1,m2,m3,m4,m5,rfl,m7,m8,m9,m10,m11⟩:=Mt;subst m3;have hK':s.KS ((w7.at d).setChan s.q1 0 #[] false (k'+1) (k'+1) false):=G1.keeps w7 d (k'+1) iY;generalize hw8:(w7.at d).setChan s.q1 0 #[] false (k'+1) (k'+1) false=w8 at*;have h8:∀y,y≠s.q1->w8.heap[y]?=w7.heap[y]?:=fun y hy=>by rw[<-hw8];exact Ht (Ne.symm hy)
 have h8s:w8.heap.size=w7.heap.size:=by rw[<-hw8];exact GY
 have h8o:BO Z w7 w8:=by rw[<-hw8];exact Jr (E.zq mU) w7 d (k'+1) false
 obtain⟨kq,hkq⟩:=hK'.2.2 s.q3 TU;have hpl:=(Array.getElem?_eq_some_iff.1 hp1).1;have hpv:v.heap[pa.block]?=some (.cells iU ty (0,0)):=by rw[gr.2.1 _ hpl];exact hp1
 have hpz:¬Z pa.block/\¬Od.dead pa.block:=by
  refine⟨fun h=>?_,fun h=>?_⟩
  ·rw[Tw.dead _ h (by omega)]at hpv;simp[CB]at hpv
  ·rw[Tw.Io _ h]at hpv;simp[CB]at hpv
 have hbz:¬Z bB/\¬Od.dead bB:=⟨(Tw.cell hcells.1).2.1,Tw.Rq hcells.1⟩;have tK:∀y,(y=pa.block\/bB<=y)->¬Z y:=fun y hy hz=>by
  rcases hy with rfl|hy
  ·exact hpz.1 hz
  ·have:=hZ y hz;have:y≠bB:=fun e=>hbz.1 (e ▸ hz)
   omega
 have hpw:w8.heap[pa.block]?=some (.cells iU ty (0,0)):=by
  rw[h8 pa.block (fun e=>hpz.1 (by rw[e];exact E.zq mU)),<-Tw.same _ hpz.1 hpz.2];exact hpv
 have hbw:bB<w8.heap.size:=by rw[h8s,<-Tw.size];omega
 have hLs:∀l,(LL pa.block bB) l->¬Ac l:=fun l ⟨a,e,ha⟩ h=>by subst e;exact tK _ ha (E.under.1 a h)
 have hLt:∀l,(LL pa.block bB) l->¬s.Still l:=fun l ⟨a,e,ha⟩ h=>by subst e;exact tK _ ha ((Gv E.IL).1 a h)
 have hLW:∀l,I8 s.r s.pre l->¬(LL pa.block bB) l:=fun l h hl=>hLs l hl (E.ofw l h)
 have hWL:∀l,I8 s.r s.pre l->(fun l=>Ac l\/LL pa.block bB l) l/\¬(fun l=>s.Still l\/LL pa.block bB l) l:=fun l h=>⟨.inl (E.ofw l h),fun hs=>hs.elim (fun hs=>(E.w l h).2 hs) (hLW l h)⟩
 have hnr:¬(LZ pa.block bB) s.r:=fun h=>tK _ h (E.IL _ (by simp[Ib.own]))
 have HX:=QX (Zl:=(LZ pa.block bB)) (cs:=iU) (OQ:=ty) (p:=pp) (sa:=pa.add 5) (.inl rfl);have HP:JF P (fun y=>y=s.r\/(LZ pa.block bB) y) (fun l=>Ac l\/LL pa.block bB l) (fun l=>s.Still l\/LL pa.block bB l) (fun g=>g=c) c s.r s.pre 257 (Eb P s) (VA P c s.r s.pre 257 (Eb P s) (fun l=>Ac l\/LL pa.block bB l) (fun l=>s.Still l\/LL pa.block bB l) (LZ pa.block bB) (GL iU ty (pa.add 5) pp)) (GL iU ty (pa.add 5) pp):=
  vD (.inl rfl) (fun _ h=>.inr h) hnr hWL (fun a ha=>⟨.inr ⟨a,rfl,ha⟩,.inr ⟨a,rfl,ha⟩⟩) E.c0 rfl HX;have NW:FV P s.r s.pre 257 (LZ pa.block bB) (Eb P s).gR (GL iU ty (pa.add 5) pp) (66+1) (Conc.served (gC P s fc i x) (commResult (Fh s.q1 s.q3) .select 0 (Ll x0 y0 fn ca cb) true)) w8:=by
  have:=eP (Zl:=(LZ pa.block bB)) (S0:=bB) (cs:=iU) (OQ:=ty) (p:=pp) (pa:=CK s.q0) (pb:=CK s.q1) (pc:=CK s.q2) (pd:=CK s.q3) (A.back s.b5 s.b2 s.b3 s.r s.q0 s.q1 s.q3 (pa.add 5) s.n) (.inl rfl) (fun y hy=>.inr hy) (by show pa.block<bB;omega) hp2 fc i x x0 y0 fn ca cb hpw hbw
  unfold gC Eb outs
  rw[hsv]
  exact this
 have hby:ByX P s c (VA P c s.r s.pre 257 (Eb P s) (fun l=>Ac l\/LL pa.block bB l) (fun l=>s.Still l\/LL pa.block bB l) (LZ pa.block bB) (GL iU ty (pa.add 5) pp)) (GL iU ty (pa.add 5) pp) kq (66+1+((Eb P s).k1+(Eb P s).k2+(Eb P s).k3+(Eb P s).k4+(Eb P s).nF+(Eb P s).nP+10)) (Conc.served (gC P s fc i x) (commResult (Fh s.q1 s.q3) .select 0 (Ll x0 y0 fn ca cb) true)) w8 t8:=
  ⟨.inl ⟨⟨m10,m9.knL (fun l ⟨a,e,_⟩=>by rw[e];rfl) hLs hLt E.ss⟩,hK'.1,m9.hears c (.inr rfl),66,rfl,NW⟩,hkq,hK'.2.1⟩;have D8:Duo P (fun l=>Ac l\/LL pa.block bB l) (fun l=>s.Still l\/LL pa.block bB l) (fun g=>g=0) (fun g=>g=c) B 0 c (ByX P s c (VA P c s.r s.pre 257 (Eb P s) (fun l=>Ac l\/LL pa.block bB l) (fun l=>s.Still l\/LL pa.block bB l) (LZ pa.block bB) (GL iU ty (pa.add 5) pp)) (GL iU ty (pa.add 5) pp) kq) _ gs8 w8 t8 q8:=
  ⟨Ne.symm E.c0,.inl rfl,fun g hg=>.inl hg,⟨_,m2,hby⟩,m7,m8,(m11.fewer (IQ:=fun g=>g=0) fun g hg=>.inl hg).ax9 hLs,by rw[h8s];exact D.size⟩;have FD:∀y,(y=s.r\/(LZ pa.block bB) y)->(Z y\/(LZ pa.block bB) y):=fun y hy=>hy.imp (fun e=>by rw[e];exact E.IL _ (by simp[Ib.own])) id
 have hq0:∀y,s.own y->y≠s.r->¬(y=s.r\/(LZ pa.block bB) y):=fun y ho BN h=>h.elim BN fun h=>tK y h (E.IL y ho)
 have OB:=aj (Z':=fun y=>Z y\/(LZ pa.block bB) y) (k:=kq) A.done E.ok E.c0 HP (.inl rfl) FD hWL (fun y h=>.inl (E.IL y h)) hq0;have e8:Conc.served (Bv (xs P g4 (Y13 P kv pa told (Ll x0 y0 fn ca cb) f (c0::cs) s.r bA) s.r s.q1 bB (Ll x0 y0 fn ca cb))) (commResult (WS s.q1 (Ll x0 y0 fn ca cb)) .send ((0:Nat):Int) undef false)=Bv (vB P kv pa told (Ll x0 y0 fn ca cb) f g4 (c0::cs) s.r s.q1 bA bB):=by
  rw[OE];rfl
 have m1':gs8[0]?=some (Bv (vB P kv pa told (Ll x0 y0 fn ca cb) f g4 (c0::cs) s.r s.q1 bA bB)):=by rw[<-e8];exact m1
 refine(FJ (J:=fun _=>True) (fun _ _ _ _ _ _=>trivial) OB 16 (Cy (A.blk.w4a kv pa told f g4 (c0::cs) s.r s.q1 bA bB (Ll x0 y0 fn ca cb))) m1' D8).bind fun gs9 w9 sl9 t9 _ ⟨q9,n9,B9,h9,o9,_,D9⟩=>?_
 obtain⟨fe,ee⟩:=Rj (s:=s) (c0:=c0) (cs:=cs) A.Ey (A.blk.w4b kv pa told f g4 (c0::cs) s.r s.q1 bA bB (Ll x0 y0 fn ca cb)) (A.blk.w4c kv pa told f g4 (c0::cs) s.r s.q1 bA bB (Ll x0 y0 fn ca cb)) (A.blk.w4d kv pa told f g4 (c0::cs) s.r s.q1 bA bB (Ll x0 y0 fn ca cb)) (A.blk.w4e kv pa told f g4 (c0::cs) s.r s.q1 bA bB (Ll x0 y0 fn ca cb)) (A.blk.w4f kv pa told f g4 (c0::cs) s.r s.q1 bA bB (Ll x0 y0 fn ca cb));have h9':gs9[0]?=some (Bv (Qk P s fe (af7 P) told c0 cs)):=by rw[<-ee];exact h9
 refine(Tn (Z:=fun y=>Z y\/(LZ pa.block bB) y) (Ac:=Ac) A E.ok E.c0 HP (.inl rfl) FD hWL (fun y h=>.inl (E.IL y h)) hq0 (fun l hl h=>h.elim (E.ss l hl) fun h=>hLt l h hl) (fun y h=>h.elim (Qn y) fun⟨_,e,_⟩=>by cases e) (fun l h h'=>h.resolve_right fun hl=>h' (.inr hl)) (fun _ _ h=>h) h9' D9).mono fun AZ w' t' bf1=>?_
 obtain⟨q',B',j1,j2,j3,j4,j5,j6⟩:=bf1;have zF:BO (fun y=>Z y\/(y=pa.block\/bB<=y)) w7 w':=((h8o.sub fun _ h=>.inl h).trans o9).trans j2;have TW:=Tw.ab0 hZ gr hbB BA hbz hp1 hpz (lI:=Qj iU ty (pa.add 5) pp) rfl zF j6;have hle:v0.heap.size<=w'.heap.size:=by have:=zF.size;have:=Tw.size;omega
 refine⟨fun y=>Z y\/(bB<=y/\y<w'.heap.size),fun _ h=>.inl h,told,{ v0 with heap:=DC v0 pa.block (Qj iU ty (pa.add 5) pp) w'.heap.size },B',hback _ ⟨?_,fun y hy BN=>?_,?_,rfl,rfl⟩,j1,q',TW,fun r hr=>?_,j3,j4,j5⟩
 ·simp[DC];exact hle
 ·show(DC v0 pa.block _ w'.heap.size)[y]?=_;rw[Fx (by omega),if_neg BN,Array.getElem?_eq_getElem hy];rfl
 ·show(DC v0 pa.block _ w'.heap.size)[pa.block]?=_;rw[Fx (by omega),if_pos rfl]
 ·show r<(DC v0 pa.block _ w'.heap.size).size;simp only[DC,Array.size_ofFn];rcases hr with hr|hr
  ·have:=hZ r hr;have:=zF.size;have:=Tw.size;omega
  ·exact hr.2
end
section
variable {P:Program} {L:FuncId->Prop} {p:FuncId->Oper->Bool} {N:Fence} {m:Nat} {host:FuncId} {Z:Nat->Prop} {Ac:Loc->Prop} {s:Ib} {c:Nat} {kv:Value} {pa:Addr} {c0:Frame} {cs:Z_}
theorem aa7 (S:N7 P N m kv pa s.n) (hsv:s.sv=OV pa) (told:Value):oW P N m s.r s.sv s.n (fun i=>S.I i told) (fun i x=>S.Cd i told x) (S.Bd told) where
 wp:=fun i v f hv h0 hi τ d=>by rw[hsv];exact S.step s.r i told v f hv h0 hi τ d
 tI:=fun i=>S.tI i told
 tC:=fun i x=>S.tC i told x
 tB:=S.tB told
theorem oz {f:Nat->Value} {told:Value} (hT:Told f (Zg kv pa told s.r s.q0 s.q2)):AR f (rV kv pa told s.r)=f:=
 Told.eq fun q hq=>hT q (by simp only[rV,Zg,List.mem_cons,List.not_mem_nil,or_false]at hq ⊢;rcases hq with h|h|h|h<;>simp[h])
theorem lh {Od:Old} (A:DW P) (W:Rv P L p N host) (E:Env Z Ac s c) (S:N7 P N m kv pa s.n) {told:Value} {f:Nat->Value} (hT:Told f (Zg kv pa told s.r s.q0 s.q2)) {kq:Nat} {gs:Array Goroutine} {w:World} {sl:Option (W_)} {t:Trace}
  (H:Holds Od P Z Ac s.Still (fun g=>g=0) (fun g=>g=c) 0 c (zo P s c kq) (fun g v=>g=Conc.served (gK P s f (c0::cs)) (commResult (KL s.q0 s.q2) .select 1 (.int .i64 2) true)/\S.Bd told v) gs w t):
  AB P gs w sl t (Zz Od P Ac Z S.Fin c0 cs):=by
 have O:=oU (P:=P) (k:=kq) A.done E;have hj:∀n b w t,zo P s c kq n b w t->∀d,(fun _=>True:World->Prop) (w.at d):=fun _ _ _ _ _ _=>trivial
 have e0:Conc.served (gK P s f (c0::cs)) (commResult (KL s.q0 s.q2) .select 1 (.int .i64 2) true)=Bv (n0 P kv pa told f (c0::cs) s.r s.q0 s.q2 2):=by
  unfold n0
  rw[oz hT]
  rfl
 rw[e0]at H;refine(H.OO (sl:=sl) (K:=fun _=>True) hj O (Cy (A.Ey.n1a _ _ _ _ _ _ _ _))).bind fun gs1 w1 G6 t1 _ H1=>?_
 rw[at_toldN (l:=rV kv pa told s.r) (A.Ey.n1b _ _ _ _ _ _ _ _) (A.Ey.n1c _ _ _ _ _ _ _ _) (A.Ey.n1d _ _ _ _ _ _ _ _)]at H1;refine(Holds.part (sl:=G6) W E.under (Gv E.IL) O (.inl rfl) rfl (by simp) (fun v hv=>S.bad s.r told v _ hv) (fun tm v τ d ⟨f',BJ,e,h⟩=>⟨f',BJ,e,S.tF _ v τ d h⟩) H1).bind fun gs2 w2 sl2 t2 _ H2=>?_
 obtain⟨⟨f2,BJ⟩,H2⟩:=(H2.mono (C':=fun g v=>∃y:(Y_)×Value,g=Bv (f56 (AR y.1 [(7,y.2)]) (c0::cs) (T21 P) (Mg s.r))/\S.Fin y.2 v) fun g v ⟨tm,hg,f',BJ,e,h⟩=>⟨(f',BJ),by rw[hg,e];rfl,h⟩).pick;refine(H2.OO (sl:=sl2) (K:=fun _=>True) hj O (Cy (A.Ey.w3a _ _ _ _))).bind fun gsa wa WC ta _ Ha=>?_
 obtain⟨fe,e⟩:=Rj (s:=s) (c0:=c0) (cs:=cs) A.Ey (A.Ey.w3b BJ _ _ s.r) (A.Ey.w3c BJ _ _ s.r) (A.Ey.w3d BJ _ _ s.r) (A.Ey.w3e BJ _ _ s.r) (A.Ey.w3f BJ f2 (c0::cs) s.r);rw[show Bv (run P 12 (f56 (AR f2 [(7,BJ)]) (c0::cs) (T21 P) (Mg s.r)))=Bv (Fxa.w3 P BJ f2 (c0::cs) s.r)from rfl,e]at Ha;exact(QU (sl:=WC) A E Ha).mono fun AZ w' t' ⟨v,B,k1,k2,k3⟩=>⟨BJ,v,B,k1,k2,k3⟩
theorem Yv {Od:Old} (A:DW P) (E:Env Z Ac s c) (S:N7 P N m kv pa s.n) {told:Value} {f:Nat->Value} (hT:Told f (Zg kv pa told s.r s.q0 s.q2)) {kq:Nat} {gs:Array Goroutine} {w:World} {sl:Option (W_)} {t:Trace}
  (H:Holds Od P Z Ac s.Still (fun g=>g=0) (fun g=>g=c) 0 c (zo P s c kq) (fun g v=>g=Conc.served (gK P s f (c0::cs)) (commResult (KL s.q0 s.q2) .select 1 (.int .i64 0) true)/\S.I s.n told v) gs w t):
  AB P gs w sl t (Zz Od P Ac Z S.Fin c0 cs):=by
 have O:=oU (P:=P) (k:=kq) A.done E;have hj:∀n b w t,zo P s c kq n b w t->∀d,(fun _=>True:World->Prop) (w.at d):=fun _ _ _ _ _ _=>trivial
 have e0:Conc.served (gK P s f (c0::cs)) (commResult (KL s.q0 s.q2) .select 1 (.int .i64 0) true)=Bv (n0 P kv pa told f (c0::cs) s.r s.q0 s.q2 0):=by
  unfold n0
  rw[oz hT]
  rfl
 rw[e0]at H;refine(H.OO (sl:=sl) (K:=fun _=>True) hj O (Cy (A.Ey.w2a _ _ _ _ _ _ _ _))).bind fun gsa wa WC ta _ Ha=>?_
 obtain⟨fe,e⟩:=Rj (s:=s) (c0:=c0) (cs:=cs) A.Ey (A.Ey.w2b kv pa told _ _ s.r s.q0 s.q2) (A.Ey.w2c kv pa told _ _ s.r s.q0 s.q2) (A.Ey.w2d kv pa told _ _ s.r s.q0 s.q2) (A.Ey.w2e kv pa told _ _ s.r s.q0 s.q2) (A.Ey.w2f kv pa told f (c0::cs) s.r s.q0 s.q2);rw[show Bv (run P 32 (n0 P kv pa told f (c0::cs) s.r s.q0 s.q2 0))=Bv (Fxa.w2 P kv pa told f (c0::cs) s.r s.q0 s.q2)from rfl,e]at Ha;exact(QU (sl:=WC) A E Ha).mono fun AZ w' t' ⟨v,B,k1,k2,k3⟩=>⟨told,v,B,S.spent _ _ k1,k2,k3⟩
theorem dw {Od:Old} (A:DW P) (W:Rv P L p N host) (M:UG P N m) (E:Env Z Ac s c) (S:N7 P N m kv pa s.n) (hn:s.n<=1000) (hsv:s.sv=OV pa):
  ∀(k:Nat) (i:Int) (told:Value) (f fK:Y_) (gs:Array Goroutine) (w:World) (sl:Option (W_)) (t:Trace),(s.n-i).toNat<=k->0<=i->i<=s.n->Told fK (Zg kv pa told s.r s.q0 s.q2)->
  Holds Od P Z Ac s.Still (Gm c) (fun g=>g=0) c 0 (ByK P s c (gK P s fK (c0::cs))) (fun g v=>g=Bv (LH P (AR f (JY s.r s.sv s.n i)) (Qa P s.b5 s.b2 s.b3 s.r s.sv s.n))/\S.I i told v) gs w t->
  AB P gs w sl t (gz Od P Ac Z S.Fin c0 cs):=by
 intro k
 induction k using Nat.strongRecOn with
 | _ k ih=>
  intro i told f fK gs w sl t hk h0 hle hT H
  have F:=A.child s.b5 s.b2 s.b3 s.r s.q0 s.q1 s.q2 s.q3 s.sv s.n
  have OK:=ak (P:=P) (gS:=gK P s fK (c0::cs)) E
  refine(eO F Kt (aa7 S hsv told) hn W.fenced E.under (Gv E.IL) gu (fun w a h hs=>GV h hs) E.ss OK W.Mq (W.seen 136 (by simp)) (W.ops _ (by simp)) h0 k i f gs w sl t hk (Int.le_refl _) hle H).bind fun gs1 w1 G6 t1 _ H1=>?_
  rcases H1.or with H1|H1
  ·
   obtain⟨⟨i1,f1,x⟩,H1⟩:=(H1.mono (C':=fun g v=>∃y:Int×(Y_)×Value,(i<=y.1/\y.1<s.n)/\g=Bv (k3 P s.q0 s.q3 (AR y.2.1 (DT s.r s.sv s.n y.1 1 y.2.2)) (Qa P s.b5 s.b2 s.b3 s.r s.sv s.n))/\S.Cd y.1 told y.2.2 v) fun g v ⟨i1,f1,x,k1,k2,k3,k4⟩=>⟨(i1,f1,x),⟨k1,k2⟩,k3,k4⟩).pick;obtain⟨⟨hi0,hi1⟩,H1⟩:=H1.fact;refine(Holds.give (sl:=G6) (dL E x) (fun w h=>qA h) (Jb _) (fun w=>Gj (F.s16 f1 _ i1 x) w) (eF F Kt f1 _ i1 x) H1).bind fun gs2 w2 sl2 t2 _ H2=>?_
   refine(Yx (sl:=sl2) A W E S hT H2).bind fun lV w3 Zh t3 _ H3=>?_
   rcases H3 with(H3|⟨f3,bA,H3⟩)|⟨f3,BJ,bA,H3⟩
   ·exact .now H3.up
   ·exact Us (sl:=Zh) A W M E S hsv H3
   refine(Wx (sl:=Zh) A W M E S H3).bind fun gs4 w4 JY t4 _ H4=>?_
   obtain⟨f4,An,hT4,H4⟩:=H4;have O4:=ak (P:=P) (gS:=gK P s f4 (c0::cs)) E;obtain⟨f5,hw5⟩:=TC (main:=c==0) (K:=s.KW) (Still:=s.Still) (A.ans s.r s.q0 s.q1 s.q3 s.sv s.n) f1 (Qa P s.b5 s.b2 s.b3 s.r s.sv s.n) i1 x An;refine(H4.walk (sl:=JY) gu (fun w a h hs=>GV h hs) E.ss O4 hw5).bind fun gs5 w5 xn t5 _ H5=>?_
   refine(Holds.out (sl:=xn) (Q:=fun tm w'=>∃g,tm=TN 49 (AR g [(6,.bool true)])/\S.I (i1+1) BJ w') W E.under (Gv E.IL) O4 (by simp) rfl (by simp) (fun v hv=>by rw[hsv];exact S.Yi s.q1 s.q3 i1 BJ An v f5 hv (by omega) hi1) (fun tm v τ d ⟨g,e,h⟩=>⟨g,e,S.tI _ _ v τ d h⟩) H5).bind fun yY w6 DT t6 _ H6=>?_
   obtain⟨⟨g6,td⟩,H6⟩:=(H6.mono (C':=fun g v=>∃y:(Y_)×List Item,g=Bv (a2 P s.q0 s.q1 s.q3 x (AR f1 (Fxa.DT s.r s.sv s.n i1 1 x)) y.1 (Qa P s.b5 s.b2 s.b3 s.r s.sv s.n) y.2)/\S.I (i1+1) BJ v) fun g v ⟨tm,todo,hg,g6,e,h⟩=>⟨(g6,todo),by rw[hg,e];rfl,h⟩).pick;obtain⟨f7,hw7⟩:=Y2 (main:=c==0) (K:=s.KW) (Still:=s.Still) (A.ans s.r s.q0 s.q1 s.q3 s.sv s.n) f1 g6 (Qa P s.b5 s.b2 s.b3 s.r s.sv s.n) td i1 x;rw[show IntKind.i64.wrap (i1+1)=i1+1 by simp[IntKind.wrap,IntKind.bits,IntKind.signed];omega]at hw7;refine(H6.walk (sl:=DT) gu (fun w a h hs=>GV h hs) E.ss O4 hw7).bind fun rQ w7 rO t7 _ H7=>?_
   exact ih (s.n-(i1+1)).toNat (by omega) (i1+1) BJ f7 f4 rQ w7 rO t7 (Nat.le_refl _) (by omega) (by omega) hT4 H7
  ·rcases H1.or with H1|H1
   ·
    obtain⟨⟨i1,f1,x⟩,H1⟩:=(H1.mono (C':=fun g v=>∃y:Int×(Y_)×Value,g=Bv (e3 P s.q2 s.q3 (AR y.2.1 (DT s.r s.sv s.n y.1 2 y.2.2)) (Qa P s.b5 s.b2 s.b3 s.r s.sv s.n))/\S.Bd told v) fun g v ⟨i1,f1,x,k1,k2⟩=>⟨(i1,f1,x),k1,k2⟩).pick;refine(Holds.last (sl:=G6) 2 E (Jb _) (fun w=>Gj (F.e16 f1 _ i1 x) w) (Ww F f1 i1 x) H1).bind fun gs2 w2 sl2 t2 _ ⟨kq,H2⟩=>?_
    exact(lh (sl:=sl2) A W E S hT H2).mono fun _ _ _ h=>h.up
   ·
    obtain⟨f1,H1⟩:=H1.pick;refine(Holds.last (sl:=G6) 0 E (Jb _) (fun w=>Gj (F.d16 f1 _ s.n) w) (TB F f1 s.n) H1).bind fun gs2 w2 sl2 t2 _ ⟨kq,H2⟩=>?_
    exact(Yv (sl:=sl2) A E S hT H2).mono fun _ _ _ h=>h.up
end
end Go.Fxa
