/- A holder and one bystander, be -/
import Derived.Test.YtmhplpfpcnjekaaGreatA03
import Derived.Test.YtmhplpfpcnjekaaGreatA04
namespace Go.Fxa
open Go.Conc
open Go.ConcN (sumTo upd sumTo_upd upd_ne upd_same)
variable {w w':o_}{B i c:Nat}{e:Event}{fn:h_}{pos:String}{es:Array Event}{t:Trace}{gs:Array m_}{Q Q':Array m_->o_->Trace->Prop}{g:m_}{cs:Array CommCase}{sh:CommShape}
structure CS (Z:Nat->Prop)(w w1:o_):Prop where
 size:w.heap.size<=w1.heap.size
 same:∀r,¬Z r->w1.heap[r]?=w.heap[r]?
 os:w1.os=w.os
 output:w1.output=w.output
 tape:w1.tape=w.tape
def Js (Z:Nat->Prop)(w w1:o_):Prop:=∀r,Z r->w1.heap[r]?=w.heap[r]?
def aN (Ad Still:Loc->Prop)(B:Nat)(e:Event):Prop:=
 (∀x,(MemAct.ofEvent e).touch?=some x->(Still x.loc->x.write=false/\¬Ad x.loc)/\(Ad x.loc->x.kind≠.plain))/\e.loc≠.mark .disable/\e.loc≠.mark .enable/\(MemAct.ofEvent e).low B/\∀a,e.loc≠.mark (.release a)
def GG (w:o_)(cc:CommCase):Prop:=∃c z k,cc=rcase c z/\w.heap[c]?=some (.chan 0 #[] false k k false)
def Yn (Ad Still:Loc->Prop)(j:Nat)(u:Trace):Prop:=∀op∈u,op.g≠j/\(∀b,op.act.touch?=some b->(Still b.loc->b.write=false/\¬Ad b.loc)/\(Ad b.loc->b.kind≠.plain))/\(∀a,op.act≠.mark (.release a))/\(op.act=.mark .disable\/op.act=.mark .enable->op.g≠0)
def cf7 (Tr:Nat->Trace->Prop)(B:Nat)(w:o_)(t:Trace):Prop:=∃B',B<=B'/\w.heap.size<=B'/\Tr B' t
structure G8 (P:l_)(Z:Nat->Prop)(Ad Still:Loc->Prop)(Tr:Nat->Trace->Prop)(j:Nat)(By:Nat->m_->o_->Trace->Prop):Prop where
 status:∀{n g w t},By n g w t->(g.status=.running/\0<n)\/g.status=.blocked\/g.status=.finished
 again:∀{n g w t},By n g w t->∀w',Js Z w w'->g.again w'=g
 calm:∀{n g w t} (w':o_) (u:Trace),By n g w t->Js Z w w'->Yn Ad Still j u->By n g w' (t++u)
 step:∀{n g w t B},By n g w t->g.status=.running->Tr B t->w.heap.size<=B->∀d,
  (∃n' g' w' es,n'<n/\stepG P (j==0) g (w.at d)=.go g' w' es/\CS Z w w'/\cf7 Tr B w' (t++MemOp.ofEvents j g.frame.fn g.frame.place es)/\By n' g' w' (t++MemOp.ofEvents j g.frame.fn g.frame.place es))\/
  (∃n' g₂ cases shape es,n'<n/\stepG P (j==0) g (w.at d)=.comm g₂ cases true shape (w.at d) es/\(∀cc∈cases,GG w cc)/\Tr B (t++MemOp.ofEvents j g.frame.fn g.frame.place es)/\
   By n' (parked g₂ cases shape) (w.at d) (t++MemOp.ofEvents j g.frame.fn g.frame.place es))\/
  (∃n' g₂ cases shape es k c z cap s r tm,n'<n/\stepG P (j==0) g (w.at d)=.comm g₂ cases true shape (w.at d) es/\cases[k]?=some (rcase c z)/\w.heap[c]?=some (.chan cap #[] true s r tm)/\(∀(m:Nat) cc,m≠k->cases[m]?=some cc->GG w cc)/\
   Tr B (t++(MemOp.ofEvents j g.frame.fn g.frame.place es++#[{ g:=j,fn:=g₂.frame.fn,pos:=g₂.frame.place,act:=.recvClosed c}]))/\
   By n' (Conc.served g₂ (commResult cases shape k z false)) (w.at d) (t++(MemOp.ofEvents j g.frame.fn g.frame.place es++#[{ g:=j,fn:=g₂.frame.fn,pos:=g₂.frame.place,act:=.recvClosed c}])))
structure Duo (P:l_)(Ad Still:Loc->Prop)(Mem Am:Nat->Prop)(B h j:Nat)(By:Nat->m_->o_->Trace->Prop)(n:Nat)(gs:Array m_)(w:o_)(t:Trace)(q:Nat->Nat):Prop where
 ne:h≠j
 zero:h=0\/j=0
 mem:∀g,Mem g->g=h\/g=j
 idle:∃b,gs[j]?=some b/\By n b w t
 JP:∀i g,i≠h->i≠j->gs[i]?=some g->QuitsD P (q i) (Deaf t i) g
 above:∀i,gs.size<=i->Deaf t i=0
 tr:PX Ad Still Mem Am B h t
 size:w.heap.size<=B
section
variable {P:l_}{Z:Nat->Prop}{Ad Still:Loc->Prop}{Mem Am:Nat->Prop}{h j:Nat}{By:Nat->m_->o_->Trace->Prop}
theorem CS.refl (w:o_):CS Z w w:=⟨w_,λ_ _=>rfl,rfl,rfl,rfl⟩
theorem CS.at (w:o_)(d:Nat):CS Z w (w.at d):=⟨w_,λ_ _=>rfl,rfl,rfl,rfl⟩
theorem CS.trans {w1 w2:o_}(h:CS Z w w1)(b:CS Z w1 w2):CS Z w w2:=
 ⟨lN h.size b.size,λr a=>(b.same r a).trans (h.same r a),b.os.trans h.os,b.output.trans h.output,b.tape.trans h.tape⟩
theorem CS.bu5 {w1:o_}(h:CS Z w w1)(d:∀r,Z r->r<w.heap.size):w1.heap.size=w.heap.size:=by
 refine Nat.le_antisymm (Nat.le_of_not_lt λa=>?_) h.size;have e:=h.same w.heap.size λb=>Nat.lt_irrefl _ (d _ b)
 rw[Array.getElem?_eq_none w_,v_ a]at e;cases e
theorem Yr.off {Od:Old}{v w1:o_}(T:Yr Od Z v w)(d:∀r,Z r->r<v.heap.size)(h:CS Z w w1):Yr Od Z v w1:=
 ⟨T.size.trans (h.bu5 (by rw[<-T.size];exact d)).symm,λr b a=>(T.same r b a).trans (h.same r b).symm,T.dead,T.plain,T.os.trans h.os.symm,T.output.trans h.output.symm,T.KN,λr a=>(h.same r (T.ax r a)).trans (T.kept r a),T.ax⟩
theorem aN.mono {a:Nat}(hB:B<=a)(h:aN Ad Still B e):aN Ad Still a e:=⟨h.1,h.2.1,h.2.2.1,MemAct.low_mono hB h.2.2.2.1,h.2.2.2.2⟩
theorem Yv:∀op∈MemOp.ofEvents i fn pos es,op.g=i:=λop a=>by
 obtain⟨e,_,rfl⟩:=p_ a;rfl
theorem PX.own (H:PX Ad Still Mem Am B h t)(d:∀e∈es,aN Ad Still B e):PX Ad Still Mem Am B h (t++MemOp.ofEvents h fn pos es):=by
 refine H.appH Yv (λop c b hb=>by obtain⟨e,a,rfl⟩:=p_ c;exact(d e a).1 b hb) (λ_=>?_) (λop c=>by obtain⟨e,a,rfl⟩:=p_ c;exact(d e a).2.2.2.1);rw[Deaf_own];exact deafBehind_still (λe a=>⟨(d e a).2.1,(d e a).2.2.1⟩) _
theorem Gn (o:i≠j)(n:∀e∈es,aN Ad Still B e):Yn Ad Still j (MemOp.ofEvents i fn pos es):=by
 intro op h;refine⟨by rw[Yv op h];exact o,?_⟩;obtain⟨e,f,rfl⟩:=p_ h;refine⟨λb hb=>(n e f).1 b hb,λa c=>?_,λc=>?_⟩
 .have:=(n e f).2.2.2.2 a;obtain⟨d,wr,g⟩:=e;cases d with
  |obj r=>cases wr<;>cases g<;>simp[MemAct.ofEvent]at c
  |mark m=>simp[MemAct.ofEvent]at c;subst c;exact this rfl
  |_=>simp[MemAct.ofEvent]at c
 .exfalso;have k:=(n e f).2.1;have l:=(n e f).2.2.1;obtain⟨d,wr,g⟩:=e;cases d with
  |obj r=>cases wr<;>cases g<;>simp[MemAct.ofEvent]at c
  |mark m=>simp[MemAct.ofEvent]at c;obtain rfl|rfl:=c;exact k rfl;exact l rfl
  |_=>simp[MemAct.ofEvent]at c
theorem Sj (l:i≠j)(hi:i≠0)(k:∀e∈es,e.mute=true):Yn Ad Still j (MemOp.ofEvents i fn pos es):=by
 intro op d;refine⟨by rw[Yv op d];exact l,?_⟩;obtain⟨e,g,rfl⟩:=p_ d;refine⟨λb hb=>(by rw[touch_mute (k e g)]at hb;cases hb),λa f=>?_,λ_=>hi⟩;have:=k e g;obtain⟨c,wr,h⟩:=e;cases c with
 |obj r=>simp[Event.mute]at this
 |mark m=>simp[MemAct.ofEvent]at f;subst f;simp[Event.mute]at this
 |_=>simp[Event.mute]at this
theorem Kt {send:Bool}(hb:∀k g,k≠i->gs[k]?=some g->g.status≠.blocked):partners (gs.setIfInBounds i ph) c send=[]:=by
 refine partners_nil λk g d=>?_
 obtain⟨rfl,rfl⟩|⟨b,a⟩:=getElem?_stand gs i k g d
 .exact offersAt_ph _ _
 .exact offersAt_of_not_blocked (hb k g b a) _ _
theorem ZH (O:G8 P Z Ad Still (fun B t=>PX Ad Still Mem Am B h t) j By):∀(X n:Nat)(gs:Array m_)(a:m_)(w:o_)(sl:d_ (W_))(t:Trace)(q:Nat->Nat)(B:Nat),
  n+sumTo gs.size q<X->gs[h]?=some a->a.status=.running->Duo P Ad Still Mem Am B h j By n gs w t q->
  ∃(N:Nat) (BA:Array m_) (w':o_) (d:Nat) (sl0 Em:d_ (W_)) (t':Trace) (q':Nat->Nat) (n':Nat),
   runNT P N (crowd gs w sl) t=(.next (crowd BA w' sl0),t')/\BA.size=gs.size/\BA[h]?=some a/\CS Z w w'/\(∃B',B<=B'/\Duo P Ad Still Mem Am B' h j By n' BA w' t' q')/\stepT P (crowd BA w' sl0)=runT P (crowd BA (w'.at d) Em) h:=by
 intro X
 induction X with
 |zero=>intro n gs a w sl t q B hX;omega
 |succ X ih=>
  intro n gs a w sl t q B hX J H D
  obtain⟨b,hb,hB⟩:=D.idle
  have haw:∀g∈gs,awake g:=by
   intro g U
   obtain⟨i,hi,rfl⟩:=Array.mem_iff_getElem.1 U
   have R:=v_ hi
   by_cases e1:i=h
   .subst e1;rw[J]at R;rw[<-x_ R];exact awake_of (.inl H)
   .by_cases e2:i=j
    .subst e2;rw[hb]at R;rw[<-x_ R];exact awake_of ((O.status hB).elim (λx=>.inl x.1) .inr)
    .exact awake_of ((D.JP i _ e1 e2 R).status.elim .inl λx=>.inr (.inr x))
  obtain⟨i,g,d,Em,hi,U,BX⟩:=crowd_pick (P:=P) (w:=w) (sl:=sl) haw ⟨h,a,J,H⟩;have BL:i<gs.size:=(y_.1 hi).1;by_cases e1:i=h
  .subst e1;exact⟨0,gs,w,d,sl,Em,t,q,n,rfl,rfl,J,CS.refl w,⟨B,w_,D⟩,BX⟩
  .by_cases e2:i=j
   .subst e2;obtain rfl:g=b:=(by rw[hb]at hi;exact(x_ hi).symm);have Y:∀k y,k≠i->gs[k]?=some y->y.status≠.blocked:=by
     intro k y C hy
     by_cases e3:k=h
     .subst e3;rw[J]at hy;rw[<-x_ hy,H];simp
     .have:=(D.JP k y e3 C hy).status;obtain h1|h1:=this<;>rw[h1]<;>simp
    obtain⟨n',g',w',I,hn,hgo,hoff,⟨Bu,hBu,hsu,LQ⟩,G⟩|⟨n',f,cases,shape,I,hn,IQ,A,LQ,G⟩|⟨n',f,cases,shape,I,k,c,z,cap,s,r,tm,hn,IQ,C,hcl,A,LQ,G⟩:=O.step hB U D.tr D.size d
    .have K:=runT_crowd_go (P:=P) (sl:=Em) (i:=i) hi hgo;have E:((gs.map (woken P g g' w')).setIfInBounds i g').size=gs.size:=sJ;obtain⟨N,BA,S,T,sl0,Q,t',q',v,W,M,p,u,L,l⟩:=ih n' ((gs.map (woken P g g' w')).setIfInBounds i g') a w' Em (t++MemOp.ofEvents i g.frame.fn g.frame.place I) q Bu (by rw[E];omega)
      (by rw[z_ e1,ik,J];simp[woken_run H]) H
      ⟨D.ne,D.zero,D.mem,⟨g',by simp[BL],G⟩,λk x Qy F o=>by
       rw[z_ (gJ F),ik]at o
       obtain⟨y,hy,rfl⟩:=lT.1 o
       have hq:=D.JP k y Qy F hy
       rw[woken_quitsD hq,Deaf_other t (gJ F) _ Yv]
       exact hq,λk C=>by
       rw[Deaf_other t (g':=i) (by simp at C;omega) _ Yv]
       exact D.above k (by simpa using C),LQ,hsu⟩;exact⟨N+1,BA,S,T,sl0,Q,t',q',v,by simp only[runNT,BX,K];exact W,M.trans E,p,hoff.trans u,let ⟨B',h1,h2⟩:=L;⟨B',lN hBu h1,h2⟩,l⟩
    .have K:=crowd_waits (P:=P) (sl:=Em) (i:=i) hi IQ (λcc GX=>by
      obtain⟨c,z,k,rfl,hc⟩:=A cc GX
      exact ways_recv_none (show(w.at d).heap[c]?=_ from hc) (Kt Y));have E:(gs.setIfInBounds i (parked f cases shape)).size=gs.size:=sJ;obtain⟨N,BA,S,T,sl0,Q,t',q',v,W,M,p,u,L,l⟩:=ih n' (gs.setIfInBounds i (parked f cases shape)) a (w.at d) Em (t++MemOp.ofEvents i g.frame.fn g.frame.place I) q B (by rw[E];omega)
      (by rw[z_ e1];exact J) H
      ⟨D.ne,D.zero,D.mem,⟨_,by simp[BL],G⟩,λk x Qy F o=>by
       rw[z_ (gJ F)]at o
       rw[Deaf_other t (gJ F) _ Yv]
       exact D.JP k x Qy F o,λk C=>by
       rw[Deaf_other t (g':=i) (by simp at C;omega) _ Yv]
       exact D.above k (by simpa using C),LQ,D.size⟩;exact⟨N+1,BA,S,T,sl0,Q,t',q',v,by simp only[runNT,BX,K];exact W,M.trans E,p,(CS.at w d).trans u,L,l⟩
    .have K:=crowd_sel_recv_closed (P:=P) (sl:=Em) (i:=i) hi IQ C (λm cc hm GX=>by
      obtain⟨c',z',k',rfl,hc⟩:=A m cc hm GX
      exact ways_recv_none (show(w.at d).heap[c']?=_ from hc) (Kt Y)) (show(w.at d).heap[c]?=_ from hcl) (Kt Y);have E:(gs.setIfInBounds i (Conc.served f (commResult cases shape k z false))).size=gs.size:=sJ;have hg1:∀op∈MemOp.ofEvents i g.frame.fn g.frame.place I++#[{ g:=i,fn:=f.frame.fn,pos:=f.frame.place,act:=.recvClosed c}],op.g=i:=by
      intro op A
      obtain A|A:=Array.mem_append.1 A
      .exact Yv op A
      .simp at A;subst A;rfl
     obtain⟨N,BA,S,T,sl0,Q,t',q',v,W,M,p,u,L,l⟩:=ih n' (gs.setIfInBounds i (Conc.served f (commResult cases shape k z false))) a (w.at d) Em (t++(MemOp.ofEvents i g.frame.fn g.frame.place I++#[{ g:=i,fn:=f.frame.fn,pos:=f.frame.place,act:=.recvClosed c}])) q B (by rw[E];omega)
      (by rw[z_ e1];exact J) H
      ⟨D.ne,D.zero,D.mem,⟨_,by simp[BL],G⟩,λk x Qy F o=>by
       rw[z_ (gJ F)]at o
       rw[Deaf_other t (gJ F) _ hg1]
       exact D.JP k x Qy F o,λk C=>by
       rw[Deaf_other t (g':=i) (by simp at C;omega) _ hg1]
       exact D.above k (by simpa using C),LQ,D.size⟩;exact⟨N+1,BA,S,T,sl0,Q,t',q',v,by simp only[runNT,BX,K];exact W,M.trans E,p,(CS.at w d).trans u,L,l⟩
   .have Mc:i≠0:=by obtain e|e:=D.zero<;>omega
    have hq:=D.JP i g e1 e2 hi;have hi0:(i==0)=false:=(by simp;omega);cases hqi:q i with
    |zero=>rw[hqi]at hq;rw[hq.1]at U;cases U
    |succ k=>
     rw[hqi]at hq
     obtain⟨hf,_⟩|⟨_,g',I,hm,hstp,hq'⟩:=hq
     .rw[hf]at U;cases U
     have K:=runT_crowd_go (P:=P) (sl:=Em) (i:=i) hi (by rw[hi0];exact hstp (w.at d));have E:((gs.map (woken P g g' (w.at d))).setIfInBounds i g').size=gs.size:=sJ;have hsum:sumTo gs.size (upd q i k)+(k+1)=sumTo gs.size q+k:=by
      have:=sumTo_upd q k id BL
      simpa [hqi]using this
     have V:∀op∈MemOp.ofEvents i g.frame.fn g.frame.place I,op.act.touch?=none:=λop A=>by obtain⟨e,he,rfl⟩:=p_ A;exact touch_mute (hm e he)
     have hnm:¬Mem i:=λR=>(D.mem i R).elim e1 e2
     obtain⟨N,BA,S,T,sl0,Q,t',q',v,W,M,p,u,L,l⟩:=ih n ((gs.map (woken P g g' (w.at d))).setIfInBounds i g') a (w.at d) Em (t++MemOp.ofEvents i g.frame.fn g.frame.place I) (upd q i k) B (by rw[E];omega)
      (by rw[z_ e1,ik,J];simp[woken_run H]) H
      ⟨D.ne,D.zero,D.mem,⟨b,by
       rw[z_ e2,ik,hb]
       simp only[Option.map_some,l7]
       exact woken_of_again (O.again hB (w.at d) λ_ _=>rfl),O.calm (w.at d) _ hB (λ_ _=>rfl) (Sj e2 Mc hm)⟩,λx y O7 MX o=>by
       by_cases e3:i=x
       .subst e3;rw[lJ (by simpa using BL)]at o;obtain rfl:=x_ o;rw[upd_same,Deaf_own];exact hq'
       .rw[z_ e3,ik]at o;obtain⟨z,hz,rfl⟩:=lT.1 o;have hqj:=D.JP x z O7 MX hz;rw[woken_quitsD hqj,upd_ne q k (gJ e3),Deaf_other t e3 _ Yv];exact hqj,λx o=>by
       rw[Deaf_other t (g':=i) (by simp at o;omega) _ Yv];exact D.above x (by simpa using o),D.tr.appMute Yv V (λx=>(hnm x).elim) (λop A=>by obtain⟨e,he,rfl⟩:=p_ A;exact low_mute (hm e he) B),D.size⟩
     exact⟨N+1,BA,S,T,sl0,Q,t',q',v,by simp only[runNT,BX,K];exact W,M.trans E,p,(CS.at w d).trans u,L,l⟩
theorem kK (O:G8 P Z Ad Still (fun B t=>PX Ad Still Mem Am B h t) j By){Kst:m_->o_->Prop}:∀(M n:Nat)(gs:Array m_)(a:m_)(w:o_)(sl:d_ (W_))(t:Trace)(q:Nat->Nat)(B:Nat),
  n+sumTo gs.size q<=M->gs[h]?=some a->a.status=.running->Duo P Ad Still Mem Am B h j By n gs w t q->
  (∀w1,CS Z w w1->∃T w' es S,stepG P (h==0) a w1=.go T w' es/\B<=S/\(∀e∈es,aN Ad Still S e)/\Js Z w1 w'/\w'.heap.size<=S/\Kst T w')->
  ∃(N:Nat) (U:Array m_) (T:m_) (w':o_) (W:d_ (W_)) (V:Trace) (Y:Nat->Nat) (X S:Nat),
   runNT P N (crowd gs w sl) t=(.next (crowd U w' W),V)/\U.size=gs.size/\U[h]?=some T/\Kst T w'/\B<=S/\Duo P Ad Still Mem Am S h j By X U w' V Y:=by
 intro M n gs a w sl t q B _ F u D C;obtain⟨N,U,w1,d,R,W,V,Y,X,K,L,p,J,⟨o,l,D⟩,z⟩:=ZH O _ n gs a w sl t q B (Nat.lt_succ_self _) F u D;obtain⟨b,hb,hB⟩:=D.idle;obtain⟨T,w',es,S,m,G,f,c,A,H⟩:=C (w1.at d) (J.trans (CS.at w1 d));have f:∀e∈es,aN Ad Still (max S o) e:=λe I=>(f e I).mono (Nat.le_max_left ..)
 have v:h<U.size:=(y_.1 p).1;refine⟨N+1,(U.map (woken P a T w')).setIfInBounds h T,T,w',W,V++MemOp.ofEvents h a.frame.fn a.frame.place es,Y,X,max S o,by rw[runNT_add,K];simp only[runNT,z,runT_crowd_go (P:=P) (sl:=W) (i:=h) p m],by simpa using L,by simp[v],H,lN l (Nat.le_max_right ..),⟨D.ne,D.zero,D.mem,⟨b,?_,O.calm w' _ hB c (Gn D.ne f)⟩,λk x g E s=>?_,λk r=>?_,(D.tr.mono (Nat.le_max_right ..)).own f,lN A (Nat.le_max_left ..)⟩⟩
 .rw[z_ D.ne,ik,hb];simp only[Option.map_some,l7];exact woken_of_again (O.again hB w' c)
 .rw[z_ (gJ g),ik]at s;obtain⟨y,Q,rfl⟩:=lT.1 s;have hq:=D.JP k y g E Q;rw[woken_quitsD hq,Deaf_other V (gJ g) _ Yv];exact hq
 .rw[Deaf_other V (g':=h) (by simp at r;omega) _ Yv];exact D.above k (by simpa using r)
theorem bk7 (p:Gx Ad Z)(m:Gx Still Z){n:Nat}(o:n<=B)(l:EvT Z n e):aN Ad Still B e:=by
 have c:=jG p o l;have k:=jG m o l;refine⟨λx b=>⟨λg=>?_,λd=>c.1 x b d⟩,c.2.1,c.2.2.1,c.2.2.2,λa h=>?_⟩
 case refine_2=>
  obtain⟨a,e1,_⟩|⟨r,e1,_⟩|e1|⟨f,e1⟩:=l<;>rw[e1]at h<;>cases h
 exfalso;obtain⟨i,wr,j⟩:=e;obtain⟨a,e1,e2,_⟩|⟨r,e1,e2,_⟩|e1|⟨f,e1⟩:=l
 .simp only at e1;subst e1;simp only[MemAct.ofEvent,MemAct.touch?]at b;obtain rfl:=x_ b;exact e2 (m.1 _ g)
 .simp only at e1;subst e1;cases wr<;>cases j<;>simp only[MemAct.ofEvent,MemAct.touch?]at b<;>first
   | (obtain rfl:=x_ b
      exact e2 (m.2 _ g))
   |(cases b;done)
 all_goals
  simp only at e1;subst e1
  simp[MemAct.ofEvent,MemAct.touch?]at b
def AX (P:l_)(gs:Array m_)(w:o_)(sl:d_ (W_))(t:Trace)(Q:Array m_->o_->Trace->Prop):Prop:=
 ∃N BA w' Em t',runNT P N (crowd gs w sl) t=(.next (crowd BA w' Em),t')/\BA.size=gs.size/\Q BA w' t'
theorem AX.now {sl:d_ (W_)}(hq:Q gs w t):AX P gs w sl t Q:=⟨0,gs,w,sl,t,rfl,rfl,hq⟩
theorem AX.bind {sl:d_ (W_)}(hq:AX P gs w sl t Q)(q:∀n w' p o,n.size=gs.size->Q n w' o->AX P n w' p o Q'):AX P gs w sl t Q':=by
 obtain⟨N,a,w1,g,l,k,f,i⟩:=hq;obtain⟨h,b,w2,e,m,c,d,j⟩:=q a w1 g l f i;refine⟨N+h,b,w2,e,m,?_,d.trans f,j⟩;rw[runNT_add,k];exact c
theorem AX.mono {sl:d_ (W_)}(hq:AX P gs w sl t Q)(m:∀k w' l,Q k w' l->Q' k w' l):AX P gs w sl t Q':=by
 obtain⟨N,a,w1,b,f,d,e,c⟩:=hq;exact⟨N,a,w1,b,f,d,e,m _ _ _ c⟩
end
def EvR (Still:Loc->Prop)(e:Event):Prop:=∃a,e=⟨.cell a,false,false⟩/\Still (.cell a)
def Ho (P:l_)(main:Bool)(K:o_->Prop)(Still:Loc->Prop)(cases:Array CommCase)(shape:CommShape)(home:m_->Prop):Nat->m_->Prop
 |0,g=>∃g₂ es,home g₂/\g₂.status=.running/\(∀e∈es,EvR Still e)/\∀w,K w->stepG P main g w=.comm g₂ cases true shape w es
 |k+1,g=>∃g' es,(g'.status=.running)/\(∀e∈es,EvR Still e)/\(∀w,K w->stepG P main g w=.go g' w es)/\Ho P main K Still cases shape home k g'
structure Tz (Z:Nat->Prop)(Still:Loc->Prop)(K:o_->Prop):Prop where
 keep:∀w w',Js Z w w'->K w->K w'
 still:∀w a,K w->Still (.cell a)->a.block<w.heap.size
structure dV (Ad Still:Loc->Prop)(j:Nat)(TT:Trace->Prop):Prop where
 ss:∀l,Still l->¬Ad l
 calm:∀t u,TT t->Yn Ad Still j u->TT (t++u)
 reads:∀t u,TT t->(∀op∈u,∀b,op.act.touch?=some b->b.write=false/\Still b.loc)->TT (t++u)
def O0 (P:l_)(main:Bool)(K K1:o_->Prop)(TT:Trace->Prop)(Still:Loc->Prop)(cases:Array CommCase)(shape:CommShape)(home:m_->Prop)(n:Nat)(g:m_)(w:o_)(t:Trace):Prop:=
 (K1 w/\TT t)/\(∀cc∈cases,GG w cc)/\((n=0/\∃g₂,g=parked g₂ cases shape/\home g₂/\g₂.status=.running)\/(∃k,n=k+1/\g.status=.running/\Ho P main K Still cases shape home k g))
section
variable {P:l_}{Z:Nat->Prop}{Ad Still:Loc->Prop}{Mem Am:Nat->Prop}{h j:Nat}{K K1:o_->Prop}{TT:Trace->Prop}{cases:Array CommCase}{shape:CommShape}{home:m_->Prop}
theorem Xj (l:∀cc∈cases,∀c z,cc=rcase c z->Z c)(d:Js Z w w')(f:∀cc∈cases,GG w cc):∀cc∈cases,GG w' cc:=λcc a=>by
 obtain⟨c,z,k,e,b⟩:=f cc a;exact⟨c,z,k,e,by rw[d c (l cc a c z e)];exact b⟩
theorem Jf (L:Tz Z Still K)(l:K w)(hB:w.heap.size<=B)(k:∀e∈es,EvR Still e):
  (∀op∈MemOp.ofEvents i fn pos es,∀b,op.act.touch?=some b->b.write=false/\Still b.loc)/\(∀t,Deaf (t++MemOp.ofEvents i fn pos es) i=Deaf t i)/\(∀op∈MemOp.ofEvents i fn pos es,op.act.low B):=by
 refine⟨λop d b hb=>?_,λt=>?_,λop d=>?_⟩
 .obtain⟨e,c,rfl⟩:=p_ d;obtain⟨a,rfl,f⟩:=k e c;simp only[MemAct.ofEvent,MemAct.touch?]at hb;obtain rfl:=x_ hb;exact⟨rfl,f⟩
 .rw[Deaf_own];exact deafBehind_still (λe c=>by obtain⟨a,rfl,_⟩:=k e c;exact⟨sJ,sJ⟩) _
 .obtain⟨e,c,rfl⟩:=p_ d;obtain⟨a,rfl,f⟩:=k e c;have:=L.still w a l f;simp only[MemAct.ofEvent,MemAct.low,Loc.low];omega
theorem X0 (L:Tz Z Still K1)(O:∀w,K1 w->K w)(hT:dV Ad Still j TT)(S:∀cc∈cases,∀c z,cc=rcase c z->Z c)(R:Mem j)(hL:Am j):
  G8 P Z Ad Still (λB t=>PX Ad Still Mem Am B h t) j (O0 P (j==0) K K1 TT Still cases shape home) where
 status:=by
  rintro n g w t ⟨_,_,⟨rfl,a,rfl,_⟩|⟨k,rfl,f,_⟩⟩
  .exact .inr (.inl rfl)
  .exact .inl ⟨f,wB⟩
 again:=by
  rintro n g w t ⟨_,b,⟨rfl,a,rfl,_⟩|⟨k,rfl,f,_⟩⟩ F p
  .refine again_all_open λcc H=>?_
   obtain⟨c,z,k,e,J⟩:=Xj S p b cc H;exact⟨c,z,0,#[],k,k,false,e,J⟩
  .exact again_running _ (.inl f)
 calm:=by
  rintro n g w t F u ⟨⟨l,q⟩,b,f⟩ p N
  exact⟨⟨L.keep w F p l,hT.calm t u q N⟩,Xj S p b,f⟩
 step:=by
  rintro n g w t B ⟨⟨l,q⟩,b,⟨rfl,a,rfl,_⟩|⟨k,rfl,f,E⟩⟩ G D hB d
  .cases G
  .have o:K1 (w.at d):=L.keep w (w.at d) (λ_ _=>rfl) l;cases k with
   |zero=>
    obtain⟨a,v,M,x,s,r⟩:=E
    obtain⟨m,A,C⟩:=Jf (B:=B) (i:=j) (fn:=g.frame.fn) (pos:=g.frame.place) L l hB s
    exact .inr (.inl ⟨0,a,cases,shape,v,wB,r _ (O _ o),b,PX.appRead hT.ss D R hL Yv m (A t) C,⟨o,hT.reads t _ q m⟩,b,.inl ⟨rfl,a,rfl,M,x⟩⟩)
   |succ k=>
    obtain⟨I,v,x,s,r,y⟩:=E
    obtain⟨m,A,C⟩:=Jf (B:=B) (i:=j) (fn:=g.frame.fn) (pos:=g.frame.place) L l hB s
    exact .inl ⟨k+1,I,w.at d,v,wB,r _ (O _ o),CS.at w d,⟨B,w_,hB,PX.appRead hT.ss D R hL Yv m (A t) C⟩,⟨o,hT.reads t _ q m⟩,b,.inr ⟨k,rfl,x,y⟩⟩
end
theorem yG (h:∀cc∈cs,∃c cap d s r f,cc.chan=.chan (some c)/\w.heap[c]?=some (.chan cap d false s r f)):(parked g cs sh).again w=parked g cs sh:=by
 simp[Goroutine.again,parked];intro x b;obtain⟨c,cap,d,s,r,f,e,a⟩:=h cs[x] (Array.getElem_mem b);rw[e];simp[a]
theorem bM {k:Nat}{v z:n_}(l:cs[k]?=some (scase c v z))(n:∀(m:Nat)(cc:CommCase),m≠k->cs[m]?=some cc->cc.chan≠.chan (some c)):offersAt (parked g cs sh) c true=[k]:=by
 have i:(cs.zipIdx.toList.filter λx:CommCase×Nat=>x.1.send.isSome==true && (match x.1.chan with | .chan (some b)=>b==c|_=>false))=[(scase c v z,k)]:=by
  have d:∀m:Nat,cs.zipIdx.toList[m]?=(cs[m]?).map λx=>(x,m):=by intro m;simp
  have key:=filter_map_one (λx:CommCase×Nat=>x) (λx:CommCase×Nat=>x.1.send.isSome==true && (match x.1.chan with | .chan (some b)=>b==c|_=>false)) cs.zipIdx.toList k (scase c v z,k) (by rw[d,l];rfl) (by simp[scase]) (by
   intro m x j a
   rw[d]at a
   cases e:cs[m]? with
   |none=>rw[e]at a;cases a
   |some y=>
    rw[e]at a
    simp only[Option.map_some,l7]at a
    subst a
    have:=n m y j e
    simp only[Bool.and_eq_false_iff]
    refine .inr ?_
    split
    .rename_i b h;rw[beq_eq_false_iff_ne];intro f;subst f;exact this h
    .rfl)
  simpa using key
 unfold offersAt;exact congrArg (List.map λx:CommCase×Nat=>x.2) i
section
variable {P:l_}{Z:Nat->Prop}{Ad Still:Loc->Prop}{Mem Am:Nat->Prop}{h j:Nat}{K K1:o_->Prop}{TT:Trace->Prop}{cJ cH:Array CommCase}{ah bZ:CommShape}{home:m_->Prop}{kh kj c:Nat}{v z zj:n_}{a₂:m_}
structure Yy (Z:Nat->Prop)(cH cJ:Array CommCase)(kh kj c:Nat)(v z zj:n_):Prop where
 hkh:cH[kh]?=some (scase c v z)
 hoh:∀(m:Nat) cc,m≠kh->cH[m]?=some cc->∃c' z',cc=rcase c' z'/\c'≠c/\Z c'
 hkj:cJ[kj]?=some (rcase c zj)
 hoj:∀(m:Nat) cc,m≠kj->cJ[m]?=some cc->cc.chan≠.chan (some c)
 hrj:∀cc∈cJ,∃c z,cc=rcase c z/\Z c
def Met (P:l_)(TT:Trace->Prop)(Ad Still:Loc->Prop)(Mem Am:Nat->Prop)(B h j:Nat)(cH cJ:Array CommCase)(bZ ah:CommShape)(home:m_->Prop)(kh kj c:Nat)(v:n_)(a₂:m_)(w:o_)(BA:Array m_)(w':o_)(t':Trace):Prop:=
 ∃(q':Nat->Nat) (g₂:m_) (d k:Nat),BA[h]?=some (Conc.served a₂ (commResult cH bZ kh undef false))/\BA[j]?=some (Conc.served g₂ (commResult cJ ah kj v true))/\home g₂/\g₂.status=.running/\w.heap[c]?=some (.chan 0 #[] false k k false)/\w'=(w.at d).setChan c 0 #[] false (k+1) (k+1) false/\
  (∀i g,i≠h->i≠j->BA[i]?=some g->QuitsD P (q' i) (Deaf t' i) g)/\(∀i,BA.size<=i->Deaf t' i=0)/\PX Ad Still Mem (λg=>Am g/\g≠j) B j t'/\TT t'/\PX Ad Still Mem Am B h t'
theorem Yy.bv2 (M:Yy Z cH cJ kh kj c v z zj)(n:∀cc∈cJ,GG w cc)(hH:∀(m:Nat) cc,m≠kh->cH[m]?=some cc->GG w cc):∀cc∈cH,∃c cap l s r o,cc.chan=.chan (some c)/\w.heap[c]?=some (.chan cap l false s r o):=by
 intro cc g;obtain⟨m,h,rfl⟩:=Array.mem_iff_getElem.1 g;have a:=v_ h;by_cases e:m=kh
 .subst e;rw[M.hkh]at a;rw[<-x_ a];obtain⟨b,i,k,d,f⟩:=n _ (Array.mem_of_getElem? M.hkj);have:b=c:=by simp[rcase]at d;exact d.1.symm
  subst this;exact⟨b,0,#[],k,k,false,rfl,f⟩
 .obtain⟨b,i,k,d,f⟩:=hH m _ e a;rw[d];exact⟨b,0,#[],k,k,false,rfl,f⟩
theorem Yy.chan (M:Yy Z cH cJ kh kj c v z zj)(f:∀cc∈cJ,GG w cc):∃k,w.heap[c]?=some (.chan 0 #[] false k k false):=by
 obtain⟨b,e,k,a,d⟩:=f _ (Array.mem_of_getElem? M.hkj);have:b=c:=by simp[rcase]at a;exact a.1.symm
 subst this;exact⟨k,d⟩
theorem Met.dw {d:Nat}{p:Array m_}{q:Trace}(H:Met P TT Ad Still Mem Am B h j cH cJ bZ ah home kh kj c v a₂ (w.at d) p w' q):Met P TT Ad Still Mem Am B h j cH cJ bZ ah home kh kj c v a₂ w p w' q:=by
 obtain⟨o,a,b,k,e,f,g,i,l,m,n⟩:=H;exact⟨o,a,b,k,e,f,g,i,l,m,n⟩
theorem ab1 (L:Tz Z Still K1)(hK1:∀w,K1 w->K w)(hT:dV Ad Still j TT)(M:Yy Z cH cJ kh kj c v z zj)(hMh:Mem h)(hMj:Mem j)(iy:Am j):∀(X k:Nat)(gs:Array m_)(b:m_)(w:o_)(sl:d_ (W_))(t:Trace)(q:Nat->Nat)(B:Nat),k+sumTo gs.size q<X->h≠j->(h=0\/j=0)->(∀g,Mem g->g=h\/g=j)->
  gs[h]?=some (parked a₂ cH bZ)->gs[j]?=some b->b.status=.running->K1 w->TT t->(∀cc∈cJ,GG w cc)->(∀(m:Nat) cc,m≠kh->cH[m]?=some cc->GG w cc)->Ho P (j==0) K Still cJ ah home k b->
  (∀i g,i≠h->i≠j->gs[i]?=some g->QuitsD P (q i) (Deaf t i) g)->(∀i,gs.size<=i->Deaf t i=0)->PX Ad Still Mem Am B h t->w.heap.size<=B->
  AX P gs w sl t (Met P TT Ad Still Mem Am B h j cH cJ bZ ah home kh kj c v a₂ w):=by
 intro X
 induction X with
 |zero=>intro k gs b w sl t q B hX;omega
 |succ X ih=>
  intro k gs b w sl t q B hX CX hz r G hj hb hK lu rY Q hw n F LQ hB
  have hjl:j<gs.size:=(y_.1 hj).1
  have haw:∀g∈gs,awake g:=by
   intro g A
   obtain⟨i,hi,rfl⟩:=Array.mem_iff_getElem.1 A
   have C:=v_ hi
   by_cases e1:i=h
   .subst e1;rw[G]at C;rw[<-x_ C];exact awake_of (.inr (.inl rfl))
   .by_cases e2:i=j
    .subst e2;rw[hj]at C;rw[<-x_ C];exact awake_of (.inl hb)
    .exact awake_of ((n i _ e1 e2 C).status.elim .inl λx=>.inr (.inr x))
  obtain⟨i,g,d,S,hi,A,BX⟩:=crowd_pick (P:=P) (w:=w) (sl:=sl) haw ⟨j,b,hj,hb⟩;have BL:i<gs.size:=(y_.1 hi).1;have e1:i≠h:=by intro e;subst e;rw[G]at hi;rw[<-x_ hi]at A;cases A
  have LX:∀x x':m_,woken P x x' (w.at d) (parked a₂ cH bZ)=parked a₂ cH bZ:=λx x'=>woken_of_again (yG (M.bv2 (w:=w.at d) rY Q))
  have ak:K1 (w.at d):=L.keep w (w.at d) (λ_ _=>rfl) hK;by_cases e2:i=j
  .subst e2;obtain rfl:g=b:=(by rw[hj]at hi;exact(x_ hi).symm);cases k with
   |zero=>
    obtain⟨a,E,H,hr,F9,IQ⟩:=hw
    obtain⟨kc,hc⟩:=M.chan rY
    have l:∀x y,x≠h->(gs.setIfInBounds i ph)[x]?=some y->∀T b',offersAt y T b'=[]:=by
     intro x y f o T b'
     obtain⟨rfl,rfl⟩|⟨hxi,R⟩:=getElem?_stand gs i x y o
     .exact offersAt_ph _ _
     .exact offersAt_of_not_blocked (by obtain h1|h1:=(n x y f hxi R).status<;>rw[h1]<;>simp) _ _
    have cc1:(gs.setIfInBounds i ph)[h]?=some (parked a₂ cH bZ):=stand_get (gJ e1) G;have W:=Z4 (P:=P) (sl:=S) (i:=i) (j:=h) (w₁:=w.at d) hi (IQ _ (hK1 _ ak)) M.hkj (λm cc I GX=>by
      obtain⟨T,z',k',rfl,hc'⟩:=rY cc (Array.mem_of_getElem? GX)
      refine ways_recv_none (show(w.at d).heap[T]?=_ from hc') (partners_nil λx y o=>?_)
      by_cases f:x=h
      .subst f;rw[cc1]at o;rw[<-x_ o];have da0:T≠c:=λe=>M.hoj m _ I GX (by rw[e];rfl)
       have:(cH.zipIdx.toList.filter λx:CommCase×Nat=>x.1.send.isSome==true && (match x.1.chan with | .chan (some r')=>r'==T | _=>false))=[]:=by
        rw[List.filter_eq_nil_iff]
        rintro⟨cc,m'⟩ hm'
        have J:=mem_of_zipIdx hm'
        by_cases em:m'=kh
        .subst em;rw[M.hkh]at J;rw[<-x_ J];simp[scase];exact λe=>da0 e.symm
        .obtain⟨c2,z2,rfl,_,_⟩:=M.hoh m' cc em J;simp[rcase]
       exact congrArg (List.map λx:CommCase×Nat=>x.2) this
      .exact l x y f o _ _) (show(w.at d).heap[c]?=_ from hc) (gJ e1) G M.hkh (by
      rw[partners_one cc1 (λx y f o=>l x y f o _ _),bM M.hkh (λm cc I GX=>by
       obtain⟨c2,z2,rfl,hne2,_⟩:=M.hoh m cc I GX;simp[rcase];exact hne2)]
      rfl)
    obtain⟨r1,r2,r3⟩:=Jf (B:=B) (i:=i) (fn:=g.frame.fn) (pos:=g.frame.place) L hK hB F9;have hcB:c<B:=(by have:=(y_.1 hc).1;omega);have sQ:=PX.appRead hT.ss LQ hMj iy Yv r1 (r2 t) r3;have br3:=sQ.give hMh hMj a₂.frame.fn a₂.frame.place a.frame.fn a.frame.place kc 0 hcB;have s:((gs.setIfInBounds h (Conc.served a₂ (commResult cH bZ kh undef false))).setIfInBounds i (Conc.served a (commResult cJ ah kj v true))).size=gs.size:=sJ;have hhl:h<gs.size:=(y_.1 G).1;have p:∀x,x≠h->x≠i->Deaf (t++(MemOp.ofEvents i g.frame.fn g.frame.place E++met h i a₂.frame.fn a₂.frame.place a.frame.fn a.frame.place c kc 0)) x=Deaf t x:=by
     intro x h1 h2
     rw[<-Array.append_assoc,Deaf_quiet (met_quiet _ _ _ _ _ _ _ _ _ x),Deaf_other t (gJ h2) _ Yv]
    refine⟨1,_,_,S,t++(MemOp.ofEvents i g.frame.fn g.frame.place E++met h i a₂.frame.fn a₂.frame.place a.frame.fn a.frame.place c kc 0),by simp only[runNT,BX,W,met],s,q,a,d,kc,?_,?_,H,hr,hc,rfl,λx y D u o=>?_,λx f=>?_,?_,?_,?_⟩
    .rw[z_ e1,lJ hhl]
    .rw[lJ (by simpa using BL)]
    .rw[z_ (gJ u),z_ (gJ D)]at o;rw[p x D u];exact n x y D u o
    .rw[s]at f;rw[p x wB wB];exact F x f
    .rw[<-Array.append_assoc];exact br3
    .rw[<-Array.append_assoc];exact hT.reads _ _ (hT.reads t _ lu r1) (λop V b hb=>by rw[met_mute _ _ _ _ _ _ _ _ _ op V]at hb;cases hb)
    .rw[<-Array.append_assoc];exact sQ.Δ a₂.frame.fn a₂.frame.place a.frame.fn a.frame.place kc 0 hcB
   |succ k=>
    obtain⟨g',E,hr,F9,hgo,hw'⟩:=hw
    have W:=runT_crowd_go (P:=P) (sl:=S) (i:=i) hi (hgo _ (hK1 _ ak))
    have Y:((gs.map (woken P g g' (w.at d))).setIfInBounds i g').size=gs.size:=sJ
    obtain⟨r1,r2,r3⟩:=Jf (B:=B) (i:=i) (fn:=g.frame.fn) (pos:=g.frame.place) L hK hB F9
    obtain⟨N,BA,w',Ns,t',G9,IA,hQ⟩:=ih k ((gs.map (woken P g g' (w.at d))).setIfInBounds i g') g' (w.at d) S (t++MemOp.ofEvents i g.frame.fn g.frame.place E) q B (by rw[Y];omega) CX hz r
     (by rw[z_ e1,ik,G];simp[LX]) (by simp[BL]) hr ak (hT.reads t _ lu r1) rY Q hw' (λx y D u o=>by
      rw[z_ (gJ u),ik]at o
      obtain⟨y',R,rfl⟩:=lT.1 o
      have hq:=n x y' D u R
      rw[woken_quitsD hq,Deaf_other t (gJ u) _ Yv];exact hq) (λx f=>by
      rw[Deaf_other t (g':=i) (by simp at f;omega) _ Yv];exact F x (by simpa using f))
     (PX.appRead hT.ss LQ hMj iy Yv r1 (r2 t) r3) hB
    exact⟨N+1,BA,w',Ns,t',by simp only[runNT,BX,W];exact G9,IA.trans Y,hQ.dw⟩
  .have Mc:i≠0:=by obtain e|e:=hz<;>omega
   have hq:=n i g e1 e2 hi;have hi0:(i==0)=false:=(by simp;omega);cases hqi:q i with
   |zero=>rw[hqi]at hq;rw[hq.1]at A;cases A
   |succ U=>
    rw[hqi]at hq
    obtain⟨hf,_⟩|⟨_,g',E,I,hstp,hq'⟩:=hq
    .rw[hf]at A;cases A
    have W:=runT_crowd_go (P:=P) (sl:=S) (i:=i) hi (by rw[hi0];exact hstp (w.at d));have Y:((gs.map (woken P g g' (w.at d))).setIfInBounds i g').size=gs.size:=sJ;have hsum:sumTo gs.size (upd q i U)+(U+1)=sumTo gs.size q+U:=by
     have:=sumTo_upd q U id BL
     simpa [hqi]using this
    have O:∀op∈MemOp.ofEvents i g.frame.fn g.frame.place E,op.act.touch?=none:=λop V=>by obtain⟨e,he,rfl⟩:=p_ V;exact touch_mute (I e he)
    have hnm:¬Mem i:=λC=>(r i C).elim e1 e2
    obtain⟨N,BA,w',Ns,t',G9,IA,hQ⟩:=ih k ((gs.map (woken P g g' (w.at d))).setIfInBounds i g') b (w.at d) S (t++MemOp.ofEvents i g.frame.fn g.frame.place E) (upd q i U) B (by rw[Y];omega) CX hz r
     (by rw[z_ e1,ik,G];simp[LX]) (by rw[z_ e2,ik,hj];simp[woken_run hb]) hb ak (hT.calm t _ lu (Sj e2 Mc I)) rY Q hw (λx y D u f=>by
       by_cases e3:i=x
       .subst e3;rw[lJ (by simpa using BL)]at f;obtain rfl:=x_ f;rw[upd_same,Deaf_own];exact hq'
       .rw[z_ e3,ik]at f;obtain⟨z,hz,rfl⟩:=lT.1 f;have hqj:=n x z D u hz;rw[woken_quitsD hqj,upd_ne q U (gJ e3),Deaf_other t e3 _ Yv];exact hqj) (λx f=>by
       rw[Deaf_other t (g':=i) (by simp at f;omega) _ Yv];exact F x (by simpa using f))
     (LQ.appMute Yv O (λx=>(hnm x).elim) (λop V=>by obtain⟨e,he,rfl⟩:=p_ V;exact low_mute (I e he) B)) hB
    exact⟨N+1,BA,w',Ns,t',by simp only[runNT,BX,W];exact G9,IA.trans Y,hQ.dw⟩
theorem Zc (L:Tz Z Still K1)(hK1:∀w,K1 w->K w)(hT:dV Ad Still j TT)(M:Yy Z cH cJ kh kj c v z zj)(hMh:Mem h)(hMj:Mem j)(iy:Am j):∀(X n:Nat)(gs:Array m_)(a:m_)(w:o_)(sl:d_ (W_))(t:Trace)(q:Nat->Nat)(B:Nat),
  n+sumTo gs.size q<X->gs[h]?=some a->a.status=.running->Duo P Ad Still Mem Am B h j (O0 P (j==0) K K1 TT Still cJ ah home) n gs w t q->(∀(m:Nat) cc,m≠kh->cH[m]?=some cc->GG w cc)->
  (∀d,stepG P (h==0) a (w.at d)=.comm a₂ cH true bZ (w.at d) es)->(∀e∈es,aN Ad Still B e)->AX P gs w sl t (Met P TT Ad Still Mem Am B h j cH cJ bZ ah home kh kj c v a₂ w):=by
 have hzJ:∀cc∈cJ,∀c z,cc=rcase c z->Z c:=λcc T c z e=>by
  obtain⟨A,z',e',hz⟩:=M.hrj cc T
  rw[e]at e'
  have:c=A:=by simp[rcase]at e';exact e'.1
  rw[this];exact hz
 have hsJ:∀cc∈cJ,cc.send=none:=λcc T=>by obtain⟨A,z',e',_⟩:=M.hrj cc T;rw[e'];rfl
 intro X
 induction X with
 |zero=>intro n gs a w sl t q B hX;omega
 |succ X ih=>
  intro n gs a w sl t q B hX V U D F IQ Y
  obtain⟨b,hb,hBy⟩:=D.idle
  have O:G8 P Z Ad Still (λB t=>PX Ad Still Mem Am B h t) j (O0 P (j==0) K K1 TT Still cJ ah home):=X0 L hK1 hT hzJ hMj iy
  have G:=D.ne
  have haw:∀g∈gs,awake g:=by
   intro g hg
   obtain⟨i,hi,rfl⟩:=Array.mem_iff_getElem.1 hg
   have N9:=v_ hi
   by_cases e1:i=h
   .subst e1;rw[V]at N9;rw[<-x_ N9];exact awake_of (.inl U)
   .by_cases e2:i=j
    .subst e2;rw[hb]at N9;rw[<-x_ N9];exact awake_of ((O.status hBy).elim (λx=>.inl x.1) .inr)
    .exact awake_of ((D.JP i _ e1 e2 N9).status.elim .inl λx=>.inr (.inr x))
  obtain⟨i,g,d,R,hi,hg,BX⟩:=crowd_pick (P:=P) (w:=w) (sl:=sl) haw ⟨h,a,V,U⟩;have BL:i<gs.size:=(y_.1 hi).1;have hjl:j<gs.size:=(y_.1 hb).1;have hhl:h<gs.size:=(y_.1 V).1;obtain⟨⟨hK,lu⟩,rY,QG⟩:=hBy;have ak:K1 (w.at d):=L.keep w (w.at d) (λ_ _=>rfl) hK;by_cases e1:i=h
  .subst e1;obtain rfl:g=a:=(by rw[V]at hi;exact(x_ hi).symm);have r:∀x y,x≠j->(gs.setIfInBounds i ph)[x]?=some y->∀A b',offersAt y A b'=[]:=by
    intro x y o l A b'
    obtain⟨rfl,rfl⟩|⟨hxi,hy'⟩:=getElem?_stand gs i x y l
    .exact offersAt_ph _ _
    .exact offersAt_of_not_blocked (by obtain h1|h1:=(D.JP x y hxi o hy').status<;>rw[h1]<;>simp) _ _
   have br5:(gs.setIfInBounds i ph)[j]?=some b:=stand_get (gJ G) hb;obtain⟨rfl,f,rfl,p,hr⟩|⟨k,rfl,hbr,s⟩:=QG
   ·
    obtain⟨kc,hc⟩:=M.chan rY;have S:=ZZ (P:=P) (sl:=R) (i:=i) (j:=j) (w₁:=w.at d) hi (IQ d) M.hkh (λm cc hm T=>by
      obtain⟨A,z',k',rfl,H⟩:=F m cc hm T
      refine ways_recv_none (show(w.at d).heap[A]?=_ from H) (partners_nil λx y l=>?_)
      by_cases o:x=j
      .subst o;rw[br5]at l;rw[<-x_ l];exact offersAt_parked_sends hsJ _
      .exact r x y o l _ _) (show(w.at d).heap[c]?=_ from hc) (gJ G) hb M.hkj (by
      rw[partners_one br5 (λx y o l=>r x y o l _ _),offersAt_parked_at M.hkj M.hoj]
      rfl)
    have hcB:c<B:=(by have:=(y_.1 hc).1;have:=D.size;omega);have sQ:=D.tr.own (fn:=g.frame.fn) (pos:=g.frame.place) Y;have br3:=sQ.give hMh hMj a₂.frame.fn a₂.frame.place f.frame.fn f.frame.place kc 0 hcB;have Q:((gs.setIfInBounds j (Conc.served f (commResult cJ ah kj v true))).setIfInBounds i (Conc.served a₂ (commResult cH bZ kh undef false))).size=gs.size:=sJ;have I:∀x,x≠i->x≠j->Deaf (t++(MemOp.ofEvents i g.frame.fn g.frame.place es++met i j a₂.frame.fn a₂.frame.place f.frame.fn f.frame.place c kc 0)) x=Deaf t x:=by
     intro x h1 h2
     rw[<-Array.append_assoc,Deaf_quiet (met_quiet _ _ _ _ _ _ _ _ _ x),Deaf_other t (gJ h1) _ Yv]
    refine⟨1,_,_,R,t++(MemOp.ofEvents i g.frame.fn g.frame.place es++met i j a₂.frame.fn a₂.frame.place f.frame.fn f.frame.place c kc 0),by simp only[runNT,BX,S,met],Q,q,f,d,kc,?_,?_,p,hr,hc,rfl,λx y E u l=>?_,λx o=>?_,?_,?_,?_⟩
    .rw[lJ (by simpa using BL)]
    .rw[z_ G,lJ hjl]
    .rw[z_ (gJ E),z_ (gJ u)]at l;rw[I x E u];exact D.JP x y E u l
    .rw[Q]at o;rw[I x wB wB];exact D.above x o
    .rw[<-Array.append_assoc];exact br3
    .rw[<-Array.append_assoc];exact hT.reads _ _ (hT.calm t _ lu (Gn G Y)) (λop A8 b hb=>by rw[met_mute _ _ _ _ _ _ _ _ _ op A8]at hb;cases hb)
    .rw[<-Array.append_assoc];exact sQ.Δ a₂.frame.fn a₂.frame.place f.frame.fn f.frame.place kc 0 hcB
   ·
    obtain⟨kc,hc⟩:=M.chan rY;have Η:∀(x:Nat)(y:m_),(gs.setIfInBounds i ph)[x]?=some y->∀A b',offersAt y A b'=[]:=by
     intro x y l A b'
     by_cases o:x=j
     .subst o;rw[br5]at l;rw[<-x_ l];exact offersAt_of_not_blocked (by rw[hbr];simp) _ _
     .exact r x y o l A b'
    have S:=crowd_waits (P:=P) (sl:=R) (i:=i) (w₁:=w.at d) hi (IQ d) (λcc T=>by
     obtain⟨m,hm,rfl⟩:=Array.mem_iff_getElem.1 T
     have hm':=v_ hm
     by_cases em:m=kh
     .subst em;rw[M.hkh]at hm';rw[<-x_ hm'];exact ways_send_none (show(w.at d).heap[c]?=_ from hc) sJ (partners_nil λx y l=>Η x y l _ _)
     .obtain⟨A,z',k',e',H⟩:=F m _ em hm';rw[e'];exact ways_recv_none (show(w.at d).heap[A]?=_ from H) (partners_nil λx y l=>Η x y l _ _))
    have C:(gs.setIfInBounds i (parked a₂ cH bZ)).size=gs.size:=sJ;obtain⟨N,W,w',Ns,t',G9,IA,hQ⟩:=ab1 (P:=P) (home:=home) (ah:=ah) (bZ:=bZ) (a₂:=a₂) L hK1 hT M hMh hMj iy (k+sumTo gs.size q+1) k (gs.setIfInBounds i (parked a₂ cH bZ)) b (w.at d) R (t++MemOp.ofEvents i g.frame.fn g.frame.place es) q B (by rw[C];omega) G D.zero D.mem
     (by rw[lJ BL]) (by rw[z_ G];exact hb) hbr ak (hT.calm t _ lu (Gn G Y)) rY F s (λx y E u l=>by
      rw[z_ (gJ E)]at l
      rw[Deaf_other t (gJ E) _ Yv];exact D.JP x y E u l) (λx o=>by
      rw[C]at o
      rw[Deaf_other t (g':=i) wB _ Yv];exact D.above x o)
     (D.tr.own Y) D.size;exact⟨N+1,W,w',Ns,t',by simp only[runNT,BX,S];exact G9,IA.trans C,hQ.dw⟩
  .by_cases e2:i=j
   .subst e2;obtain rfl:g=b:=(by rw[hb]at hi;exact(x_ hi).symm);obtain⟨rfl,f,rfl,p,hr⟩|⟨k,rfl,hbr,s⟩:=QG
    .cases hg
    .cases k with
     |zero=>
      obtain⟨f,CP,p,hr,J,cz8⟩:=s
      obtain⟨r1,r2,r3⟩:=Jf (B:=B) (i:=i) (fn:=g.frame.fn) (pos:=g.frame.place) L hK D.size J
      have nob:∀k y,k≠i->gs[k]?=some y->y.status≠.blocked:=by
       intro k y hk l
       by_cases e3:k=h
       .subst e3;rw[V]at l;rw[<-x_ l,U];simp
       .have:=(D.JP k y e3 hk l).status;obtain h1|h1:=this<;>rw[h1]<;>simp
      have S:=crowd_waits (P:=P) (sl:=R) (i:=i) (w₁:=w.at d) hi (cz8 _ (hK1 _ ak)) (λcc T=>by
       obtain⟨A,z',k',rfl,H⟩:=rY cc T
       exact ways_recv_none (show(w.at d).heap[A]?=_ from H) (Kt nob));have C:(gs.setIfInBounds i (parked f cJ ah)).size=gs.size:=sJ;obtain⟨N,W,w',Ns,t',G9,IA,hQ⟩:=ih 0 (gs.setIfInBounds i (parked f cJ ah)) a (w.at d) R (t++MemOp.ofEvents i g.frame.fn g.frame.place CP) q B (by rw[C];omega)
       (by rw[z_ (gJ G)];exact V) U
       ⟨G,D.zero,D.mem,⟨_,lJ BL,⟨ak,hT.reads t _ lu r1⟩,rY,.inl ⟨rfl,f,rfl,p,hr⟩⟩,λx y E u l=>by
        rw[z_ (gJ u)]at l
        rw[Deaf_other t (gJ u) _ Yv];exact D.JP x y E u l,λx o=>by
        rw[C]at o
        rw[Deaf_other t (g':=i) wB _ Yv];exact D.above x o,PX.appRead hT.ss D.tr hMj iy Yv r1 (r2 t) r3,D.size⟩ F (λd'=>IQ d') Y;exact⟨N+1,W,w',Ns,t',by simp only[runNT,BX,S];exact G9,IA.trans C,hQ.dw⟩
     |succ k=>
      obtain⟨g',CP,hr,J,hgo',hw'⟩:=s
      obtain⟨r1,r2,r3⟩:=Jf (B:=B) (i:=i) (fn:=g.frame.fn) (pos:=g.frame.place) L hK D.size J
      have S:=runT_crowd_go (P:=P) (sl:=R) (i:=i) hi (hgo' _ (hK1 _ ak))
      have C:((gs.map (woken P g g' (w.at d))).setIfInBounds i g').size=gs.size:=sJ
      obtain⟨N,W,w',Ns,t',G9,IA,hQ⟩:=ih (k+1) ((gs.map (woken P g g' (w.at d))).setIfInBounds i g') a (w.at d) R (t++MemOp.ofEvents i g.frame.fn g.frame.place CP) q B (by rw[C];omega)
       (by rw[z_ (gJ G),ik,V];simp[woken_run U]) U
       ⟨G,D.zero,D.mem,⟨g',by simp[BL],⟨ak,hT.reads t _ lu r1⟩,rY,.inr ⟨k,rfl,hr,hw'⟩⟩,λx y E u l=>by
        rw[z_ (gJ u),ik]at l
        obtain⟨y',hy',rfl⟩:=lT.1 l
        have hq:=D.JP x y' E u hy'
        rw[woken_quitsD hq,Deaf_other t (gJ u) _ Yv];exact hq,λx o=>by
        rw[C]at o
        rw[Deaf_other t (g':=i) wB _ Yv];exact D.above x o,PX.appRead hT.ss D.tr hMj iy Yv r1 (r2 t) r3,D.size⟩ F (λd'=>IQ d') Y
      exact⟨N+1,W,w',Ns,t',by simp only[runNT,BX,S];exact G9,IA.trans C,hQ.dw⟩
   .have Mc:i≠0:=by obtain e|e:=D.zero<;>omega
    have hq:=D.JP i g e1 e2 hi;have hi0:(i==0)=false:=(by simp;omega);cases hqi:q i with
    |zero=>rw[hqi]at hq;rw[hq.1]at hg;cases hg
    |succ kk=>
     rw[hqi]at hq
     obtain⟨hf,_⟩|⟨_,g',CP,hm,hstp,hq'⟩:=hq
     .rw[hf]at hg;cases hg
     have S:=runT_crowd_go (P:=P) (sl:=R) (i:=i) hi (by rw[hi0];exact hstp (w.at d));have C:((gs.map (woken P g g' (w.at d))).setIfInBounds i g').size=gs.size:=sJ;have hsum:sumTo gs.size (upd q i kk)+(kk+1)=sumTo gs.size q+kk:=by
      have:=sumTo_upd q kk id BL
      simpa [hqi]using this
     have hmute:∀op∈MemOp.ofEvents i g.frame.fn g.frame.place CP,op.act.touch?=none:=λop A8=>by obtain⟨e,he,rfl⟩:=p_ A8;exact touch_mute (hm e he)
     have hnm:¬Mem i:=λN9=>(D.mem i N9).elim e1 e2
     have cd7:O0 P (j==0) K K1 TT Still cJ ah home n b w t:=⟨⟨hK,lu⟩,rY,QG⟩;obtain⟨N,W,w',Ns,t',G9,IA,hQ⟩:=ih n ((gs.map (woken P g g' (w.at d))).setIfInBounds i g') a (w.at d) R (t++MemOp.ofEvents i g.frame.fn g.frame.place CP) (upd q i kk) B (by rw[C];omega)
      (by rw[z_ e1,ik,V];simp[woken_run U]) U
      ⟨G,D.zero,D.mem,⟨b,by
       rw[z_ e2,ik,hb]
       simp only[Option.map_some,l7]
       exact woken_of_again (O.again cd7 (w.at d) λ_ _=>rfl),O.calm (w.at d) _ cd7 (λ_ _=>rfl) (Sj e2 Mc hm)⟩,λx y E u o=>by
       by_cases e3:i=x
       .subst e3;rw[lJ (by simpa using BL)]at o;obtain rfl:=x_ o;rw[upd_same,Deaf_own];exact hq'
       .rw[z_ e3,ik]at o;obtain⟨z,hz,rfl⟩:=lT.1 o;have hqj:=D.JP x z E u hz;rw[woken_quitsD hqj,upd_ne q kk (gJ e3),Deaf_other t e3 _ Yv];exact hqj,λx o=>by
       rw[Deaf_other t (g':=i) (by simp at o;omega) _ Yv];exact D.above x (by simpa using o),D.tr.appMute Yv hmute (λx=>(hnm x).elim) (λop A8=>by obtain⟨e,he,rfl⟩:=p_ A8;exact low_mute (hm e he) B),D.size⟩ F (λd'=>IQ d') Y
     exact⟨N+1,W,w',Ns,t',by simp only[runNT,BX,S];exact G9,IA.trans C,hQ.dw⟩
end
end Go.Fxa
