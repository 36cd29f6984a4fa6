/- A holder and one -/
import Derived.Test.YtmhplpfpcnjekaaGreatA03
import Derived.Test.YtmhplpfpcnjekaaGreatA04
import Derived.Conc.AtomicLaws2
import Derived.Conc.MarkLaws
namespace Go.Fxa
open Go.Conc
open Go.ConcN (sumTo upd sumTo_upd upd_ne upd_same)
variable {w w':o_}{B i c n k d r m x j:Nat}{e:Event}{fn:h_}{pos:String}{es:Array Event}{t u:Trace}{gs:Array m_}{Q Q':Array m_->o_->Trace->Prop}{g g' child:m_}{cs:Array CommCase}{sh:CommShape}{a:f_}{q:Nat->Nat}{Z Z':Nat->Prop}{ty:j_}{st sm:Int}{P:l_}{l:List Event}{X2:o_->Prop}
structure CS (Z:Nat->Prop)(w w1:o_):Prop where
 size:w.heap.size<=w1.heap.size
 same:∀r,¬Z r->w1.heap[r]?=w.heap[r]?
 os:w1.os=w.os
 output:w1.output=w.output
 tape:w1.tape=w.tape
def Js (Z:Nat->Prop)(w w1:o_):Prop:=∀r,Z r->w1.heap[r]?=w.heap[r]?
def aN (Ad Still:Loc->Prop)(B:Nat)(e:Event):Prop:=
 (∀x,(MemAct.ofEvent e).touch?=some x->(Still x.loc->x.write=false/\¬Ad x.loc)/\(Ad x.loc->x.kind≠.plain))/\e.loc≠.mark .disable/\e.loc≠.mark .enable/\(MemAct.ofEvent e).low B/\∀a,e.loc≠.mark (.release a)
def GG (w:o_)(cc:CommCase):Prop:=∃c z k,cc=rcase c z/\w.heap[c]?=some (.chan 0 #[] false k k false)
def Yn (Ad Still:Loc->Prop)(j:Nat)(u:Trace):Prop:=∀op∈u,op.g≠j/\(∀b,op.act.touch?=some b->(Still b.loc->b.write=false/\¬Ad b.loc)/\(Ad b.loc->b.kind≠.plain))/\(∀a,op.act≠.mark (.release a))/\(op.act=.mark .disable\/op.act=.mark .enable->op.g≠0)
def cf7 (Tr:Nat->Trace->Prop)(B:Nat)(w:o_)(t:Trace):Prop:=∃B',B<=B'/\w.heap.size<=B'/\Tr B' t
structure G8 (P:l_)(Z:Nat->Prop)(Ad Still:Loc->Prop)(Tr:Nat->Trace->Prop)(j:Nat)(By:Nat->m_->o_->Trace->Prop):Prop where
 status:∀{n g w t},By n g w t->(g.status=.running/\0<n)\/g.status=.blocked\/g.status=.finished
 again:∀{n g w t},By n g w t->∀w',Js Z w w'->g.again w'=g
 calm:∀{n g w t} (w':o_) (u:Trace),By n g w t->Js Z w w'->Yn Ad Still j u->By n g w' (t++u)
 step:∀{n g w t B},By n g w t->g.status=.running->Tr B t->w.heap.size<=B->∀d,
  (∃n' g' w' es,n'<n/\stepG P (j==0) g (w.at d)=.go g' w' es/\CS Z w w'/\cf7 Tr B w' (t++MemOp.ofEvents j g.frame.fn g.frame.place es)/\By n' g' w' (t++MemOp.ofEvents j g.frame.fn g.frame.place es))\/
  (∃n' g₂ cases shape es,n'<n/\stepG P (j==0) g (w.at d)=.comm g₂ cases true shape (w.at d) es/\(∀cc∈cases,GG w cc)/\Tr B (t++MemOp.ofEvents j g.frame.fn g.frame.place es)/\
   By n' (parked g₂ cases shape) (w.at d) (t++MemOp.ofEvents j g.frame.fn g.frame.place es))\/
  (∃n' g₂ cases shape es k c z cap s r tm,n'<n/\stepG P (j==0) g (w.at d)=.comm g₂ cases true shape (w.at d) es/\cases[k]?=some (rcase c z)/\w.heap[c]?=some (.chan cap #[] true s r tm)/\(∀(m:Nat) cc,m≠k->cases[m]?=some cc->GG w cc)/\
   Tr B (t++(MemOp.ofEvents j g.frame.fn g.frame.place es++#[{ g:=j,fn:=g₂.frame.fn,pos:=g₂.frame.place,act:=.recvClosed c}]))/\
   By n' (Conc.served g₂ (commResult cases shape k z false)) (w.at d) (t++(MemOp.ofEvents j g.frame.fn g.frame.place es++#[{ g:=j,fn:=g₂.frame.fn,pos:=g₂.frame.place,act:=.recvClosed c}])))
structure Duo (P:l_)(Ad Still:Loc->Prop)(Mem Am:Nat->Prop)(B h j:Nat)(By:Nat->m_->o_->Trace->Prop)(n:Nat)(gs:Array m_)(w:o_)(t:Trace)(q:Nat->Nat):Prop where
 ne:h≠j
 zero:h=0\/j=0
 mem:∀g,Mem g->g=h\/g=j
 idle:∃b,gs[j]?=some b/\By n b w t
 JP:∀i g,i≠h->i≠j->gs[i]?=some g->QuitsD P (q i) (Deaf t i) g
 above:∀i,gs.size<=i->Deaf t i=0
 tr:PX Ad Still Mem Am B h t
 size:w.heap.size<=B
section
variable {P:l_}{Z:Nat->Prop}{Ad Still:Loc->Prop}{Mem Am:Nat->Prop}{h j:Nat}{By:Nat->m_->o_->Trace->Prop}
theorem CS.refl (w:o_):CS Z w w:=⟨w_,λ_ _=>rfl,rfl,rfl,rfl⟩
theorem CS.at (w:o_)(d:Nat):CS Z w (w.at d):=⟨w_,λ_ _=>rfl,rfl,rfl,rfl⟩
theorem CS.trans {w1 w2:o_}(h:CS Z w w1)(b:CS Z w1 w2):CS Z w w2:=
 ⟨lN h.size b.size,λr a=>(b.same r a).trans (h.same r a),b.os.trans h.os,b.output.trans h.output,b.tape.trans h.tape⟩
theorem CS.bu5 {w1:o_}(h:CS Z w w1)(f:∀r,Z r->r<w.heap.size):w1.heap.size=w.heap.size:=by
 refine Nat.le_antisymm (Nat.le_of_not_lt λa=>?_) h.size;have e:=h.same w.heap.size λb=>Nat.lt_irrefl _ (f _ b)
 rw[Array.getElem?_eq_none w_,v_ a]at e;cases e
theorem Yr.off {Od:Old}{v w1:o_}(T:Yr Od Z v w)(f:∀r,Z r->r<v.heap.size)(h:CS Z w w1):Yr Od Z v w1:=
 ⟨T.size.trans (h.bu5 (by rw[<-T.size];exact f)).symm,λr b a=>(T.same r b a).trans (h.same r b).symm,T.dead,T.plain,T.os.trans h.os.symm,T.output.trans h.output.symm,T.KN,λr a=>(h.same r (T.ax r a)).trans (T.kept r a),T.ax⟩
theorem aN.mono {b:Nat}(hB:B<=b)(h:aN Ad Still B e):aN Ad Still b e:=⟨h.1,h.2.1,h.2.2.1,MemAct.low_mono hB h.2.2.2.1,h.2.2.2.2⟩
theorem Yv:∀op∈MemOp.ofEvents i fn pos es,op.g=i:=λop a=>by
 obtain⟨e,_,rfl⟩:=p_ a;rfl
theorem PX.own (H:PX Ad Still Mem Am B h t)(f:∀e∈es,aN Ad Still B e):PX Ad Still Mem Am B h (t++MemOp.ofEvents h fn pos es):=by
 refine H.appH Yv (λop c b hb=>by obtain⟨e,a,rfl⟩:=p_ c;exact(f e a).1 b hb) (λ_=>?_) (λop c=>by obtain⟨e,a,rfl⟩:=p_ c;exact(f e a).2.2.2.1);rw[Deaf_own];exact deafBehind_still (λe a=>⟨(f e a).2.1,(f e a).2.2.1⟩) _
theorem Gn (p:i≠j)(o:∀e∈es,aN Ad Still B e):Yn Ad Still j (MemOp.ofEvents i fn pos es):=by
 intro op h;refine⟨by rw[Yv op h];exact p,?_⟩;obtain⟨e,f,rfl⟩:=p_ h;refine⟨λb hb=>(o e f).1 b hb,λa c=>?_,λc=>?_⟩
 .have:=(o e f).2.2.2.2 a;obtain⟨d,wr,g⟩:=e;cases d with
  |obj r=>cases wr<;>cases g<;>simp[MemAct.ofEvent]at c
  |mark m=>simp[MemAct.ofEvent]at c;subst c;exact this rfl
  |_=>simp[MemAct.ofEvent]at c
 .exfalso;have k:=(o e f).2.1;have l:=(o e f).2.2.1;obtain⟨d,wr,g⟩:=e;cases d with
  |obj r=>cases wr<;>cases g<;>simp[MemAct.ofEvent]at c
  |mark m=>simp[MemAct.ofEvent]at c;obtain rfl|rfl:=c;exact k rfl;exact l rfl
  |_=>simp[MemAct.ofEvent]at c
theorem Sj (p:i≠j)(hi:i≠0)(o:∀e∈es,e.mute=true):Yn Ad Still j (MemOp.ofEvents i fn pos es):=by
 intro op d;refine⟨by rw[Yv op d];exact p,?_⟩;obtain⟨e,g,rfl⟩:=p_ d;refine⟨λb hb=>(by rw[touch_mute (o e g)]at hb;cases hb),λa f=>?_,λ_=>hi⟩;have:=o e g;obtain⟨c,wr,h⟩:=e;cases c with
 |obj r=>simp[Event.mute]at this
 |mark m=>simp[MemAct.ofEvent]at f;subst f;simp[Event.mute]at this
 |_=>simp[Event.mute]at this
theorem Kt {send:Bool}(hb:∀k g,k≠i->gs[k]?=some g->g.status≠.blocked):partners (gs.setIfInBounds i ph) c send=[]:=by
 refine partners_nil λk g d=>?_
 obtain⟨rfl,rfl⟩|⟨b,a⟩:=getElem?_stand gs i k g d
 .exact offersAt_ph _ _
 .exact offersAt_of_not_blocked (hb k g b a) _ _
theorem ZH (O:G8 P Z Ad Still (fun B t=>PX Ad Still Mem Am B h t) j By):∀(X n:Nat)(gs:Array m_)(a:m_)(w:o_)(sl:d_ (W_))(t:Trace)(q:Nat->Nat)(B:Nat),
  n+sumTo gs.size q<X->gs[h]?=some a->a.status=.running->Duo P Ad Still Mem Am B h j By n gs w t q->
  ∃(N:Nat) (BA:Array m_) (w':o_) (d:Nat) (sl0 Em:d_ (W_)) (t':Trace) (q':Nat->Nat) (n':Nat),
   runNT P N (crowd gs w sl) t=(.next (crowd BA w' sl0),t')/\BA.size=gs.size/\BA[h]?=some a/\CS Z w w'/\(∃B',B<=B'/\Duo P Ad Still Mem Am B' h j By n' BA w' t' q')/\stepT P (crowd BA w' sl0)=runT P (crowd BA (w'.at d) Em) h:=by
 intro X
 induction X with
 |zero=>intro n gs a w sl t q B hX;omega
 |succ X ih=>
  intro n gs a w sl t q B hX J H D
  obtain⟨b,hb,hB⟩:=D.idle
  have haw:∀g∈gs,awake g:=by
   intro g U
   obtain⟨i,hi,rfl⟩:=Array.mem_iff_getElem.1 U
   have R:=v_ hi
   by_cases e1:i=h
   .subst e1;rw[J]at R;rw[<-x_ R];exact awake_of (.inl H)
   .by_cases e2:i=j
    .subst e2;rw[hb]at R;rw[<-x_ R];exact awake_of ((O.status hB).elim (λx=>.inl x.1) .inr)
    .exact awake_of ((D.JP i _ e1 e2 R).status.elim .inl λx=>.inr (.inr x))
  obtain⟨i,g,d,Em,hi,U,BX⟩:=crowd_pick (P:=P) (w:=w) (sl:=sl) haw ⟨h,a,J,H⟩;have BL:i<gs.size:=(y_.1 hi).1;by_cases e1:i=h
  .subst e1;exact⟨0,gs,w,d,sl,Em,t,q,n,rfl,rfl,J,CS.refl w,⟨B,w_,D⟩,BX⟩
  .by_cases e2:i=j
   .subst e2;obtain rfl:g=b:=(by rw[hb]at hi;exact(x_ hi).symm);have Y:∀k y,k≠i->gs[k]?=some y->y.status≠.blocked:=by
     intro k y C hy
     by_cases e3:k=h
     .subst e3;rw[J]at hy;rw[<-x_ hy,H];simp
     .have:=(D.JP k y e3 C hy).status;obtain h1|h1:=this<;>rw[h1]<;>simp
    obtain⟨n',g',w',I,hn,hgo,hoff,⟨Bu,hBu,hsu,LQ⟩,G⟩|⟨n',f,cases,shape,I,hn,IQ,A,LQ,G⟩|⟨n',f,cases,shape,I,k,c,z,cap,s,r,tm,hn,IQ,C,hcl,A,LQ,G⟩:=O.step hB U D.tr D.size d
    .have K:=runT_crowd_go (P:=P) (sl:=Em) (i:=i) hi hgo;have E:((gs.map (woken P g g' w')).setIfInBounds i g').size=gs.size:=sJ;obtain⟨N,BA,S,T,sl0,Q,t',q',v,W,M,p,u,L,l⟩:=ih n' ((gs.map (woken P g g' w')).setIfInBounds i g') a w' Em (t++MemOp.ofEvents i g.frame.fn g.frame.place I) q Bu (by rw[E];omega)
      (by rw[z_ e1,ik,J];simp[woken_run H]) H
      ⟨D.ne,D.zero,D.mem,⟨g',by simp[BL],G⟩,λk x Qy F o=>by
       rw[z_ (gJ F),ik]at o
       obtain⟨y,hy,rfl⟩:=lT.1 o
       have hq:=D.JP k y Qy F hy
       rw[woken_quitsD hq,Deaf_other t (gJ F) _ Yv]
       exact hq,λk C=>by
       rw[Deaf_other t (g':=i) (by simp at C;omega) _ Yv]
       exact D.above k (by simpa using C),LQ,hsu⟩;exact⟨N+1,BA,S,T,sl0,Q,t',q',v,by simp only[runNT,BX,K];exact W,M.trans E,p,hoff.trans u,let ⟨B',h1,h2⟩:=L;⟨B',lN hBu h1,h2⟩,l⟩
    .have K:=crowd_waits (P:=P) (sl:=Em) (i:=i) hi IQ (λcc GX=>by
      obtain⟨c,z,k,rfl,hc⟩:=A cc GX
      exact ways_recv_none (show(w.at d).heap[c]?=_ from hc) (Kt Y));have E:(gs.setIfInBounds i (parked f cases shape)).size=gs.size:=sJ;obtain⟨N,BA,S,T,sl0,Q,t',q',v,W,M,p,u,L,l⟩:=ih n' (gs.setIfInBounds i (parked f cases shape)) a (w.at d) Em (t++MemOp.ofEvents i g.frame.fn g.frame.place I) q B (by rw[E];omega)
      (by rw[z_ e1];exact J) H
      ⟨D.ne,D.zero,D.mem,⟨_,by simp[BL],G⟩,λk x Qy F o=>by
       rw[z_ (gJ F)]at o
       rw[Deaf_other t (gJ F) _ Yv]
       exact D.JP k x Qy F o,λk C=>by
       rw[Deaf_other t (g':=i) (by simp at C;omega) _ Yv]
       exact D.above k (by simpa using C),LQ,D.size⟩;exact⟨N+1,BA,S,T,sl0,Q,t',q',v,by simp only[runNT,BX,K];exact W,M.trans E,p,(CS.at w d).trans u,L,l⟩
    .have K:=crowd_sel_recv_closed (P:=P) (sl:=Em) (i:=i) hi IQ C (λm cc hm GX=>by
      obtain⟨c',z',k',rfl,hc⟩:=A m cc hm GX
      exact ways_recv_none (show(w.at d).heap[c']?=_ from hc) (Kt Y)) (show(w.at d).heap[c]?=_ from hcl) (Kt Y);have E:(gs.setIfInBounds i (Conc.served f (commResult cases shape k z false))).size=gs.size:=sJ;have hg1:∀op∈MemOp.ofEvents i g.frame.fn g.frame.place I++#[{ g:=i,fn:=f.frame.fn,pos:=f.frame.place,act:=.recvClosed c}],op.g=i:=by
      intro op A
      obtain A|A:=Array.mem_append.1 A
      .exact Yv op A
      .simp at A;subst A;rfl
     obtain⟨N,BA,S,T,sl0,Q,t',q',v,W,M,p,u,L,l⟩:=ih n' (gs.setIfInBounds i (Conc.served f (commResult cases shape k z false))) a (w.at d) Em (t++(MemOp.ofEvents i g.frame.fn g.frame.place I++#[{ g:=i,fn:=f.frame.fn,pos:=f.frame.place,act:=.recvClosed c}])) q B (by rw[E];omega)
      (by rw[z_ e1];exact J) H
      ⟨D.ne,D.zero,D.mem,⟨_,by simp[BL],G⟩,λk x Qy F o=>by
       rw[z_ (gJ F)]at o
       rw[Deaf_other t (gJ F) _ hg1]
       exact D.JP k x Qy F o,λk C=>by
       rw[Deaf_other t (g':=i) (by simp at C;omega) _ hg1]
       exact D.above k (by simpa using C),LQ,D.size⟩;exact⟨N+1,BA,S,T,sl0,Q,t',q',v,by simp only[runNT,BX,K];exact W,M.trans E,p,(CS.at w d).trans u,L,l⟩
   .have Mc:i≠0:=by obtain e|e:=D.zero<;>omega
    have hq:=D.JP i g e1 e2 hi;have hi0:(i==0)=false:=(by simp;omega);cases hqi:q i with
    |zero=>rw[hqi]at hq;rw[hq.1]at U;cases U
    |succ k=>
     rw[hqi]at hq
     obtain⟨hf,_⟩|⟨_,g',I,hm,hstp,hq'⟩:=hq
     .rw[hf]at U;cases U
     have K:=runT_crowd_go (P:=P) (sl:=Em) (i:=i) hi (by rw[hi0];exact hstp (w.at d));have E:((gs.map (woken P g g' (w.at d))).setIfInBounds i g').size=gs.size:=sJ;have hsum:sumTo gs.size (upd q i k)+(k+1)=sumTo gs.size q+k:=by
      have:=sumTo_upd q k id BL
      simpa [hqi]using this
     have V:∀op∈MemOp.ofEvents i g.frame.fn g.frame.place I,op.act.touch?=none:=λop A=>by obtain⟨e,he,rfl⟩:=p_ A;exact touch_mute (hm e he)
     have hnm:¬Mem i:=λR=>(D.mem i R).elim e1 e2
     obtain⟨N,BA,S,T,sl0,Q,t',q',v,W,M,p,u,L,l⟩:=ih n ((gs.map (woken P g g' (w.at d))).setIfInBounds i g') a (w.at d) Em (t++MemOp.ofEvents i g.frame.fn g.frame.place I) (upd q i k) B (by rw[E];omega)
      (by rw[z_ e1,ik,J];simp[woken_run H]) H
      ⟨D.ne,D.zero,D.mem,⟨b,by
       rw[z_ e2,ik,hb]
       simp only[Option.map_some,l7]
       exact woken_of_again (O.again hB (w.at d) λ_ _=>rfl),O.calm (w.at d) _ hB (λ_ _=>rfl) (Sj e2 Mc hm)⟩,λx y O7 MX o=>by
       by_cases e3:i=x
       .subst e3;rw[lJ (by simpa using BL)]at o;obtain rfl:=x_ o;rw[upd_same,Deaf_own];exact hq'
       .rw[z_ e3,ik]at o;obtain⟨z,hz,rfl⟩:=lT.1 o;have hqj:=D.JP x z O7 MX hz;rw[woken_quitsD hqj,upd_ne q k (gJ e3),Deaf_other t e3 _ Yv];exact hqj,λx o=>by
       rw[Deaf_other t (g':=i) (by simp at o;omega) _ Yv];exact D.above x (by simpa using o),D.tr.appMute Yv V (λx=>(hnm x).elim) (λop A=>by obtain⟨e,he,rfl⟩:=p_ A;exact low_mute (hm e he) B),D.size⟩
     exact⟨N+1,BA,S,T,sl0,Q,t',q',v,by simp only[runNT,BX,K];exact W,M.trans E,p,(CS.at w d).trans u,L,l⟩
theorem kK (O:G8 P Z Ad Still (fun B t=>PX Ad Still Mem Am B h t) j By){Kst:m_->o_->Prop}:∀(M n:Nat)(gs:Array m_)(a:m_)(w:o_)(sl:d_ (W_))(t:Trace)(q:Nat->Nat)(B:Nat),
  n+sumTo gs.size q<=M->gs[h]?=some a->a.status=.running->Duo P Ad Still Mem Am B h j By n gs w t q->
  (∀w1,CS Z w w1->∃T w' es S,stepG P (h==0) a w1=.go T w' es/\B<=S/\(∀e∈es,aN Ad Still S e)/\Js Z w1 w'/\w'.heap.size<=S/\Kst T w')->
  ∃(N:Nat) (U:Array m_) (T:m_) (w':o_) (W:d_ (W_)) (V:Trace) (Y:Nat->Nat) (X S:Nat),
   runNT P N (crowd gs w sl) t=(.next (crowd U w' W),V)/\U.size=gs.size/\U[h]?=some T/\Kst T w'/\B<=S/\Duo P Ad Still Mem Am S h j By X U w' V Y:=by
 intro M n gs a w sl t q B _ F u D C;obtain⟨N,U,w1,d,R,W,V,Y,X,K,L,p,J,⟨o,l,D⟩,z⟩:=ZH O _ n gs a w sl t q B (Nat.lt_succ_self _) F u D;obtain⟨b,hb,hB⟩:=D.idle;obtain⟨T,w',es,S,m,G,f,c,A,H⟩:=C (w1.at d) (J.trans (CS.at w1 d));have f:∀e∈es,aN Ad Still (max S o) e:=λe I=>(f e I).mono (Nat.le_max_left ..)
 have v:h<U.size:=(y_.1 p).1;refine⟨N+1,(U.map (woken P a T w')).setIfInBounds h T,T,w',W,V++MemOp.ofEvents h a.frame.fn a.frame.place es,Y,X,max S o,by rw[runNT_add,K];simp only[runNT,z,runT_crowd_go (P:=P) (sl:=W) (i:=h) p m],by simpa using L,by simp[v],H,lN l (Nat.le_max_right ..),⟨D.ne,D.zero,D.mem,⟨b,?_,O.calm w' _ hB c (Gn D.ne f)⟩,λk x g E s=>?_,λk r=>?_,(D.tr.mono (Nat.le_max_right ..)).own f,lN A (Nat.le_max_left ..)⟩⟩
 .rw[z_ D.ne,ik,hb];simp only[Option.map_some,l7];exact woken_of_again (O.again hB w' c)
 .rw[z_ (gJ g),ik]at s;obtain⟨y,Q,rfl⟩:=lT.1 s;have hq:=D.JP k y g E Q;rw[woken_quitsD hq,Deaf_other V (gJ g) _ Yv];exact hq
 .rw[Deaf_other V (g':=h) (by simp at r;omega) _ Yv];exact D.above k (by simpa using r)
theorem bk7 (v:Gx Ad Z)(p:Gx Still Z)(s:n<=B)(o:EvT Z n e):aN Ad Still B e:=by
 have c:=jG v s o;have k:=jG p s o;refine⟨λx b=>⟨λg=>?_,λd=>c.1 x b d⟩,c.2.1,c.2.2.1,c.2.2.2,λa h=>?_⟩
 case refine_2=>
  obtain⟨a,e1,_⟩|⟨r,e1,_⟩|e1|⟨f,e1⟩:=o<;>rw[e1]at h<;>cases h
 exfalso;obtain⟨i,wr,j⟩:=e;obtain⟨a,e1,e2,_⟩|⟨r,e1,e2,_⟩|e1|⟨f,e1⟩:=o
 .simp only at e1;subst e1;simp only[MemAct.ofEvent,MemAct.touch?]at b;obtain rfl:=x_ b;exact e2 (p.1 _ g)
 .simp only at e1;subst e1;cases wr<;>cases j<;>simp only[MemAct.ofEvent,MemAct.touch?]at b<;>first
   | (obtain rfl:=x_ b
      exact e2 (p.2 _ g))
   |(cases b;done)
 all_goals
  simp only at e1;subst e1
  simp[MemAct.ofEvent,MemAct.touch?]at b
def AX (P:l_)(gs:Array m_)(w:o_)(sl:d_ (W_))(t:Trace)(Q:Array m_->o_->Trace->Prop):Prop:=
 ∃N BA w' Em t',runNT P N (crowd gs w sl) t=(.next (crowd BA w' Em),t')/\BA.size=gs.size/\Q BA w' t'
theorem AX.now {sl:d_ (W_)}(hq:Q gs w t):AX P gs w sl t Q:=⟨0,gs,w,sl,t,rfl,rfl,hq⟩
theorem AX.bind {sl:d_ (W_)}(hq:AX P gs w sl t Q)(v:∀o w' s p,o.size=gs.size->Q o w' p->AX P o w' s p Q'):AX P gs w sl t Q':=by
 obtain⟨N,a,w1,g,l,k,f,i⟩:=hq;obtain⟨h,b,w2,e,m,c,d,j⟩:=v a w1 g l f i;refine⟨N+h,b,w2,e,m,?_,d.trans f,j⟩;rw[runNT_add,k];exact c
theorem AX.mono {sl:d_ (W_)}(hq:AX P gs w sl t Q)(s:∀o w' p,Q o w' p->Q' o w' p):AX P gs w sl t Q':=by
 obtain⟨N,a,w1,b,f,d,e,c⟩:=hq;exact⟨N,a,w1,b,f,d,e,s _ _ _ c⟩
end
def EvR (Still:Loc->Prop)(e:Event):Prop:=∃a,e=⟨.cell a,false,false⟩/\Still (.cell a)
def Ho (P:l_)(main:Bool)(K:o_->Prop)(Still:Loc->Prop)(cases:Array CommCase)(shape:CommShape)(home:m_->Prop):Nat->m_->Prop
 |0,g=>∃g₂ es,home g₂/\g₂.status=.running/\(∀e∈es,EvR Still e)/\∀w,K w->stepG P main g w=.comm g₂ cases true shape w es
 |k+1,g=>∃g' es,(g'.status=.running)/\(∀e∈es,EvR Still e)/\(∀w,K w->stepG P main g w=.go g' w es)/\Ho P main K Still cases shape home k g'
structure Tz (Z:Nat->Prop)(Still:Loc->Prop)(K:o_->Prop):Prop where
 keep:∀w w',Js Z w w'->K w->K w'
 still:∀w a,K w->Still (.cell a)->a.block<w.heap.size
structure dV (Ad Still:Loc->Prop)(j:Nat)(TT:Trace->Prop):Prop where
 ss:∀l,Still l->¬Ad l
 calm:∀t u,TT t->Yn Ad Still j u->TT (t++u)
 reads:∀t u,TT t->(∀op∈u,∀b,op.act.touch?=some b->b.write=false/\Still b.loc)->TT (t++u)
def O0 (P:l_)(main:Bool)(K K1:o_->Prop)(TT:Trace->Prop)(Still:Loc->Prop)(cases:Array CommCase)(shape:CommShape)(home:m_->Prop)(n:Nat)(g:m_)(w:o_)(t:Trace):Prop:=
 (K1 w/\TT t)/\(∀cc∈cases,GG w cc)/\((n=0/\∃g₂,g=parked g₂ cases shape/\home g₂/\g₂.status=.running)\/(∃k,n=k+1/\g.status=.running/\Ho P main K Still cases shape home k g))
section
variable {P:l_}{Z:Nat->Prop}{Ad Still:Loc->Prop}{Mem Am:Nat->Prop}{h j:Nat}{K K1:o_->Prop}{TT:Trace->Prop}{cases:Array CommCase}{shape:CommShape}{home:m_->Prop}
theorem Xj (p:∀cc∈cases,∀c z,cc=rcase c z->Z c)(f:Js Z w w')(o:∀cc∈cases,GG w cc):∀cc∈cases,GG w' cc:=λcc a=>by
 obtain⟨c,z,k,e,b⟩:=o cc a;exact⟨c,z,k,e,by rw[f c (p cc a c z e)];exact b⟩
theorem Jf (L:Tz Z Still K)(p:K w)(hB:w.heap.size<=B)(o:∀e∈es,EvR Still e):
  (∀op∈MemOp.ofEvents i fn pos es,∀b,op.act.touch?=some b->b.write=false/\Still b.loc)/\(∀t,Deaf (t++MemOp.ofEvents i fn pos es) i=Deaf t i)/\(∀op∈MemOp.ofEvents i fn pos es,op.act.low B):=by
 refine⟨λop d b hb=>?_,λt=>?_,λop d=>?_⟩
 .obtain⟨e,c,rfl⟩:=p_ d;obtain⟨a,rfl,f⟩:=o e c;simp only[MemAct.ofEvent,MemAct.touch?]at hb;obtain rfl:=x_ hb;exact⟨rfl,f⟩
 .rw[Deaf_own];exact deafBehind_still (λe c=>by obtain⟨a,rfl,_⟩:=o e c;exact⟨sJ,sJ⟩) _
 .obtain⟨e,c,rfl⟩:=p_ d;obtain⟨a,rfl,f⟩:=o e c;have:=L.still w a p f;simp only[MemAct.ofEvent,MemAct.low,Loc.low];omega
theorem X0 (L:Tz Z Still K1)(O:∀w,K1 w->K w)(hT:dV Ad Still j TT)(S:∀cc∈cases,∀c z,cc=rcase c z->Z c)(R:Mem j)(hL:Am j):
  G8 P Z Ad Still (λB t=>PX Ad Still Mem Am B h t) j (O0 P (j==0) K K1 TT Still cases shape home) where
 status:=by
  rintro n g w t ⟨_,_,⟨rfl,a,rfl,_⟩|⟨k,rfl,f,_⟩⟩
  .exact .inr (.inl rfl)
  .exact .inl ⟨f,wB⟩
 again:=by
  rintro n g w t ⟨_,b,⟨rfl,a,rfl,_⟩|⟨k,rfl,f,_⟩⟩ F p
  .refine again_all_open λcc H=>?_
   obtain⟨c,z,k,e,J⟩:=Xj S p b cc H;exact⟨c,z,0,#[],k,k,false,e,J⟩
  .exact again_running _ (.inl f)
 calm:=by
  rintro n g w t F u ⟨⟨l,q⟩,b,f⟩ p N
  exact⟨⟨L.keep w F p l,hT.calm t u q N⟩,Xj S p b,f⟩
 step:=by
  rintro n g w t B ⟨⟨l,q⟩,b,⟨rfl,a,rfl,_⟩|⟨k,rfl,f,E⟩⟩ G D hB d
  .cases G
  .have o:K1 (w.at d):=L.keep w (w.at d) (λ_ _=>rfl) l;cases k with
   |zero=>
    obtain⟨a,v,M,x,s,r⟩:=E
    obtain⟨m,A,C⟩:=Jf (B:=B) (i:=j) (fn:=g.frame.fn) (pos:=g.frame.place) L l hB s
    exact .inr (.inl ⟨0,a,cases,shape,v,wB,r _ (O _ o),b,PX.appRead hT.ss D R hL Yv m (A t) C,⟨o,hT.reads t _ q m⟩,b,.inl ⟨rfl,a,rfl,M,x⟩⟩)
   |succ k=>
    obtain⟨I,v,x,s,r,y⟩:=E
    obtain⟨m,A,C⟩:=Jf (B:=B) (i:=j) (fn:=g.frame.fn) (pos:=g.frame.place) L l hB s
    exact .inl ⟨k+1,I,w.at d,v,wB,r _ (O _ o),CS.at w d,⟨B,w_,hB,PX.appRead hT.ss D R hL Yv m (A t) C⟩,⟨o,hT.reads t _ q m⟩,b,.inr ⟨k,rfl,x,y⟩⟩
end
theorem yG (h:∀cc∈cs,∃c cap f s r o,cc.chan=.chan (some c)/\w.heap[c]?=some (.chan cap f false s r o)):(parked g cs sh).again w=parked g cs sh:=by
 simp[Goroutine.again,parked];intro x b;obtain⟨c,cap,f,s,r,o,e,a⟩:=h cs[x] (Array.getElem_mem b);rw[e];simp[a]
theorem bM {v z:n_}(o:cs[k]?=some (scase c v z))(p:∀(m:Nat)(cc:CommCase),m≠k->cs[m]?=some cc->cc.chan≠.chan (some c)):offersAt (parked g cs sh) c true=[k]:=by
 have i:(cs.zipIdx.toList.filter λx:CommCase×Nat=>x.1.send.isSome==true && (match x.1.chan with | .chan (some b)=>b==c|_=>false))=[(scase c v z,k)]:=by
  have d:∀m:Nat,cs.zipIdx.toList[m]?=(cs[m]?).map λx=>(x,m):=by intro m;simp
  have key:=filter_map_one (λx:CommCase×Nat=>x) (λx:CommCase×Nat=>x.1.send.isSome==true && (match x.1.chan with | .chan (some b)=>b==c|_=>false)) cs.zipIdx.toList k (scase c v z,k) (by rw[d,o];rfl) (by simp[scase]) (by
   intro m x j a
   rw[d]at a
   cases e:cs[m]? with
   |none=>rw[e]at a;cases a
   |some y=>
    rw[e]at a
    simp only[Option.map_some,l7]at a
    subst a
    have:=p m y j e
    simp only[Bool.and_eq_false_iff]
    refine .inr ?_
    split
    .rename_i b h;rw[beq_eq_false_iff_ne];intro f;subst f;exact this h
    .rfl)
  simpa using key
 unfold offersAt;exact congrArg (List.map λx:CommCase×Nat=>x.2) i
section
variable {P:l_}{Z:Nat->Prop}{Ad Still:Loc->Prop}{Mem Am:Nat->Prop}{h j:Nat}{K K1:o_->Prop}{TT:Trace->Prop}{cJ cH:Array CommCase}{ah bZ:CommShape}{home:m_->Prop}{kh kj c:Nat}{v z zj:n_}{a₂:m_}
structure Yy (Z:Nat->Prop)(cH cJ:Array CommCase)(kh kj c:Nat)(v z zj:n_):Prop where
 hkh:cH[kh]?=some (scase c v z)
 hoh:∀(m:Nat) cc,m≠kh->cH[m]?=some cc->∃c' z',cc=rcase c' z'/\c'≠c/\Z c'
 hkj:cJ[kj]?=some (rcase c zj)
 hoj:∀(m:Nat) cc,m≠kj->cJ[m]?=some cc->cc.chan≠.chan (some c)
 hrj:∀cc∈cJ,∃c z,cc=rcase c z/\Z c
def Met (P:l_)(TT:Trace->Prop)(Ad Still:Loc->Prop)(Mem Am:Nat->Prop)(B h j:Nat)(cH cJ:Array CommCase)(bZ ah:CommShape)(home:m_->Prop)(kh kj c:Nat)(v:n_)(a₂:m_)(w:o_)(BA:Array m_)(w':o_)(t':Trace):Prop:=
 ∃(q':Nat->Nat) (g₂:m_) (d k:Nat),BA[h]?=some (Conc.served a₂ (commResult cH bZ kh undef false))/\BA[j]?=some (Conc.served g₂ (commResult cJ ah kj v true))/\home g₂/\g₂.status=.running/\w.heap[c]?=some (.chan 0 #[] false k k false)/\w'=(w.at d).setChan c 0 #[] false (k+1) (k+1) false/\
  (∀i g,i≠h->i≠j->BA[i]?=some g->QuitsD P (q' i) (Deaf t' i) g)/\(∀i,BA.size<=i->Deaf t' i=0)/\PX Ad Still Mem (λg=>Am g/\g≠j) B j t'/\TT t'/\PX Ad Still Mem Am B h t'
theorem Yy.bv2 (M:Yy Z cH cJ kh kj c v z zj)(p:∀cc∈cJ,GG w cc)(hH:∀(m:Nat) cc,m≠kh->cH[m]?=some cc->GG w cc):∀cc∈cH,∃c cap o s r y,cc.chan=.chan (some c)/\w.heap[c]?=some (.chan cap o false s r y):=by
 intro cc g;obtain⟨m,h,rfl⟩:=Array.mem_iff_getElem.1 g;have a:=v_ h;by_cases e:m=kh
 .subst e;rw[M.hkh]at a;rw[<-x_ a];obtain⟨b,i,k,d,f⟩:=p _ (Array.mem_of_getElem? M.hkj);have:b=c:=by simp[rcase]at d;exact d.1.symm
  subst this;exact⟨b,0,#[],k,k,false,rfl,f⟩
 .obtain⟨b,i,k,d,f⟩:=hH m _ e a;rw[d];exact⟨b,0,#[],k,k,false,rfl,f⟩
theorem Yy.chan (M:Yy Z cH cJ kh kj c v z zj)(f:∀cc∈cJ,GG w cc):∃k,w.heap[c]?=some (.chan 0 #[] false k k false):=by
 obtain⟨b,e,k,a,d⟩:=f _ (Array.mem_of_getElem? M.hkj);have:b=c:=by simp[rcase]at a;exact a.1.symm
 subst this;exact⟨k,d⟩
theorem Met.dw {p:Array m_}{s:Trace}(H:Met P TT Ad Still Mem Am B h j cH cJ bZ ah home kh kj c v a₂ (w.at d) p w' s):Met P TT Ad Still Mem Am B h j cH cJ bZ ah home kh kj c v a₂ w p w' s:=by
 obtain⟨o,a,b,k,e,f,g,i,l,m,n⟩:=H;exact⟨o,a,b,k,e,f,g,i,l,m,n⟩
theorem ab1 (L:Tz Z Still K1)(hK1:∀w,K1 w->K w)(hT:dV Ad Still j TT)(M:Yy Z cH cJ kh kj c v z zj)(hMh:Mem h)(hMj:Mem j)(iy:Am j):∀(X k:Nat)(gs:Array m_)(b:m_)(w:o_)(sl:d_ (W_))(t:Trace)(q:Nat->Nat)(B:Nat),k+sumTo gs.size q<X->h≠j->(h=0\/j=0)->(∀g,Mem g->g=h\/g=j)->
  gs[h]?=some (parked a₂ cH bZ)->gs[j]?=some b->b.status=.running->K1 w->TT t->(∀cc∈cJ,GG w cc)->(∀(m:Nat) cc,m≠kh->cH[m]?=some cc->GG w cc)->Ho P (j==0) K Still cJ ah home k b->
  (∀i g,i≠h->i≠j->gs[i]?=some g->QuitsD P (q i) (Deaf t i) g)->(∀i,gs.size<=i->Deaf t i=0)->PX Ad Still Mem Am B h t->w.heap.size<=B->
  AX P gs w sl t (Met P TT Ad Still Mem Am B h j cH cJ bZ ah home kh kj c v a₂ w):=by
 intro X
 induction X with
 |zero=>intro k gs b w sl t q B hX;omega
 |succ X ih=>
  intro k gs b w sl t q B hX CX hz r G hj hb hK lu rY Q hw n F LQ hB
  have hjl:j<gs.size:=(y_.1 hj).1
  have haw:∀g∈gs,awake g:=by
   intro g A
   obtain⟨i,hi,rfl⟩:=Array.mem_iff_getElem.1 A
   have C:=v_ hi
   by_cases e1:i=h
   .subst e1;rw[G]at C;rw[<-x_ C];exact awake_of (.inr (.inl rfl))
   .by_cases e2:i=j
    .subst e2;rw[hj]at C;rw[<-x_ C];exact awake_of (.inl hb)
    .exact awake_of ((n i _ e1 e2 C).status.elim .inl λx=>.inr (.inr x))
  obtain⟨i,g,d,S,hi,A,BX⟩:=crowd_pick (P:=P) (w:=w) (sl:=sl) haw ⟨j,b,hj,hb⟩;have BL:i<gs.size:=(y_.1 hi).1;have e1:i≠h:=by intro e;subst e;rw[G]at hi;rw[<-x_ hi]at A;cases A
  have LX:∀x x':m_,woken P x x' (w.at d) (parked a₂ cH bZ)=parked a₂ cH bZ:=λx x'=>woken_of_again (yG (M.bv2 (w:=w.at d) rY Q))
  have ak:K1 (w.at d):=L.keep w (w.at d) (λ_ _=>rfl) hK;by_cases e2:i=j
  .subst e2;obtain rfl:g=b:=(by rw[hj]at hi;exact(x_ hi).symm);cases k with
   |zero=>
    obtain⟨a,E,H,hr,F9,IQ⟩:=hw
    obtain⟨kc,hc⟩:=M.chan rY
    have l:∀x y,x≠h->(gs.setIfInBounds i ph)[x]?=some y->∀T b',offersAt y T b'=[]:=by
     intro x y f o T b'
     obtain⟨rfl,rfl⟩|⟨hxi,R⟩:=getElem?_stand gs i x y o
     .exact offersAt_ph _ _
     .exact offersAt_of_not_blocked (by obtain h1|h1:=(n x y f hxi R).status<;>rw[h1]<;>simp) _ _
    have cc1:(gs.setIfInBounds i ph)[h]?=some (parked a₂ cH bZ):=stand_get (gJ e1) G;have W:=Z4 (P:=P) (sl:=S) (i:=i) (j:=h) (w₁:=w.at d) hi (IQ _ (hK1 _ ak)) M.hkj (λm cc I GX=>by
      obtain⟨T,z',k',rfl,hc'⟩:=rY cc (Array.mem_of_getElem? GX)
      refine ways_recv_none (show(w.at d).heap[T]?=_ from hc') (partners_nil λx y o=>?_)
      by_cases f:x=h
      .subst f;rw[cc1]at o;rw[<-x_ o];have da0:T≠c:=λe=>M.hoj m _ I GX (by rw[e];rfl)
       have:(cH.zipIdx.toList.filter λx:CommCase×Nat=>x.1.send.isSome==true && (match x.1.chan with | .chan (some r')=>r'==T | _=>false))=[]:=by
        rw[List.filter_eq_nil_iff]
        rintro⟨cc,m'⟩ hm'
        have J:=mem_of_zipIdx hm'
        by_cases em:m'=kh
        .subst em;rw[M.hkh]at J;rw[<-x_ J];simp[scase];exact λe=>da0 e.symm
        .obtain⟨c2,z2,rfl,_,_⟩:=M.hoh m' cc em J;simp[rcase]
       exact congrArg (List.map λx:CommCase×Nat=>x.2) this
      .exact l x y f o _ _) (show(w.at d).heap[c]?=_ from hc) (gJ e1) G M.hkh (by
      rw[partners_one cc1 (λx y f o=>l x y f o _ _),bM M.hkh (λm cc I GX=>by
       obtain⟨c2,z2,rfl,hne2,_⟩:=M.hoh m cc I GX;simp[rcase];exact hne2)]
      rfl)
    obtain⟨r1,r2,r3⟩:=Jf (B:=B) (i:=i) (fn:=g.frame.fn) (pos:=g.frame.place) L hK hB F9;have hcB:c<B:=(by have:=(y_.1 hc).1;omega);have sQ:=PX.appRead hT.ss LQ hMj iy Yv r1 (r2 t) r3;have br3:=sQ.give hMh hMj a₂.frame.fn a₂.frame.place a.frame.fn a.frame.place kc 0 hcB;have s:((gs.setIfInBounds h (Conc.served a₂ (commResult cH bZ kh undef false))).setIfInBounds i (Conc.served a (commResult cJ ah kj v true))).size=gs.size:=sJ;have hhl:h<gs.size:=(y_.1 G).1;have p:∀x,x≠h->x≠i->Deaf (t++(MemOp.ofEvents i g.frame.fn g.frame.place E++met h i a₂.frame.fn a₂.frame.place a.frame.fn a.frame.place c kc 0)) x=Deaf t x:=by
     intro x h1 h2
     rw[<-Array.append_assoc,Deaf_quiet (met_quiet _ _ _ _ _ _ _ _ _ x),Deaf_other t (gJ h2) _ Yv]
    refine⟨1,_,_,S,t++(MemOp.ofEvents i g.frame.fn g.frame.place E++met h i a₂.frame.fn a₂.frame.place a.frame.fn a.frame.place c kc 0),by simp only[runNT,BX,W,met],s,q,a,d,kc,?_,?_,H,hr,hc,rfl,λx y D u o=>?_,λx f=>?_,?_,?_,?_⟩
    .rw[z_ e1,lJ hhl]
    .rw[lJ (by simpa using BL)]
    .rw[z_ (gJ u),z_ (gJ D)]at o;rw[p x D u];exact n x y D u o
    .rw[s]at f;rw[p x wB wB];exact F x f
    .rw[<-Array.append_assoc];exact br3
    .rw[<-Array.append_assoc];exact hT.reads _ _ (hT.reads t _ lu r1) (λop V b hb=>by rw[met_mute _ _ _ _ _ _ _ _ _ op V]at hb;cases hb)
    .rw[<-Array.append_assoc];exact sQ.Δ a₂.frame.fn a₂.frame.place a.frame.fn a.frame.place kc 0 hcB
   |succ k=>
    obtain⟨g',E,hr,F9,hgo,hw'⟩:=hw
    have W:=runT_crowd_go (P:=P) (sl:=S) (i:=i) hi (hgo _ (hK1 _ ak))
    have Y:((gs.map (woken P g g' (w.at d))).setIfInBounds i g').size=gs.size:=sJ
    obtain⟨r1,r2,r3⟩:=Jf (B:=B) (i:=i) (fn:=g.frame.fn) (pos:=g.frame.place) L hK hB F9
    obtain⟨N,BA,w',Ns,t',G9,IA,hQ⟩:=ih k ((gs.map (woken P g g' (w.at d))).setIfInBounds i g') g' (w.at d) S (t++MemOp.ofEvents i g.frame.fn g.frame.place E) q B (by rw[Y];omega) CX hz r
     (by rw[z_ e1,ik,G];simp[LX]) (by simp[BL]) hr ak (hT.reads t _ lu r1) rY Q hw' (λx y D u o=>by
      rw[z_ (gJ u),ik]at o
      obtain⟨y',R,rfl⟩:=lT.1 o
      have hq:=n x y' D u R
      rw[woken_quitsD hq,Deaf_other t (gJ u) _ Yv];exact hq) (λx f=>by
      rw[Deaf_other t (g':=i) (by simp at f;omega) _ Yv];exact F x (by simpa using f))
     (PX.appRead hT.ss LQ hMj iy Yv r1 (r2 t) r3) hB
    exact⟨N+1,BA,w',Ns,t',by simp only[runNT,BX,W];exact G9,IA.trans Y,hQ.dw⟩
  .have Mc:i≠0:=by obtain e|e:=hz<;>omega
   have hq:=n i g e1 e2 hi;have hi0:(i==0)=false:=(by simp;omega);cases hqi:q i with
   |zero=>rw[hqi]at hq;rw[hq.1]at A;cases A
   |succ U=>
    rw[hqi]at hq
    obtain⟨hf,_⟩|⟨_,g',E,I,hstp,hq'⟩:=hq
    .rw[hf]at A;cases A
    have W:=runT_crowd_go (P:=P) (sl:=S) (i:=i) hi (by rw[hi0];exact hstp (w.at d));have Y:((gs.map (woken P g g' (w.at d))).setIfInBounds i g').size=gs.size:=sJ;have hsum:sumTo gs.size (upd q i U)+(U+1)=sumTo gs.size q+U:=by
     have:=sumTo_upd q U id BL
     simpa [hqi]using this
    have O:∀op∈MemOp.ofEvents i g.frame.fn g.frame.place E,op.act.touch?=none:=λop V=>by obtain⟨e,he,rfl⟩:=p_ V;exact touch_mute (I e he)
    have hnm:¬Mem i:=λC=>(r i C).elim e1 e2
    obtain⟨N,BA,w',Ns,t',G9,IA,hQ⟩:=ih k ((gs.map (woken P g g' (w.at d))).setIfInBounds i g') b (w.at d) S (t++MemOp.ofEvents i g.frame.fn g.frame.place E) (upd q i U) B (by rw[Y];omega) CX hz r
     (by rw[z_ e1,ik,G];simp[LX]) (by rw[z_ e2,ik,hj];simp[woken_run hb]) hb ak (hT.calm t _ lu (Sj e2 Mc I)) rY Q hw (λx y D u f=>by
       by_cases e3:i=x
       .subst e3;rw[lJ (by simpa using BL)]at f;obtain rfl:=x_ f;rw[upd_same,Deaf_own];exact hq'
       .rw[z_ e3,ik]at f;obtain⟨z,hz,rfl⟩:=lT.1 f;have hqj:=n x z D u hz;rw[woken_quitsD hqj,upd_ne q U (gJ e3),Deaf_other t e3 _ Yv];exact hqj) (λx f=>by
       rw[Deaf_other t (g':=i) (by simp at f;omega) _ Yv];exact F x (by simpa using f))
     (LQ.appMute Yv O (λx=>(hnm x).elim) (λop V=>by obtain⟨e,he,rfl⟩:=p_ V;exact low_mute (I e he) B)) hB
    exact⟨N+1,BA,w',Ns,t',by simp only[runNT,BX,W];exact G9,IA.trans Y,hQ.dw⟩
theorem Zc (L:Tz Z Still K1)(hK1:∀w,K1 w->K w)(hT:dV Ad Still j TT)(M:Yy Z cH cJ kh kj c v z zj)(hMh:Mem h)(hMj:Mem j)(iy:Am j):∀(X n:Nat)(gs:Array m_)(a:m_)(w:o_)(sl:d_ (W_))(t:Trace)(q:Nat->Nat)(B:Nat),
  n+sumTo gs.size q<X->gs[h]?=some a->a.status=.running->Duo P Ad Still Mem Am B h j (O0 P (j==0) K K1 TT Still cJ ah home) n gs w t q->(∀(m:Nat) cc,m≠kh->cH[m]?=some cc->GG w cc)->
  (∀d,stepG P (h==0) a (w.at d)=.comm a₂ cH true bZ (w.at d) es)->(∀e∈es,aN Ad Still B e)->AX P gs w sl t (Met P TT Ad Still Mem Am B h j cH cJ bZ ah home kh kj c v a₂ w):=by
 have hzJ:∀cc∈cJ,∀c z,cc=rcase c z->Z c:=λcc T c z e=>by
  obtain⟨A,z',e',hz⟩:=M.hrj cc T
  rw[e]at e'
  have:c=A:=by simp[rcase]at e';exact e'.1
  rw[this];exact hz
 have hsJ:∀cc∈cJ,cc.send=none:=λcc T=>by obtain⟨A,z',e',_⟩:=M.hrj cc T;rw[e'];rfl
 intro X
 induction X with
 |zero=>intro n gs a w sl t q B hX;omega
 |succ X ih=>
  intro n gs a w sl t q B hX V U D F IQ Y
  obtain⟨b,hb,hBy⟩:=D.idle
  have O:G8 P Z Ad Still (λB t=>PX Ad Still Mem Am B h t) j (O0 P (j==0) K K1 TT Still cJ ah home):=X0 L hK1 hT hzJ hMj iy
  have G:=D.ne
  have haw:∀g∈gs,awake g:=by
   intro g hg
   obtain⟨i,hi,rfl⟩:=Array.mem_iff_getElem.1 hg
   have N9:=v_ hi
   by_cases e1:i=h
   .subst e1;rw[V]at N9;rw[<-x_ N9];exact awake_of (.inl U)
   .by_cases e2:i=j
    .subst e2;rw[hb]at N9;rw[<-x_ N9];exact awake_of ((O.status hBy).elim (λx=>.inl x.1) .inr)
    .exact awake_of ((D.JP i _ e1 e2 N9).status.elim .inl λx=>.inr (.inr x))
  obtain⟨i,g,d,R,hi,hg,BX⟩:=crowd_pick (P:=P) (w:=w) (sl:=sl) haw ⟨h,a,V,U⟩;have BL:i<gs.size:=(y_.1 hi).1;have hjl:j<gs.size:=(y_.1 hb).1;have hhl:h<gs.size:=(y_.1 V).1;obtain⟨⟨hK,lu⟩,rY,QG⟩:=hBy;have ak:K1 (w.at d):=L.keep w (w.at d) (λ_ _=>rfl) hK;by_cases e1:i=h
  .subst e1;obtain rfl:g=a:=(by rw[V]at hi;exact(x_ hi).symm);have r:∀x y,x≠j->(gs.setIfInBounds i ph)[x]?=some y->∀A b',offersAt y A b'=[]:=by
    intro x y o l A b'
    obtain⟨rfl,rfl⟩|⟨hxi,hy'⟩:=getElem?_stand gs i x y l
    .exact offersAt_ph _ _
    .exact offersAt_of_not_blocked (by obtain h1|h1:=(D.JP x y hxi o hy').status<;>rw[h1]<;>simp) _ _
   have br5:(gs.setIfInBounds i ph)[j]?=some b:=stand_get (gJ G) hb;obtain⟨rfl,f,rfl,p,hr⟩|⟨k,rfl,hbr,s⟩:=QG
   ·
    obtain⟨kc,hc⟩:=M.chan rY;have S:=ZZ (P:=P) (sl:=R) (i:=i) (j:=j) (w₁:=w.at d) hi (IQ d) M.hkh (λm cc hm T=>by
      obtain⟨A,z',k',rfl,H⟩:=F m cc hm T
      refine ways_recv_none (show(w.at d).heap[A]?=_ from H) (partners_nil λx y l=>?_)
      by_cases o:x=j
      .subst o;rw[br5]at l;rw[<-x_ l];exact offersAt_parked_sends hsJ _
      .exact r x y o l _ _) (show(w.at d).heap[c]?=_ from hc) (gJ G) hb M.hkj (by
      rw[partners_one br5 (λx y o l=>r x y o l _ _),offersAt_parked_at M.hkj M.hoj]
      rfl)
    have hcB:c<B:=(by have:=(y_.1 hc).1;have:=D.size;omega);have sQ:=D.tr.own (fn:=g.frame.fn) (pos:=g.frame.place) Y;have br3:=sQ.give hMh hMj a₂.frame.fn a₂.frame.place f.frame.fn f.frame.place kc 0 hcB;have Q:((gs.setIfInBounds j (Conc.served f (commResult cJ ah kj v true))).setIfInBounds i (Conc.served a₂ (commResult cH bZ kh undef false))).size=gs.size:=sJ;have I:∀x,x≠i->x≠j->Deaf (t++(MemOp.ofEvents i g.frame.fn g.frame.place es++met i j a₂.frame.fn a₂.frame.place f.frame.fn f.frame.place c kc 0)) x=Deaf t x:=by
     intro x h1 h2
     rw[<-Array.append_assoc,Deaf_quiet (met_quiet _ _ _ _ _ _ _ _ _ x),Deaf_other t (gJ h1) _ Yv]
    refine⟨1,_,_,R,t++(MemOp.ofEvents i g.frame.fn g.frame.place es++met i j a₂.frame.fn a₂.frame.place f.frame.fn f.frame.place c kc 0),by simp only[runNT,BX,S,met],Q,q,f,d,kc,?_,?_,p,hr,hc,rfl,λx y E u l=>?_,λx o=>?_,?_,?_,?_⟩
    .rw[lJ (by simpa using BL)]
    .rw[z_ G,lJ hjl]
    .rw[z_ (gJ E),z_ (gJ u)]at l;rw[I x E u];exact D.JP x y E u l
    .rw[Q]at o;rw[I x wB wB];exact D.above x o
    .rw[<-Array.append_assoc];exact br3
    .rw[<-Array.append_assoc];exact hT.reads _ _ (hT.calm t _ lu (Gn G Y)) (λop A8 b hb=>by rw[met_mute _ _ _ _ _ _ _ _ _ op A8]at hb;cases hb)
    .rw[<-Array.append_assoc];exact sQ.Δ a₂.frame.fn a₂.frame.place f.frame.fn f.frame.place kc 0 hcB
   ·
    obtain⟨kc,hc⟩:=M.chan rY;have Η:∀(x:Nat)(y:m_),(gs.setIfInBounds i ph)[x]?=some y->∀A b',offersAt y A b'=[]:=by
     intro x y l A b'
     by_cases o:x=j
     .subst o;rw[br5]at l;rw[<-x_ l];exact offersAt_of_not_blocked (by rw[hbr];simp) _ _
     .exact r x y o l A b'
    have S:=crowd_waits (P:=P) (sl:=R) (i:=i) (w₁:=w.at d) hi (IQ d) (λcc T=>by
     obtain⟨m,hm,rfl⟩:=Array.mem_iff_getElem.1 T
     have hm':=v_ hm
     by_cases em:m=kh
     .subst em;rw[M.hkh]at hm';rw[<-x_ hm'];exact ways_send_none (show(w.at d).heap[c]?=_ from hc) sJ (partners_nil λx y l=>Η x y l _ _)
     .obtain⟨A,z',k',e',H⟩:=F m _ em hm';rw[e'];exact ways_recv_none (show(w.at d).heap[A]?=_ from H) (partners_nil λx y l=>Η x y l _ _))
    have C:(gs.setIfInBounds i (parked a₂ cH bZ)).size=gs.size:=sJ;obtain⟨N,W,w',Ns,t',G9,IA,hQ⟩:=ab1 (P:=P) (home:=home) (ah:=ah) (bZ:=bZ) (a₂:=a₂) L hK1 hT M hMh hMj iy (k+sumTo gs.size q+1) k (gs.setIfInBounds i (parked a₂ cH bZ)) b (w.at d) R (t++MemOp.ofEvents i g.frame.fn g.frame.place es) q B (by rw[C];omega) G D.zero D.mem
     (by rw[lJ BL]) (by rw[z_ G];exact hb) hbr ak (hT.calm t _ lu (Gn G Y)) rY F s (λx y E u l=>by
      rw[z_ (gJ E)]at l
      rw[Deaf_other t (gJ E) _ Yv];exact D.JP x y E u l) (λx o=>by
      rw[C]at o
      rw[Deaf_other t (g':=i) wB _ Yv];exact D.above x o)
     (D.tr.own Y) D.size;exact⟨N+1,W,w',Ns,t',by simp only[runNT,BX,S];exact G9,IA.trans C,hQ.dw⟩
  .by_cases e2:i=j
   .subst e2;obtain rfl:g=b:=(by rw[hb]at hi;exact(x_ hi).symm);obtain⟨rfl,f,rfl,p,hr⟩|⟨k,rfl,hbr,s⟩:=QG
    .cases hg
    .cases k with
     |zero=>
      obtain⟨f,CP,p,hr,J,cz8⟩:=s
      obtain⟨r1,r2,r3⟩:=Jf (B:=B) (i:=i) (fn:=g.frame.fn) (pos:=g.frame.place) L hK D.size J
      have nob:∀k y,k≠i->gs[k]?=some y->y.status≠.blocked:=by
       intro k y hk l
       by_cases e3:k=h
       .subst e3;rw[V]at l;rw[<-x_ l,U];simp
       .have:=(D.JP k y e3 hk l).status;obtain h1|h1:=this<;>rw[h1]<;>simp
      have S:=crowd_waits (P:=P) (sl:=R) (i:=i) (w₁:=w.at d) hi (cz8 _ (hK1 _ ak)) (λcc T=>by
       obtain⟨A,z',k',rfl,H⟩:=rY cc T
       exact ways_recv_none (show(w.at d).heap[A]?=_ from H) (Kt nob));have C:(gs.setIfInBounds i (parked f cJ ah)).size=gs.size:=sJ;obtain⟨N,W,w',Ns,t',G9,IA,hQ⟩:=ih 0 (gs.setIfInBounds i (parked f cJ ah)) a (w.at d) R (t++MemOp.ofEvents i g.frame.fn g.frame.place CP) q B (by rw[C];omega)
       (by rw[z_ (gJ G)];exact V) U
       ⟨G,D.zero,D.mem,⟨_,lJ BL,⟨ak,hT.reads t _ lu r1⟩,rY,.inl ⟨rfl,f,rfl,p,hr⟩⟩,λx y E u l=>by
        rw[z_ (gJ u)]at l
        rw[Deaf_other t (gJ u) _ Yv];exact D.JP x y E u l,λx o=>by
        rw[C]at o
        rw[Deaf_other t (g':=i) wB _ Yv];exact D.above x o,PX.appRead hT.ss D.tr hMj iy Yv r1 (r2 t) r3,D.size⟩ F (λd'=>IQ d') Y;exact⟨N+1,W,w',Ns,t',by simp only[runNT,BX,S];exact G9,IA.trans C,hQ.dw⟩
     |succ k=>
      obtain⟨g',CP,hr,J,hgo',hw'⟩:=s
      obtain⟨r1,r2,r3⟩:=Jf (B:=B) (i:=i) (fn:=g.frame.fn) (pos:=g.frame.place) L hK D.size J
      have S:=runT_crowd_go (P:=P) (sl:=R) (i:=i) hi (hgo' _ (hK1 _ ak))
      have C:((gs.map (woken P g g' (w.at d))).setIfInBounds i g').size=gs.size:=sJ
      obtain⟨N,W,w',Ns,t',G9,IA,hQ⟩:=ih (k+1) ((gs.map (woken P g g' (w.at d))).setIfInBounds i g') a (w.at d) R (t++MemOp.ofEvents i g.frame.fn g.frame.place CP) q B (by rw[C];omega)
       (by rw[z_ (gJ G),ik,V];simp[woken_run U]) U
       ⟨G,D.zero,D.mem,⟨g',by simp[BL],⟨ak,hT.reads t _ lu r1⟩,rY,.inr ⟨k,rfl,hr,hw'⟩⟩,λx y E u l=>by
        rw[z_ (gJ u),ik]at l
        obtain⟨y',hy',rfl⟩:=lT.1 l
        have hq:=D.JP x y' E u hy'
        rw[woken_quitsD hq,Deaf_other t (gJ u) _ Yv];exact hq,λx o=>by
        rw[C]at o
        rw[Deaf_other t (g':=i) wB _ Yv];exact D.above x o,PX.appRead hT.ss D.tr hMj iy Yv r1 (r2 t) r3,D.size⟩ F (λd'=>IQ d') Y
      exact⟨N+1,W,w',Ns,t',by simp only[runNT,BX,S];exact G9,IA.trans C,hQ.dw⟩
   .have Mc:i≠0:=by obtain e|e:=D.zero<;>omega
    have hq:=D.JP i g e1 e2 hi;have hi0:(i==0)=false:=(by simp;omega);cases hqi:q i with
    |zero=>rw[hqi]at hq;rw[hq.1]at hg;cases hg
    |succ kk=>
     rw[hqi]at hq
     obtain⟨hf,_⟩|⟨_,g',CP,hm,hstp,hq'⟩:=hq
     .rw[hf]at hg;cases hg
     have S:=runT_crowd_go (P:=P) (sl:=R) (i:=i) hi (by rw[hi0];exact hstp (w.at d));have C:((gs.map (woken P g g' (w.at d))).setIfInBounds i g').size=gs.size:=sJ;have hsum:sumTo gs.size (upd q i kk)+(kk+1)=sumTo gs.size q+kk:=by
      have:=sumTo_upd q kk id BL
      simpa [hqi]using this
     have hmute:∀op∈MemOp.ofEvents i g.frame.fn g.frame.place CP,op.act.touch?=none:=λop A8=>by obtain⟨e,he,rfl⟩:=p_ A8;exact touch_mute (hm e he)
     have hnm:¬Mem i:=λN9=>(D.mem i N9).elim e1 e2
     have cd7:O0 P (j==0) K K1 TT Still cJ ah home n b w t:=⟨⟨hK,lu⟩,rY,QG⟩;obtain⟨N,W,w',Ns,t',G9,IA,hQ⟩:=ih n ((gs.map (woken P g g' (w.at d))).setIfInBounds i g') a (w.at d) R (t++MemOp.ofEvents i g.frame.fn g.frame.place CP) (upd q i kk) B (by rw[C];omega)
      (by rw[z_ e1,ik,V];simp[woken_run U]) U
      ⟨G,D.zero,D.mem,⟨b,by
       rw[z_ e2,ik,hb]
       simp only[Option.map_some,l7]
       exact woken_of_again (O.again cd7 (w.at d) λ_ _=>rfl),O.calm (w.at d) _ cd7 (λ_ _=>rfl) (Sj e2 Mc hm)⟩,λx y E u o=>by
       by_cases e3:i=x
       .subst e3;rw[lJ (by simpa using BL)]at o;obtain rfl:=x_ o;rw[upd_same,Deaf_own];exact hq'
       .rw[z_ e3,ik]at o;obtain⟨z,hz,rfl⟩:=lT.1 o;have hqj:=D.JP x z E u hz;rw[woken_quitsD hqj,upd_ne q kk (gJ e3),Deaf_other t e3 _ Yv];exact hqj,λx o=>by
       rw[Deaf_other t (g':=i) (by simp at o;omega) _ Yv];exact D.above x (by simpa using o),D.tr.appMute Yv hmute (λx=>(hnm x).elim) (λop A8=>by obtain⟨e,he,rfl⟩:=p_ A8;exact low_mute (hm e he) B),D.size⟩ F (λd'=>IQ d') Y
     exact⟨N+1,W,w',Ns,t',by simp only[runNT,BX,S];exact G9,IA.trans C,hQ.dw⟩
end
section
variable {P:l_}{Z:Nat->Prop}{Ad Still:Loc->Prop}{Mem Am:Nat->Prop}{h j:Nat}{By:Nat->m_->o_->Trace->Prop}
theorem bJ:∀(X:Nat)(gs:Array m_)(a:m_)(w:o_)(sl:d_ (W_))(t:Trace)(q:Nat->Nat)(B:Nat),sumTo gs.size q<X->gs[0]?=some a->a.status=.running->Leavers P t gs q->Past Ad B t->
  ∃(N:Nat) (U:Array m_) (Y d:Nat) (T V:d_ (W_)) (W:Trace) (q':Nat->Nat),runNT P N (crowd gs w sl) t=(.next (crowd U (w.at Y) T),W)/\U.size=gs.size/\U[0]?=some a/\
   stepT P (crowd U (w.at Y) T)=runT P (crowd U (w.at d) V) 0/\Leavers P W U q'/\Past Ad B W:=by
 intro X
 induction X with
 |zero=>intro gs a w sl t q B hX;omega
 |succ X S=>
  intro gs a w sl t q B hX l j hL F
  have u:∀g∈gs,awake g:=by
   intro g c
   obtain⟨i,hi,rfl⟩:=Array.mem_iff_getElem.1 c
   obtain rfl|o:=Nat.eq_zero_or_pos i
   .have:gs[0]=a:=(by simpa [v_ hi]using l);rw[this];exact awake_of (.inl j)
   .exact awake_of ((hL.old i _ o (v_ hi)).status.elim .inl λx=>.inr (.inr x))
  obtain⟨i,g,d,V,hi,c,D⟩:=crowd_pick (P:=P) (w:=w) (sl:=sl) u ⟨0,a,l,j⟩;have C:i<gs.size:=(y_.1 hi).1;obtain rfl|o:=Nat.eq_zero_or_pos i
  .exact⟨0,gs,w.drawn,d,sl,V,t,q,rfl,rfl,l,D,hL,F⟩
  .have hq:=hL.old i g o hi;have v:(i==0)=false:=(by simp;omega);cases hqi:q i with
   |zero=>rw[hqi]at hq;rw[hq.1]at c;cases c
   |succ k=>
    rw[hqi]at hq
    obtain⟨M,_⟩|⟨_,g',L,O,h,A⟩:=hq
    .rw[M]at c;cases c
    have H:=runT_crowd_go (P:=P) (sl:=V) (i:=i) hi (by rw[v];exact h (w.at d));have E:((gs.map (woken P g g' (w.at d))).setIfInBounds i g').size=gs.size:=sJ;have G:sumTo gs.size (upd q i k)+(k+1)=sumTo gs.size q+k:=by
     have:=sumTo_upd q k id C
     simpa [hqi]using this
    obtain⟨N,U,Y,d1,T,K,W,q',Q,J,p,f,r,s⟩:=S ((gs.map (woken P g g' (w.at d))).setIfInBounds i g') a (w.at d) V (t++MemOp.ofEvents i g.frame.fn g.frame.place L) (upd q i k) B (by rw[E];omega)
     (by
      have I:i≠0:=wB
      rw[z_ I,ik,l]
      simp[woken_run j]) j
     ⟨λx y m n=>by
      by_cases b:i=x
      .subst b;rw[lJ (by simpa using C)]at n;obtain rfl:=x_ n;rw[upd_same,Deaf_own];exact A
      .rw[z_ b,ik]at n;obtain⟨z,R,rfl⟩:=lT.1 n;have e:=hL.old x z m R;rw[woken_quitsD e,upd_ne q k (gJ b),Deaf_other t b _ Yv];exact e,λx m=>by
      rw[Deaf_other t (g':=i) (by simp at m;omega) _ Yv];exact hL.above x (by simpa using m)⟩
     (F.mute wB O)
    exact⟨N+1,U,Y,d1,T,K,W,q',by simp only[runNT,D,H];exact Q,J.trans E,p,f,r,s⟩
theorem xe {sl:d_ (W_)}(hi:gs[i]?=some g)(f:stepG P (i==0) g w=.spawn g' child w' es):
  runT P (crowd gs w sl) i=(.next (crowd ((gs.setIfInBounds i g').push child) w' sl),MemOp.ofEvents i g.frame.fn g.frame.place es++#[{ g:=i,fn:=g.frame.fn,pos:=g.frame.place,act:=.go gs.size},{ g:=gs.size,fn:=child.frame.fn,pos:=g.frame.place,act:=.start}]):=by
 obtain⟨b,rfl⟩:=y_.1 hi;have a:=swapAt_of_lt b { (default:m_)with status:=.finished};show runT P { world:=w,gs:=gs,rest:={ timers:=#[],alone:=none,slice:=sl} } i=_;unfold runT;simp only[a,f,GStep.es];simp[crowd,Array.setIfInBounds,b];apply Array.ext';simp
theorem au3 {K K1:o_->Prop}{TT:Trace->Prop}{T:Array CommCase}{ah:CommShape}{home:m_->Prop}{a O:m_}{sl:d_ (W_)}
  (L:Tz Z Still K1) (hS:∀l,Still l->l.isMemory=true) (U:∀l,Still l->¬Ad l) (W:gs[0]?=some a) (X:a.status=.running) (hL:Leavers P t gs q) (hP:Past Ad B t) (hB:w.heap.size<=B)
  (V:∀d,stepG P true a (w.at d)=.spawn O child (w.at d) es) (F9:∀e∈es,aN Ad Still B e) (υ:K1 w) (lu:∀R,PX Ad Still (λg=>g=0\/g=gs.size) (λg=>g=0) B gs.size R->TT R) (rY:∀cc∈T,GG w cc) (J:O.status=.running) (M:Ho P true K Still T ah home k O):
  ∃(N:Nat) (S:Array m_) (d:Nat) (Y:d_ (W_)) (R:Trace) (q':Nat->Nat),runNT P N (crowd gs w sl) t=(.next (crowd S (w.at d) Y),R)/\S.size=gs.size+1/\S[gs.size]?=some child/\
   Duo P Ad Still (λg=>g=0\/g=gs.size) (λg=>g=0) B gs.size 0 (O0 P true K K1 TT Still T ah home) (k+1) S (w.at d) R q':=by
 have C:0<gs.size:=(y_.1 W).1;obtain⟨N,p,I,d,G,z,f,q1,F,b,r,A,h,s⟩:=bJ (P:=P) (Ad:=Ad) (sumTo gs.size q+1) gs a w sl t q B wB W X hL hP;have y:=xe (P:=P) (sl:=z) (i:=0) r (show stepG P (0==0) a (w.at d)=_ from V d);have u:PX Ad Still (λg=>g=0) (λ_=>False) B 0 f:=PX.ofPast s hS U;have v:Deaf (f++MemOp.ofEvents 0 a.frame.fn a.frame.place es) gs.size=0:=by
  rw[Deaf_other f (g':=0) wB _ Yv]
  exact h.above gs.size wB
 have j:=((u.own (fn:=a.frame.fn) (pos:=a.frame.place) F9).born (c:=gs.size) rfl v a.frame.fn a.frame.place child.frame.fn).loosen (Loose':=λg=>g=0) (λ_ D=>D.elim);have o:∀g,Deaf (f++MemOp.ofEvents 0 a.frame.fn a.frame.place es++#[{ g:=0,fn:=a.frame.fn,pos:=a.frame.place,act:=.go gs.size},{ g:=gs.size,fn:=child.frame.fn,pos:=a.frame.place,act:=.start}]) g=Deaf (f++MemOp.ofEvents 0 a.frame.fn a.frame.place es) g:=λg=>Deaf_quiet (by
  intro op x d
  simp only[eu,r_,lG,or_false]at x
  obtain rfl|rfl:=x<;>rfl)
 rw[b]at y;refine⟨N+1,(p.setIfInBounds 0 O).push child,d,z,f++(MemOp.ofEvents 0 a.frame.fn a.frame.place es++#[{ g:=0,fn:=a.frame.fn,pos:=a.frame.place,act:=.go gs.size},{ g:=gs.size,fn:=child.frame.fn,pos:=a.frame.place,act:=.start}]),q1,runNT_succ_of F (A.trans y),by simp[b],?_,?_⟩
 .rw[Array.getElem?_push];simp[b]
 .rw[<-Array.append_assoc];refine⟨wB,.inr rfl,λg m=>m.elim .inr .inl,⟨O,?_,?_⟩,λi g E n m=>?_,λi hi=>?_,j,hB⟩
  .rw[Array.getElem?_push];simp[b,C];omega
  .refine⟨⟨L.keep w (w.at d) (λ_ _=>rfl) υ,?_⟩,rY,.inr ⟨k,rfl,J,M⟩⟩;exact lu _ j
  .have H:i<gs.size:=by
    have:=(y_.1 m).1
    simp[b]at this;omega
   rw[Array.getElem?_push,ru (by simp[b];omega),z_ (gJ n)]at m;rw[o,Deaf_other f (gJ n) _ Yv];exact h.old i g wB m
  .simp[b]at hi;rw[o,Deaf_other f (g':=0) wB _ Yv];exact h.above i wB
theorem go_duo (O:G8 P Z Ad Still (fun B t=>PX Ad Still Mem Am B h t) j By){Me Loose':Nat->Prop}{B0:Nat}{a:m_}{sl:d_ (W_)}
  (h0:gs[h]?=some a) (BJ:a.status=.running) (D:Duo P Ad Still Mem Am B0 h j By n gs w t q) (hM':∀g,Me g->g=h\/g=j)
  (Tm:∀B,B0<=B->∀w1:o_,w1.heap.size<=B->∀n1 b1 Y,CS Z w w1->By n1 b1 w1 Y->PX Ad Still Mem Am B h Y->∀d,∃a' w' es B',stepG P (h==0) a (w1.at d)=.go a' w' es/\B<=B'/\w'.heap.size<=B'/\
   PX Ad Still Me Loose' B' h (Y++MemOp.ofEvents h a.frame.fn a.frame.place es)/\∃(By':Nat->m_->o_->Trace->Prop) (n2:Nat),By' n2 (woken P a a' w' b1) w' (Y++MemOp.ofEvents h a.frame.fn a.frame.place es)/\
   ∀BA q' n',BA.size=gs.size->BA[h]?=some a'->Duo P Ad Still Me Loose' B' h j By' n' BA w' (Y++MemOp.ofEvents h a.frame.fn a.frame.place es) q'->∀Em,AX P BA w' Em (Y++MemOp.ofEvents h a.frame.fn a.frame.place es) Q):AX P gs w sl t Q:=by
 obtain⟨N,f,w1,d,W,E,Y,q1,n1,U,l,F,T,⟨B,r,e⟩,I⟩:=ZH O (n+sumTo gs.size q+1) n gs a w sl t q B0 wB h0 BJ D;obtain⟨b,hb,hB⟩:=e.idle;obtain⟨a',w',es,B',u,R,K,v,By',n2,s,m⟩:=Tm B r w1 e.size n1 b Y T hB e.tr d;have H:h<f.size:=(y_.1 F).1;have J:=runT_crowd_go (P:=P) (sl:=E) (i:=h) F u;have c:((f.map (woken P a a' w')).setIfInBounds h a').size=gs.size:=by simp[l]
 obtain⟨L,p,w2,C,X,z,A,S⟩:=m ((f.map (woken P a a' w')).setIfInBounds h a') q1 n2 c (by simp[H]) ⟨e.ne,e.zero,hM',⟨_,by rw[z_ e.ne,ik,hb];rfl,s⟩,λk x o M G=>by
   rw[z_ (gJ o),ik]at G
   obtain⟨y,V,rfl⟩:=lT.1 G
   have hq:=e.JP k y o M V
   rw[woken_quitsD hq,Deaf_other Y (gJ o) _ Yv]
   exact hq,λk m=>by
   rw[c,<-l]at m
   rw[Deaf_other Y (g':=h) wB _ Yv]
   exact e.above k m,v,K⟩ E;refine⟨N+1+L,p,w2,C,X,?_,A.trans c,S⟩;rw[runNT_add,runNT_succ_of U (I.trans J)];exact z
end
def KK:Int:=4294967296
def P5 (a:f_):Event:=⟨.mark (.releaseMerge a),false,true⟩
def RG (a:f_):Event:=⟨.mark (.acquire a),false,true⟩
def JA:Event:=⟨.mark .disable,false,true⟩
def MJ:Event:=⟨.mark .enable,false,true⟩
def Ky (a:f_):Array Event:=#[⟨.cell a,false,true⟩,⟨.cell a,true,true⟩]
def BC (r:Nat)(pre:X_)(ty:j_)(w:o_)(st sm:Int):Prop:=w.heap[r]?=some (N_ (pre++#[.int .u64 st,.int .u32 sm]) ty)
def stA (r:Nat)(pre:X_):f_:=(S_ r pre.size)
def smA (r:Nat)(pre:X_):f_:=(S_ r (pre.size+1))
section
variable {r:Nat}{pre:X_}{ty:j_}{w:o_}{st sm:Int}
theorem BC.cellSt (h:BC r pre ty w st sm):w.cell? (stA r pre)=some (.int .u64 st):=by
 unfold World.cell? stA;unfold BC at h;simp only;rw[h];simp
theorem BC.cellSm (h:BC r pre ty w st sm):w.cell? (smA r pre)=some (.int .u32 sm):=by
 unfold World.cell? smA;unfold BC at h;simp only;rw[h];simp
theorem BC.QJ (h:BC r pre ty w st sm):w.frozen? (stA r pre)=false:=by
 unfold World.frozen? stA;unfold BC at h;simp only;rw[h];simp
theorem BC.uk (h:BC r pre ty w st sm):w.frozen? (smA r pre)=false:=by
 unfold World.frozen? smA;unfold BC at h;simp only;rw[h];simp
theorem BC.setSt (h:BC r pre ty w st sm)(b:Int):BC r pre ty (w.setCell (stA r pre) (.int .u64 b)) b sm:=by
 unfold BC at h ⊢;simp only[World.setCell,stA,iF,if_true,h,Option.map_some,l7];have:(pre++#[Value.int .u64 st,.int .u32 sm]).setIfInBounds pre.size (.int .u64 b)=pre++#[Value.int .u64 b,.int .u32 sm]:=by
  apply Array.ext'
  simp
 simp[this]
theorem BC.setSm (h:BC r pre ty w st sm)(b:Int):BC r pre ty (w.setCell (smA r pre) (.int .u32 b)) st b:=by
 unfold BC at h ⊢;simp only[World.setCell,smA,iF,if_true,h,Option.map_some,l7];have:(pre++#[Value.int .u64 st,.int .u32 sm]).setIfInBounds (pre.size+1) (.int .u32 b)=pre++#[Value.int .u64 st,.int .u32 b]:=by
  apply Array.ext'
  simp
 simp[this]
theorem BC.lt (h:BC r pre ty w st sm):r<w.heap.size:=(y_.1 h).1
theorem BC.keep (h:BC r pre ty w st sm)(f:Z r)(b:Js Z w w'):BC r pre ty w' st sm:=by
 unfold BC;rw[b r f];exact h
theorem BC.eq {o f:Int}(h:BC r pre ty w st sm)(p:BC r pre ty w o f):st=o/\sm=f:=by
 have a:=h.cellSt;have b:=h.cellSm;rw[p.cellSt]at a;rw[p.cellSm]at b;simp only[l7,Value.int.injEq,true_and]at a b;exact⟨a.symm,b.symm⟩
theorem Px (f:Z a.block)(x:n_)(d:Nat):CS Z w ((w.at d).setCell a x):=by
 refine⟨by simp[World.setCell,World.at],λk b=>?_,rfl,rfl,rfl⟩;have:a.block≠k:=λe=>b (e ▸ f)
 simp[World.setCell,World.at,iF,this]
end
theorem Il {x:n_}:((w.at d).setCell a x).heap.size=w.heap.size:=by simp[World.setCell,World.at]
def DD (r:Nat)(pre:X_)(ty:j_)(w:o_):Prop:=∃st sm,BC r pre ty w st sm
theorem BC.is {pre:X_}(h:BC r pre ty w st sm)(d:Nat):DD r pre ty (w.at d):=⟨st,sm,h⟩
def Ls (P:l_)(J:o_->Prop)(main:Bool):Nat->m_->m_->Prop
 |0,g,g'=>g=g'
 |n+1,g,g'=>g.status=.running/\∃g1,(∀w,J w->stepG P main g w=.go g1 w #[])/\Ls P J main n g1 g'
theorem Ls.status {J:o_->Prop}{main:Bool}(b:g'.status=.running):∀{n:Nat} {g:m_},Ls P J main n g g'->g.status=.running
 |0,_,h=>h ▸ b
 |_+1,_,h=>h.1
def Lod (P:l_)(r:Nat)(pre:X_)(ty:j_):Nat->m_->m_->Prop
 |0,g,g'=>g=g'
 |n+1,g,g'=>g.status=.running/\∃g1 l,(l=[]\/l=[(⟨.cell (stA r pre),false,true⟩:Event)])/\(∀w,BC r pre ty w 1 0->stepG P false g w=.go g1 w l.toArray)/\Lod P r pre ty n g1 g'
theorem Lod.status {pre:X_}(b:g'.status=.running):∀{n:Nat} {g:m_},Lod P r pre ty n g g'->g.status=.running
 |0,_,h=>h ▸ b
 |_+1,_,h=>h.1
structure SY where
 gR:m_
 gR':m_
 gD:m_
 gD':m_
 gA:m_
 gF:m_
 gW:m_
 gS:m_
 gS':m_
 gP:m_
 gP':m_
 k1:Nat
 k2:Nat
 k3:Nat
 k4:Nat
 nF:Nat
 nP:Nat
structure O3 (P:l_)(r:Nat)(pre:X_)(ty:j_)(o:SY):Prop where
 runs:o.gR.status=.running/\o.gD.status=.running/\o.gA.status=.running/\o.gS.status=.running/\o.gP.status=.running
 rel:∀w,stepG P false o.gR w=.go o.gR' w #[P5 (stA r pre)]
 s1:Ls P (DD r pre ty) false o.k1 o.gR' o.gD
 ax:∀w,stepG P false o.gD w=.go o.gD' w #[JA]
 s2:Ls P (DD r pre ty) false o.k2 o.gD' o.gA
 add0:∀w,w.cell? (stA r pre)=some (.int .u64 KK)->w.frozen? (stA r pre)=false->stepG P false o.gA w=.go o.gF (w.setCell (stA r pre) (.int .u64 0)) (Ky (stA r pre))
 fin0:QuitsD P o.nF 1 o.gF
 add1:∀w,w.cell? (stA r pre)=some (.int .u64 (KK+1))->w.frozen? (stA r pre)=false->stepG P false o.gA w=.go o.gW (w.setCell (stA r pre) (.int .u64 1)) (Ky (stA r pre))
 s3:Lod P r pre ty o.k3 o.gW o.gS
 sto:∀w,w.cell? (stA r pre)=some (.int .u64 1)->w.frozen? (stA r pre)=false->stepG P false o.gS w=.go o.gS' (w.setCell (stA r pre) (.int .u64 0)) #[⟨.cell (stA r pre),true,true⟩]
 s4:Ls P (DD r pre ty) false o.k4 o.gS' o.gP
 sem:∀w,w.cell? (smA r pre)=some (.int .u32 0)->w.frozen? (smA r pre)=false->stepG P false o.gP w=.go o.gP' (w.setCell (smA r pre) (.int .u32 1)) (semEvents (smA r pre))
 fin1:QuitsD P o.nP 1 o.gP'
 wake:mayWake P o.gP=true/\o.gP'.status=.running
def LY (r:Nat)(pre:X_)(l:Loc):Prop:=l=.cell (stA r pre)\/l=.cell (smA r pre)
structure OU (c:Nat)(r:Nat)(pre:X_)(m:Nat)(t:Trace):Prop where
 at_:∃op,t[m]?=some op/\op.g=c/\op.act=.mark (.releaseMerge (stA r pre))
 heard:t.deaf c m=0
 after:∀i b,m<=i->touchAt t i=some b->t.g? i=some c->LY r pre b.loc/\b.kind=.atomic/\¬t.heard i
 norel:∀k,m<k->t.act? k≠some (.mark (.release (stA r pre)))
def KI (c r:Nat)(pre:X_)(t:Trace):Prop:=∀i a,touchAt t i=some a->LY r pre a.loc->a.kind=.plain->Knows t c i
section
variable {P:l_}{Z:Nat->Prop}{Ad Still:Loc->Prop}{r:Nat}{pre:X_}{ty:j_}{c m:Nat}{t u:Trace}{o:SY}
theorem KI.app (h:KI c r pre t)(p:∀op∈u,∀b,op.act.touch?=some b->LY r pre b.loc->b.kind≠.plain):KI c r pre (t++u):=by
 intro i a k f e;obtain⟨x,l,d⟩:=touch_of k;obtain⟨_,g⟩|⟨_,j⟩:=getElem?_append_cases l
 .exact(h i a (by rw[touchAt_of g];exact d) f e).app u
 .exact(p x j a d f e).elim
theorem OU.app (h:OU c r pre m t)(G:∀op∈u,op.act≠.mark (.release (stA r pre)))(F:∀k op b,u[k]?=some op->op.g=c->op.act.touch?=some b->LY r pre b.loc/\b.kind=.atomic/\(t++u).deaf c (t.size+k)≠0):OU c r pre m (t++u):=by
 obtain⟨op,v,C,f⟩:=h.at_;have w:=lt_size_of_getElem? v;refine⟨⟨op,by rw[getElem?_append_old w];exact v,C,f⟩,by rw[deaf_old (Nat.le_of_lt w)];exact h.heard,λi b hi hb a=>?_,λk D e=>?_⟩
 .obtain⟨x,l,d⟩:=touch_of hb;obtain⟨p,n⟩|⟨q,_⟩:=getElem?_append_cases l
  .rw[g?_old p]at a;have:=h.after i b hi (by rw[touchAt_of n];exact d) a;exact⟨this.1,this.2.1,by rw[heard_old p];exact this.2.2⟩
  .have o:u[i-t.size]?=some x:=by
    rw[<-l,Array.getElem?_append_right q]
   have s:x.g=c:=(by rw[g?_of l]at a;exact x_ a);obtain⟨A,B,y⟩:=F (i-t.size) x b o s d;refine⟨A,B,?_⟩;rintro⟨E,j,z⟩;rw[a]at j;obtain rfl:=x_ j;rw[show t.size+(i-t.size)=i from by omega]at y;exact y z
 .obtain⟨x,l,d⟩:=lT.1 (show((t++u)[k]?).map (·.act)=_ from e);obtain⟨p,n⟩|⟨_,o⟩:=getElem?_append_cases l
  .exact h.norel k D (by rw[act?_of n,d])
  .exact G x o d
theorem OU.calm (h:OU c r pre m t)(f:Yn Ad Still c u):OU c r pre m (t++u):=
 h.app (λop a=>(f op a).2.2.1 _) λ_ op _ d b _=>((f op (Array.mem_of_getElem? d)).1 b).elim
theorem KI.calm (h:KI c r pre t)(f:∀l,LY r pre l->Ad l)(p:Yn Ad Still c u):KI c r pre (t++u):=
 h.app λop a b hb d=>((p op a).2.1 b hb).2 (f _ d)
end
def iZ (P:l_)(c r:Nat)(pre:X_)(ty:j_)(o:SY)(w0:Bool)(n:Nat)(g:m_)(w:o_)(t:Trace):Prop:=
 KI c r pre t/\
 ((∃k,n=k+(o.k1+o.k2+o.k3+o.k4+o.nF+o.nP+10)/\Ls P (DD r pre ty) false k g o.gR/\BC r pre ty w (if w0 then KK+1 else KK) 0/\Deaf t c=0)\/
  (∃m k,n=k+(o.k2+o.k3+o.k4+o.nF+o.nP+8)/\Ls P (DD r pre ty) false k g o.gD/\BC r pre ty w (if w0 then KK+1 else KK) 0/\Deaf t c=0/\OU c r pre m t)\/
  (∃m k,n=k+(o.k3+o.k4+o.nF+o.nP+6)/\Ls P (DD r pre ty) false k g o.gA/\BC r pre ty w (if w0 then KK+1 else KK) 0/\Deaf t c=1/\OU c r pre m t)\/
  (w0=false/\∃m,QuitsD P n (Deaf t c) g/\BC r pre ty w 0 0/\OU c r pre m t)\/
  (w0=true/\∃m k,n=k+(o.k4+o.nP+4)/\Lod P r pre ty k g o.gS/\BC r pre ty w 1 0/\Deaf t c=1/\OU c r pre m t)\/
  (w0=true/\∃m k,n=k+(o.nP+2)/\Ls P (DD r pre ty) false k g o.gP/\BC r pre ty w 0 0/\Deaf t c=1/\OU c r pre m t)\/
  (w0=true/\∃m,QuitsD P n (Deaf t c) g/\BC r pre ty w 0 1/\OU c r pre m t))
section
variable {P:l_}{Z:Nat->Prop}{Ad Still:Loc->Prop}{Mem Am:Nat->Prop}{r:Nat}{pre:X_}{ty:j_}{c B:Nat}{t:Trace}{o:SY}{w0:Bool}
theorem DY (g:Nat)(fn:h_)(pos:String):t++MemOp.ofEvents g fn pos #[]=t:=by simp[MemOp.ofEvents]
theorem UQ (H:PX Ad Still Mem Am B 0 t)(h:¬Mem c)(f:∀e∈es,(MemAct.ofEvent e).touch?=none/\(MemAct.ofEvent e).low B):PX Ad Still Mem Am B 0 (t++MemOp.ofEvents c fn pos es):=
 H.appMute Yv (λop a=>by obtain⟨e,b,rfl⟩:=p_ a;exact(f e b).1) (λx=>(h x).elim) (λop a=>by obtain⟨e,b,rfl⟩:=p_ a;exact(f e b).2)
theorem FI (H:KI c r pre t){g:Nat}(f:∀e∈es,∀b,(MemAct.ofEvent e).touch?=some b->b.kind≠.plain):KI c r pre (t++MemOp.ofEvents g fn pos es):=
 H.app λop a b hb _=>by obtain⟨e,d,rfl⟩:=p_ a;exact f e d b hb
theorem Ρ (t:Trace)(g:Nat)(fn:h_)(pos:String):∀(l:List Event)(k:Nat),k<=l.length->(t++MemOp.ofEvents g fn pos l.toArray).deaf g (t.size+k)=deafBehind (Deaf t g) (l.take k).toArray:=by
 intro l k
 induction k with
 |zero=>intro _;simp only[Nat.add_zero,List.take_zero];rw[deaf_old w_];rfl
 |succ k c=>
  intro f
  have b:(t++MemOp.ofEvents g fn pos l.toArray)[t.size+k]?=some { g:=g,fn:=fn,pos:=pos,act:=.ofEvent l[k]}:=by
   rw[at_new,ofEvents_eq]
   simp[List.getElem?_eq_getElem (show k<l.length by omega)]
  rw[<-Nat.add_assoc,deaf_succ b,c wB,List.take_succ_eq_append_getElem wB]
  simp only[deafBehind,List.foldl_toArray',List.foldl_append,List.foldl_cons,List.foldl_nil]
  generalize List.foldl _ (Deaf t g) (List.take k l)=x
  cases hl:l[k]with
  |mk a wr e=>
   cases a with
   |obj q=>cases wr<;>cases e<;>rfl
   |mark d=>cases d<;>simp[deafStep,MemAct.ofEvent]
   |_=>rfl
theorem UR (H:PX Ad Still Mem Am B 0 t)(s:∀l,LY r pre l->Ad l/\¬Still l)(p:¬Mem c)(hN:KI c r pre t)
  (h:∀e∈l,(∀b,(MemAct.ofEvent e).touch?=some b->LY r pre b.loc/\b.kind=.atomic)/\(MemAct.ofEvent e).low B) (v:∀k,k<l.length->deafBehind (Deaf t c) (l.take k).toArray≠0):PX Ad Still Mem Am B 0 (t++MemOp.ofEvents c fn pos l.toArray):=by
 refine H.bm8 (W:=LY r pre) s hN p Yv (λop a b hb=>?_) (λk f=>?_) (λop a=>?_)
 .obtain⟨e,d,rfl⟩:=p_ a;exact(h e (by simpa using d)).1 b hb
 .have:k<l.length:=by rw[ofEvents_eq]at f;simpa using f
  rw[Ρ _ _ _ _ _ _ wB];exact v k this
 .obtain⟨e,d,rfl⟩:=p_ a;exact(h e (by simpa using d)).2
theorem PG (H:OU c r pre m t)
  (p:∀e∈l,(∀b,(MemAct.ofEvent e).touch?=some b->LY r pre b.loc/\b.kind=.atomic)/\MemAct.ofEvent e≠.mark (.release (stA r pre))) (s:∀k,k<l.length->deafBehind (Deaf t c) (l.take k).toArray≠0):OU c r pre m (t++MemOp.ofEvents c fn pos l.toArray):=by
 refine H.app (λop g=>?_) (λk op b f _ hb=>?_)
 .obtain⟨e,a,rfl⟩:=p_ g;exact(p e (by simpa using a)).2
 .have h:k<l.length:=by
   have:=(y_.1 f).1
   rw[ofEvents_eq]at this;simpa using this
  obtain⟨e,a,rfl⟩:=p_ (Array.mem_of_getElem? f);have d:=(p e (by simpa using a)).1 b hb;exact⟨d.1,d.2,by rw[Ρ _ _ _ _ _ _ wB];exact s k h⟩
theorem RV (H:OU c r pre m t)(h:∀e∈es,(MemAct.ofEvent e).touch?=none/\MemAct.ofEvent e≠.mark (.release (stA r pre))):OU c r pre m (t++MemOp.ofEvents c fn pos es):=
 H.app (λop d=>by obtain⟨e,a,rfl⟩:=p_ d;exact(h e a).2) (λk op b f _ hb=>by
  obtain⟨e,a,rfl⟩:=p_ (Array.mem_of_getElem? f)
  rw[(h e a).1]at hb;cases hb)
theorem Wq (h:∀e∈es,e.mute=true)(a:f_):∀e∈es,(MemAct.ofEvent e).touch?=none/\MemAct.ofEvent e≠.mark (.release a):=λe c=>by
 refine⟨touch_mute (h e c),?_⟩;have:=h e c;obtain⟨b,wr,f⟩:=e;cases b<;>simp[Event.mute]at this;rename_i d;cases d<;>simp[MemAct.ofEvent]at this ⊢
theorem ba6 (O:O3 P r pre ty o)(hZ:Z r)(hW:∀l,LY r pre l->Ad l/\¬Still l)(hc:c≠0)(hM:¬Mem c):G8 P Z Ad Still (λB t=>PX Ad Still Mem Am B 0 t) c (iZ P c r pre ty o w0) where
 status:=by
  rintro n g w t ⟨_,⟨k,rfl,f,_⟩|⟨m,k,rfl,f,_⟩|⟨m,k,rfl,f,_⟩|⟨_,m,hq,_⟩|⟨_,m,k,rfl,f,_⟩|⟨_,m,k,rfl,f,_⟩|⟨_,m,hq,_⟩⟩
  .exact .inl ⟨f.status O.runs.1,wB⟩
  .exact .inl ⟨f.status O.runs.2.1,wB⟩
  .exact .inl ⟨f.status O.runs.2.2.1,wB⟩
  .cases n with
   |zero=>exact .inr (.inr hq.1)
   |succ n=>exact hq.status.elim (λx=>.inl ⟨x,wB⟩) λx=>.inr (.inr x)
  .exact .inl ⟨f.status O.runs.2.2.2.1,wB⟩
  .exact .inl ⟨f.status O.runs.2.2.2.2,wB⟩
  .cases n with
   |zero=>exact .inr (.inr hq.1)
   |succ n=>exact hq.status.elim (λx=>.inl ⟨x,wB⟩) λx=>.inr (.inr x)
 again:=by
  rintro n g w t ⟨_,⟨k,rfl,f,_⟩|⟨m,k,rfl,f,_⟩|⟨m,k,rfl,f,_⟩|⟨_,m,hq,_⟩|⟨_,m,k,rfl,f,_⟩|⟨_,m,k,rfl,f,_⟩|⟨_,m,hq,_⟩⟩ w' _
  .exact again_running _ (.inl (f.status O.runs.1))
  .exact again_running _ (.inl (f.status O.runs.2.1))
  .exact again_running _ (.inl (f.status O.runs.2.2.1))
  .exact again_running _ hq.status
  .exact again_running _ (.inl (f.status O.runs.2.2.2.1))
  .exact again_running _ (.inl (f.status O.runs.2.2.2.2))
  .exact again_running _ hq.status
 calm:=by
  intro n g w t w' u h H Q
  have C:Deaf (t++u) c=Deaf t c:=Deaf_quiet λop A8 d=>by
   have CX:=(Q op A8).1
   obtain⟨g,fn,pos,act⟩:=op
   simp only at CX
   cases act with
   |mark mm=>cases mm<;>simp[deafStep,CX]
   |_=>rfl
  obtain⟨hN,h⟩:=h
  refine⟨hN.calm (λl W=>(hW l W).1) Q,?_⟩
  rw[C]
  obtain⟨k,y,z,L,M⟩|⟨m,k,y,z,L,M,R⟩|⟨m,k,y,z,L,M,R⟩|⟨E,m,y,z,L⟩|⟨E,m,k,y,z,L,M,R⟩|⟨E,m,k,y,z,L,M,R⟩|⟨E,m,y,z,L⟩:=h
  .exact .inl ⟨k,y,z,L.keep hZ H,M⟩
  .exact .inr (.inl ⟨m,k,y,z,L.keep hZ H,M,R.calm Q⟩)
  .exact .inr (.inr (.inl ⟨m,k,y,z,L.keep hZ H,M,R.calm Q⟩))
  .exact .inr (.inr (.inr (.inl ⟨E,m,y,z.keep hZ H,L.calm Q⟩)))
  .exact .inr (.inr (.inr (.inr (.inl ⟨E,m,k,y,z,L.keep hZ H,M,R.calm Q⟩))))
  .exact .inr (.inr (.inr (.inr (.inr (.inl ⟨E,m,k,y,z,L.keep hZ H,M,R.calm Q⟩)))))
  .exact .inr (.inr (.inr (.inr (.inr (.inr ⟨E,m,y,z.keep hZ H,L.calm Q⟩)))))
 step:=by
  intro n g w t B h N K hB d
  have hc0:(c==0)=false:=by simpa using hc
  rw[hc0]
  refine .inl ?_
  obtain⟨hN,h⟩:=h
  have J:Js Z w (w.at d):=λ_ _=>rfl
  have A:∀{k:Nat} {T:m_},Ls P (DD r pre ty) false (k+1) g T->DD r pre ty (w.at d)->∃I,stepG P false g (w.at d)=.go I (w.at d) #[]/\Ls P (DD r pre ty) false k I T:=λf hJ=>by
   obtain⟨_,I,y,z⟩:=f
   exact⟨I,y _ hJ,z⟩
  obtain⟨k,rfl,f,q,C⟩|⟨m,k,rfl,f,q,C,G⟩|⟨m,k,rfl,f,q,C,G⟩|⟨E,m,hq,q,G⟩|⟨E,m,k,rfl,f,q,C,G⟩|⟨E,m,k,rfl,f,q,C,G⟩|⟨E,m,hq,q,G⟩:=h
  .cases k with
   |succ k=>
    obtain⟨I,y,z⟩:=A f (q.is d)
    exact⟨k+(o.k1+o.k2+o.k3+o.k4+o.nF+o.nP+10),I,w.at d,#[],wB,y,CS.at w d,⟨B,w_,hB,by rw[DY];exact K⟩,by rw[DY];exact⟨hN,.inl ⟨k,rfl,z,q.keep hZ J,C⟩⟩⟩
   |zero=>
    obtain rfl:g=o.gR:=f
    have p:r<B:=by have:=q.lt;omega
    have X:∀e∈#[P5 (stA r pre)],(MemAct.ofEvent e).touch?=none/\(MemAct.ofEvent e).low B:=by
     intro e a
     simp at a;subst a
     exact⟨rfl,p⟩
    refine⟨o.k1+(o.k2+o.k3+o.k4+o.nF+o.nP+8),o.gR',w.at d,_,wB,O.rel _,CS.at w d,⟨B,w_,hB,UQ K hM X⟩,FI hN (λe a b hb=>by rw[(X e a).1]at hb;cases hb),.inr (.inl ⟨t.size,o.k1,rfl,O.s1,q.keep hZ J,?_,?_⟩)⟩
    .rw[Deaf_own,C];rfl
    .have e0:(t++MemOp.ofEvents c o.gR.frame.fn o.gR.frame.place #[P5 (stA r pre)])[t.size]?=some { g:=c,fn:=o.gR.frame.fn,pos:=o.gR.frame.place,act:=.mark (.releaseMerge (stA r pre))}:=by
      have:=at_new t (MemOp.ofEvents c o.gR.frame.fn o.gR.frame.place #[P5 (stA r pre)]) 0
      rw[Nat.add_zero]at this
      rw[this,ofEvents_eq];simp[P5,MemAct.ofEvent]
     have Cm:(t++MemOp.ofEvents c o.gR.frame.fn o.gR.frame.place #[P5 (stA r pre)]).size=t.size+1:=(by rw[Array.size_append,ofEvents_eq];simp);refine⟨⟨_,e0,rfl,rfl⟩,by rw[deaf_old w_];exact C,λi b hi hb _=>?_,λk H e=>?_⟩
     .obtain⟨x,Y,Fp⟩:=touch_of hb;have:=lt_size_of_getElem? Y;obtain rfl:i=t.size:=wB;rw[e0]at Y;rw[<-x_ Y]at Fp;cases Fp
     .obtain⟨x,Y,_⟩:=lT.1 (show((t++MemOp.ofEvents c o.gR.frame.fn o.gR.frame.place #[P5 (stA r pre)])[k]?).map (·.act)=_ from e);have:=lt_size_of_getElem? Y;omega
  .cases k with
   |succ k=>
    obtain⟨I,y,z⟩:=A f (q.is d)
    exact⟨k+(o.k2+o.k3+o.k4+o.nF+o.nP+8),I,w.at d,#[],wB,y,CS.at w d,⟨B,w_,hB,by rw[DY];exact K⟩,by rw[DY];exact⟨hN,.inr (.inl ⟨m,k,rfl,z,q.keep hZ J,C,G⟩)⟩⟩
   |zero=>
    obtain rfl:g=o.gD:=f
    have X:∀e∈#[JA],(MemAct.ofEvent e).touch?=none/\(MemAct.ofEvent e).low B:=by
     intro e a
     simp at a;subst a
     exact⟨rfl,dE⟩
    have hn2:∀e∈#[JA],(MemAct.ofEvent e).touch?=none/\MemAct.ofEvent e≠.mark (.release (stA r pre)):=by
     intro e a
     simp at a;subst a
     exact⟨rfl,by simp[JA,MemAct.ofEvent]⟩
    refine⟨o.k2+(o.k3+o.k4+o.nF+o.nP+6),o.gD',w.at d,_,wB,O.ax _,CS.at w d,⟨B,w_,hB,UQ K hM X⟩,FI hN (λe a b hb=>by rw[(X e a).1]at hb;cases hb),.inr (.inr (.inl ⟨m,o.k2,rfl,O.s2,q.keep hZ J,?_,RV G hn2⟩))⟩
    rw[Deaf_own,C];rfl
  .cases k with
   |succ k=>
    obtain⟨I,y,z⟩:=A f (q.is d)
    exact⟨k+(o.k3+o.k4+o.nF+o.nP+6),I,w.at d,#[],wB,y,CS.at w d,⟨B,w_,hB,by rw[DY];exact K⟩,by rw[DY];exact⟨hN,.inr (.inr (.inl ⟨m,k,rfl,z,q.keep hZ J,C,G⟩))⟩⟩
   |zero=>
    obtain rfl:g=o.gA:=f
    have j:=q.keep hZ J
    have p:r<B:=by have:=q.lt;omega
    have F:∀e∈[(⟨.cell (stA r pre),false,true⟩:Event),⟨.cell (stA r pre),true,true⟩],(∀b,(MemAct.ofEvent e).touch?=some b->LY r pre b.loc/\b.kind=.atomic)/\(MemAct.ofEvent e).low B:=by
     intro e a
     simp at a
     obtain rfl|rfl:=a<;>exact⟨λb hb=>by obtain rfl:=x_ hb;exact⟨.inl rfl,rfl⟩,p⟩
    have v:∀e∈[(⟨.cell (stA r pre),false,true⟩:Event),⟨.cell (stA r pre),true,true⟩],(∀b,(MemAct.ofEvent e).touch?=some b->LY r pre b.loc/\b.kind=.atomic)/\MemAct.ofEvent e≠.mark (.release (stA r pre)):=by
     intro e a
     refine⟨(F e a).1,?_⟩
     simp at a
     obtain rfl|rfl:=a<;>simp[MemAct.ofEvent]
    have s:∀k,k < [(⟨.cell (stA r pre),false,true⟩:Event),⟨.cell (stA r pre),true,true⟩].length->deafBehind (Deaf t c) ([(⟨.cell (stA r pre),false,true⟩:Event),⟨.cell (stA r pre),true,true⟩].take k).toArray≠0:=by
     intro k H
     rw[C]
     simp only[List.length_cons,List.length_nil]at H
     obtain _|_|k:=k
     .simp[deafBehind]
     .simp[deafBehind]
     .omega
    have rM:∀e∈Ky (stA r pre),∀b,(MemAct.ofEvent e).touch?=some b->b.kind≠.plain:=λe a b hb=>by
     have:=((F e (by simpa [Ky]using a)).1 b hb).2
     rw[this];simp
    have U:Deaf (t++MemOp.ofEvents c o.gA.frame.fn o.gA.frame.place (Ky (stA r pre))) c=1:=(by rw[Deaf_own,C];rfl);cases w0 with
    |false=>
     simp only[jb,if_false]at q j
     refine⟨o.nF,o.gF,(w.at d).setCell (stA r pre) (.int .u64 0),Ky (stA r pre),wB,O.add0 _ j.cellSt j.QJ,Px hZ _ d,⟨B,w_,by rw[Il];exact hB,UR (l:=[_,_]) K hW hM hN F s⟩,FI hN rM,.inr (.inr (.inr (.inl ⟨rfl,m,?_,j.setSt 0,PG (l:=[_,_]) G v s⟩)))⟩
     rw[U];exact O.fin0
    |true=>
     simp only[if_true]at q j
     refine⟨o.k3+(o.k4+o.nP+4),o.gW,(w.at d).setCell (stA r pre) (.int .u64 1),Ky (stA r pre),wB,O.add1 _ j.cellSt j.QJ,Px hZ _ d,⟨B,w_,by rw[Il];exact hB,UR (l:=[_,_]) K hW hM hN F s⟩,FI hN rM,.inr (.inr (.inr (.inr (.inl ⟨rfl,m,o.k3,rfl,O.s3,j.setSt 1,U,PG (l:=[_,_]) G v s⟩))))⟩
  .cases n with
   |zero=>rw[hq.1]at N;cases N
   |succ n=>
    obtain⟨hf,_⟩|⟨_,T,es,D,BX,S⟩:=hq
    .rw[hf]at N;cases N
    .refine⟨n,T,w.at d,es,wB,BX _,CS.at w d,⟨B,w_,hB,UQ K hM (λe a=>⟨touch_mute (D e a),low_mute (D e a) B⟩)⟩,FI hN (λe a b hb=>by rw[touch_mute (D e a)]at hb;cases hb),.inr (.inr (.inr (.inl ⟨E,m,?_,q.keep hZ J,RV G (Wq D _)⟩)))⟩;rw[Deaf_own];exact S
  .cases k with
   |succ k=>
    obtain⟨_,I,l,W,y,z⟩:=f
    have p:r<B:=by have:=q.lt;omega
    have V:∀e∈l,e=(⟨.cell (stA r pre),false,true⟩:Event):=by
     intro e a
     obtain rfl|rfl:=W
     .cases a
     .simpa using a
    have F:∀e∈l,(∀b,(MemAct.ofEvent e).touch?=some b->LY r pre b.loc/\b.kind=.atomic)/\(MemAct.ofEvent e).low B:=by
     intro e a
     obtain rfl:=V e a
     exact⟨λb hb=>by obtain rfl:=x_ hb;exact⟨.inl rfl,rfl⟩,p⟩
    have v:∀e∈l,(∀b,(MemAct.ofEvent e).touch?=some b->LY r pre b.loc/\b.kind=.atomic)/\MemAct.ofEvent e≠.mark (.release (stA r pre)):=by
     intro e a
     refine⟨(F e a).1,?_⟩
     obtain rfl:=V e a
     simp[MemAct.ofEvent]
    have s:∀k,k<l.length->deafBehind (Deaf t c) (l.take k).toArray≠0:=by
     intro k H
     have:l.length<=1:=by obtain rfl|rfl:=W<;>simp
     obtain rfl:k=0:=wB
     rw[C];simp[deafBehind]
    refine⟨k+(o.k4+o.nP+4),I,w.at d,l.toArray,wB,y _ (q.keep hZ J),CS.at w d,⟨B,w_,hB,UR K hW hM hN F s⟩,FI hN (λe a b hb=>by
      have:=((F e (by simpa using a)).1 b hb).2
      rw[this];simp),.inr (.inr (.inr (.inr (.inl ⟨E,m,k,rfl,z,q.keep hZ J,?_,PG G v s⟩))))⟩;rw[Deaf_own,C];obtain rfl|rfl:=W<;>rfl
   |zero=>
    obtain rfl:g=o.gS:=f
    have j:=q.keep hZ J
    have p:r<B:=by have:=q.lt;omega
    have F:∀e∈[(⟨.cell (stA r pre),true,true⟩:Event)],(∀b,(MemAct.ofEvent e).touch?=some b->LY r pre b.loc/\b.kind=.atomic)/\(MemAct.ofEvent e).low B:=by
     intro e a
     simp at a
     subst a
     exact⟨λb hb=>by obtain rfl:=x_ hb;exact⟨.inl rfl,rfl⟩,p⟩
    have v:∀e∈[(⟨.cell (stA r pre),true,true⟩:Event)],(∀b,(MemAct.ofEvent e).touch?=some b->LY r pre b.loc/\b.kind=.atomic)/\MemAct.ofEvent e≠.mark (.release (stA r pre)):=by
     intro e a
     refine⟨(F e a).1,?_⟩
     simp at a
     subst a
     simp[MemAct.ofEvent]
    have s:∀k,k < [(⟨.cell (stA r pre),true,true⟩:Event)].length->deafBehind (Deaf t c) ([(⟨.cell (stA r pre),true,true⟩:Event)].take k).toArray≠0:=by
     intro k H
     rw[C]
     simp only[List.length_cons,List.length_nil]at H
     obtain _|k:=k
     .simp[deafBehind]
     .omega
    refine⟨o.k4+(o.nP+2),o.gS',(w.at d).setCell (stA r pre) (.int .u64 0),#[⟨.cell (stA r pre),true,true⟩],wB,O.sto _ j.cellSt j.QJ,Px hZ _ d,⟨B,w_,by rw[Il];exact hB,UR (l:=[_]) K hW hM hN F s⟩,FI hN (λe a b hb=>by
      have:=((F e (by simpa using a)).1 b hb).2
      rw[this];simp),.inr (.inr (.inr (.inr (.inr (.inl ⟨E,m,o.k4,rfl,O.s4,j.setSt 0,?_,PG (l:=[_]) G v s⟩)))))⟩;rw[Deaf_own,C];rfl
  .cases k with
   |succ k=>
    obtain⟨I,y,z⟩:=A f (q.is d)
    exact⟨k+(o.nP+2),I,w.at d,#[],wB,y,CS.at w d,⟨B,w_,hB,by rw[DY];exact K⟩,by rw[DY];exact⟨hN,.inr (.inr (.inr (.inr (.inr (.inl ⟨E,m,k,rfl,z,q.keep hZ J,C,G⟩)))))⟩⟩
   |zero=>
    obtain rfl:g=o.gP:=f
    have j:=q.keep hZ J
    have p:r<B:=by have:=q.lt;omega
    have F:∀e∈[(⟨.mark .disable,false,true⟩:Event),⟨.cell (smA r pre),false,true⟩,⟨.cell (smA r pre),true,true⟩,⟨.mark .enable,false,true⟩],(∀b,(MemAct.ofEvent e).touch?=some b->LY r pre b.loc/\b.kind=.atomic)/\(MemAct.ofEvent e).low B:=by
     intro e a
     simp at a
     obtain rfl|rfl|rfl|rfl:=a
     .exact⟨λb hb=>(by cases hb),dE⟩
     .exact⟨λb hb=>by obtain rfl:=x_ hb;exact⟨.inr rfl,rfl⟩,p⟩
     .exact⟨λb hb=>by obtain rfl:=x_ hb;exact⟨.inr rfl,rfl⟩,p⟩
     .exact⟨λb hb=>(by cases hb),dE⟩
    have v:∀e∈[(⟨.mark .disable,false,true⟩:Event),⟨.cell (smA r pre),false,true⟩,⟨.cell (smA r pre),true,true⟩,⟨.mark .enable,false,true⟩],(∀b,(MemAct.ofEvent e).touch?=some b->LY r pre b.loc/\b.kind=.atomic)/\MemAct.ofEvent e≠.mark (.release (stA r pre)):=by
     intro e a
     refine⟨(F e a).1,?_⟩
     simp at a
     obtain rfl|rfl|rfl|rfl:=a<;>simp[MemAct.ofEvent]
    have s:∀k,k < [(⟨.mark .disable,false,true⟩:Event),⟨.cell (smA r pre),false,true⟩,⟨.cell (smA r pre),true,true⟩,⟨.mark .enable,false,true⟩].length->deafBehind (Deaf t c) ([(⟨.mark .disable,false,true⟩:Event),⟨.cell (smA r pre),false,true⟩,⟨.cell (smA r pre),true,true⟩,⟨.mark .enable,false,true⟩].take k).toArray≠0:=by
     intro k H
     rw[C]
     simp only[List.length_cons,List.length_nil]at H
     obtain _|_|_|_|k:=k
     .simp[deafBehind]
     .simp[deafBehind]
     .simp[deafBehind]
     .simp[deafBehind]
     .omega
    refine⟨o.nP,o.gP',(w.at d).setCell (smA r pre) (.int .u32 1),semEvents (smA r pre),wB,O.sem _ j.cellSm j.uk,Px hZ _ d,⟨B,w_,by rw[Il];exact hB,UR (l:=[_,_,_,_]) K hW hM hN F s⟩,FI hN (λe a b hb=>by
      have:=((F e (by simpa [semEvents]using a)).1 b hb).2
      rw[this];simp),.inr (.inr (.inr (.inr (.inr (.inr ⟨E,m,?_,j.setSm 1,PG (l:=[_,_,_,_]) G v s⟩)))))⟩;rw[Deaf_own,C];exact O.fin1
  .cases n with
   |zero=>rw[hq.1]at N;cases N
   |succ n=>
    obtain⟨hf,_⟩|⟨_,T,es,D,BX,S⟩:=hq
    .rw[hf]at N;cases N
    .refine⟨n,T,w.at d,es,wB,BX _,CS.at w d,⟨B,w_,hB,UQ K hM (λe a=>⟨touch_mute (D e a),low_mute (D e a) B⟩)⟩,FI hN (λe a b hb=>by rw[touch_mute (D e a)]at hb;cases hb),.inr (.inr (.inr (.inr (.inr (.inr ⟨E,m,?_,q.keep hZ J,RV G (Wq D _)⟩)))))⟩;rw[Deaf_own];exact S
end
section
variable {Ad Still:Loc->Prop}{Mem Am:Nat->Prop}{B h:Nat}{t u:Trace}
def TY (Still:Loc->Prop)(c:Nat)(t:Trace):Prop:=∀i a,touchAt t i=some a->a.write=true->Still a.loc->Knows t c i
theorem TY.app (H:TY Still c t)(o:∀op∈u,∀b,op.act.touch?=some b->Still b.loc->b.write=false):TY Still c (t++u):=by
 intro i a j d f;obtain⟨x,k,e⟩:=touch_of j;obtain⟨_,g⟩|⟨_,h⟩:=getElem?_append_cases k
 .exact(H i a (by rw[touchAt_of g];exact e) d f).app u
 .rw[o x h a e f]at d;cases d
theorem PX.oN {g:Nat}(H:PX Ad Still Mem Am B h t)(A:TY Still g t)(z:¬Mem g)(hL:Am g)(y:∀op∈u,op.g=g)(v:∀op∈u,∀b,op.act.touch?=some b->b.write=false/\Still b.loc)
  (C:∀op∈u,op.act.low B):PX Ad Still Mem Am B h (t++u):=by
 refine⟨λsaid=>noRace_append (H.clean said) y λi a e op p b hb o=>?_,λi a e s=>?_,λi a e n r q m=>?_,H.Pv y (λx=>(z x).elim),seen_app H.seen C⟩
 .obtain⟨k,l⟩:=v op p b hb;obtain x|x:=o.2.2.1
  .exact A i a e x (o.1 ▸ l)
  .rw[k]at x;cases x
 .obtain⟨x,f,c⟩:=touch_of e;obtain⟨_,j⟩|⟨_,d⟩:=getElem?_append_cases f
  .exact H.old j c s
  .exact .inr (.inl ⟨.inl (v x d a c).1,(v x d a c).2,g,by rw[g?_of f,y x d],hL⟩)
 .obtain⟨x,f,c⟩:=touch_of e;obtain⟨_,j⟩|⟨_,d⟩:=getElem?_append_cases f
  .exact(H.wrote i a (by rw[touchAt_of j];exact c) n r q m).app u
  .rw[(v x d a c).1]at n;cases n
end
def am0 (w:o_)(cC:Array CommCase)(kq cq:Nat)(zq:n_):Prop:=
 cC[kq]?=some (rcase cq zq)/\(∃k,w.heap[cq]?=some (.chan 0 #[] true k k false))/\∀(m:Nat) cc,m≠kq->cC[m]?=some cc->GG w cc
def CO (P:l_)(c r:Nat)(pre:X_)(ty:j_)(o:SY)(Ph:Bool->Nat->m_->o_->Trace->Prop)(X:o_->Prop)(w0:Bool)(n:Nat)(g:m_)(w:o_)(t:Trace):Prop:=
 Ph w0 n g w t\/(iZ P c r pre ty o w0 n g w t/\X w)
def V3 (Z:Nat->Prop)(r:Nat)(X:o_->Prop):Prop:=∀w w':o_,X w->(∀x,x≠r->Z x->w'.heap[x]?=w.heap[x]?)->X w'
structure Ny (P:l_)(Z:Nat->Prop)(Ad Still:Loc->Prop)(Am:Nat->Prop)(c r:Nat)(pre:X_)(ty:j_)(o:SY)(Ph:Bool->Nat->m_->o_->Trace->Prop)(X:o_->Prop):Prop where
 status:∀{w0 n g w t},Ph w0 n g w t->g.status=.running/\0<n
 run:∀{w0 n g w t},Ph w0 n g w t->BC r pre ty w (if w0 then KK+1 else KK) 0
 calm:∀{w0 n g w t} (w':o_) (u:Trace),Ph w0 n g w t->Js Z w w'->Yn Ad Still c u->Ph w0 n g w' (t++u)
 mark:∀{w0 n g w t} {es:Array Event} {fn:h_} {pos:String} (d:Nat),(∀e∈es,(MemAct.ofEvent e).touch?=none/\∀a,MemAct.ofEvent e≠.mark (.release a))->Ph w0 n g w t->Ph w0 n g (w.at d) (t++MemOp.ofEvents 0 fn pos es)
 up:∀{n g w t} {fn:h_} {pos:String} (d:Nat),BC r pre ty w KK 0->Ph false n g w t->Ph true n g ((w.at d).setCell (stA r pre) (.int .u64 (KK+1))) (t++MemOp.ofEvents 0 fn pos (Ky (stA r pre)))
 step:∀{Mem:Nat->Prop} {w0 n g w t B},¬Mem c->Ph w0 n g w t->PX Ad Still Mem Am B 0 t->w.heap.size<=B->∀d,
  (∃n' g' w' es,n'<n/\stepG P false g (w.at d)=.go g' w' es/\CS Z w w'/\cf7 (λB t=>PX Ad Still Mem Am B 0 t) B w' (t++MemOp.ofEvents c g.frame.fn g.frame.place es)/\CO P c r pre ty o Ph X w0 n' g' w' (t++MemOp.ofEvents c g.frame.fn g.frame.place es))\/
  (∃n' g₂ cases shape es k cq z cap s r' tm,n'<n/\stepG P false g (w.at d)=.comm g₂ cases true shape (w.at d) es/\cases[k]?=some (rcase cq z)/\w.heap[cq]?=some (.chan cap #[] true s r' tm)/\(∀(m:Nat) cc,m≠k->cases[m]?=some cc->GG w cc)/\
   PX Ad Still Mem Am B 0 (t++(MemOp.ofEvents c g.frame.fn g.frame.place es++#[{ g:=c,fn:=g₂.frame.fn,pos:=g₂.frame.place,act:=.recvClosed cq}]))/\
   CO P c r pre ty o Ph X w0 n' (Conc.served g₂ (commResult cases shape k z false)) (w.at d) (t++(MemOp.ofEvents c g.frame.fn g.frame.place es++#[{ g:=c,fn:=g₂.frame.fn,pos:=g₂.frame.place,act:=.recvClosed cq}])))
 low:∀{w0 n g w t d g' w' es st'},Ph w0 n g w t->stepG P false g (w.at d)=.go g' w' es->BC r pre ty w' st' 1->False
 keep:V3 Z r X
def vJ (P:l_)(c r:Nat)(pre:X_)(ty:j_)(o:SY)(K:o_->Prop)(Still:Loc->Prop)(cC:Array CommCase)(home:m_->Prop)(kq cq:Nat)(zq:n_)(kR:Nat)(w0:Bool)(n:Nat)(g:m_)(w:o_)(t:Trace):Prop:=
 ∃k,n=k+1+(kR+(o.k1+o.k2+o.k3+o.k4+o.nF+o.nP+10))/\KI c r pre t/\K w/\am0 w cC kq cq zq/\BC r pre ty w (if w0 then KK+1 else KK) 0/\Deaf t c=0/\TY Still c t/\g.status=.running/\Ho P false K Still cC .select home k g
section
variable {P:l_}{Z:Nat->Prop}{Ad Still:Loc->Prop}{Mem Am:Nat->Prop}{r:Nat}{pre:X_}{ty:j_}{c B:Nat}{t:Trace}{o:SY}{w0:Bool}{K:o_->Prop}{cC:Array CommCase}{home:m_->Prop}{kq cq kR:Nat}{zq:n_}{Ph:Bool->Nat->m_->o_->Trace->Prop}{X:o_->Prop}
theorem RS (O:O3 P r pre ty o)(R:Z r)(T:∀l,LY r pre l->Ad l/\¬Still l)(U:c≠0)(S:¬Mem c)(hX:V3 Z r X):
  G8 P Z Ad Still (λB t=>PX Ad Still Mem Am B 0 t) c (λn g w t=>iZ P c r pre ty o w0 n g w t/\X w):=by
 have A:=ba6 (Z:=λx=>x=r) (Ad:=Ad) (Still:=Still) (Mem:=Mem) (Am:=Am) (ty:=ty) (w0:=w0) O rfl T U S;have q:∀{w f:o_},Js Z w f->Js (λx=>x=r) w f:=λi x v=>by subst v;exact i _ R
 refine⟨λh=>A.status h.1,λh f i=>A.again h.1 f (q i),λf u h i K=>⟨A.calm f u h.1 (q i) K,hX _ _ h.2 λx _ L=>i x L⟩,?_⟩;rintro n g w t B ⟨h,hq⟩ E F hB d;obtain⟨y,J,f,p,a1,a2,b,j,m⟩|⟨y,a,C,D,p,a1,a2,b,j,m⟩|⟨y,a,C,D,p,k,I,z,cap,s,M,N,a1,a2,b,j,m,G,H⟩:=A.step h E F hB d
 .exact .inl ⟨y,J,f,p,a1,a2,⟨b.size,λx v=>b.same x (λe=>v (by rw[e];exact R)),b.os,b.output,b.tape⟩,j,m,hX _ _ hq λx v _=>b.same x v⟩
 .exact .inr (.inl ⟨y,a,C,D,p,a1,a2,b,j,m,hX _ _ hq λ_ _ _=>rfl⟩)
 .exact .inr (.inr ⟨y,a,C,D,p,k,I,z,cap,s,M,N,a1,a2,b,j,m,G,H,hX _ _ hq λ_ _ _=>rfl⟩)
theorem PE (H:Ny P Z Ad Still Am c r pre ty o Ph X)(O:O3 P r pre ty o)(R:Z r)(N:∀l,LY r pre l->Ad l/\¬Still l)(M:c≠0)(L:¬Mem c):
  G8 P Z Ad Still (λB t=>PX Ad Still Mem Am B 0 t) c (CO P c r pre ty o Ph X w0) where
 status:=by
  rintro n g w t (h|h)
  .exact .inl (H.status h)
  .exact(RS (Z:=Z) (Ad:=Ad) (Still:=Still) (Mem:=Mem) (Am:=Am) O R N M L H.keep).status h
 again:=by
  rintro n g w t (h|h) b p
  .exact again_running _ (.inl (H.status h).1)
  .exact(RS (Z:=Z) (Ad:=Ad) (Still:=Still) (Mem:=Mem) (Am:=Am) O R N M L H.keep).again h b p
 calm:=by
  rintro n g w t b u (h|h) p A
  .exact .inl (H.calm b u h p A)
  .exact .inr ((RS (Z:=Z) (Ad:=Ad) (Still:=Still) (Mem:=Mem) (Am:=Am) O R N M L H.keep).calm b u h p A)
 step:=by
  rintro n g w t B (h|h) C y hB d
  .have v:(c==0)=false:=(by simpa using M);rw[v];exact(H.step L h y hB d).imp id .inr
  .obtain⟨m,G,b,j,a1,a2,e,f,i⟩|⟨m,a,q,x,j,a1,a2,e,f,i⟩|⟨m,a,q,x,j,k,F,z,cap,s,I,J,a1,a2,e,f,i,D,E⟩:=(RS (Z:=Z) (Ad:=Ad) (Still:=Still) (Mem:=Mem) (Am:=Am) O R N M L H.keep).step h C y hB d
   .exact .inl ⟨m,G,b,j,a1,a2,e,f,.inr i⟩
   .exact .inr (.inl ⟨m,a,q,x,j,a1,a2,e,f,.inr i⟩)
   .exact .inr (.inr ⟨m,a,q,x,j,k,F,z,cap,s,I,J,a1,a2,e,f,i,D,.inr E⟩)
theorem gy (h:Yn Ad Still c u):Deaf (t++u) c=Deaf t c:=Deaf_quiet λop e d=>by
 have b:=(h op e).1;obtain⟨g,fn,pos,a⟩:=op;simp only at b;cases a with
 |mark f=>cases f<;>simp[deafStep,b]
 |_=>rfl
theorem oJ {h:Obj}(p:BC r pre ty w st sm)(f:w.heap[x]?=some h)(b:∀cells ty at_,h≠.cells cells ty at_)(v:n_)(d:Nat):((w.at d).setCell (stA r pre) v).heap[x]?=some h:=by
 have a:r≠x:=λe=>by subst e;unfold BC at p;rw[p]at f;exact b _ _ _ (x_ f).symm
 simp[World.setCell,World.at,stA,iF,a,f]
theorem bb8 (L:Tz Z Still K)(hzC:∀cc∈cC,∀c z,cc=rcase c z->Z c)(hZ:Z r)(hW:∀l,LY r pre l->Ad l/\¬Still l)(hc:c≠0)(hL:Am c)
  (hR:∀g₂,home g₂->Ls P (DD r pre ty) false kR (Conc.served g₂ (commResult cC .select kq zq false)) o.gR) (hKs:∀w (n:Int) d,K w->K ((w.at d).setCell (stA r pre) (.int .u64 n))):
  Ny P Z Ad Still Am c r pre ty o (vJ P c r pre ty o K Still cC home kq cq zq kR) (λ_=>True) where
 status:=by
  rintro T n g w t ⟨k,rfl,_,_,_,_,_,_,p,_⟩
  exact⟨p,wB⟩
 run:=by
  rintro T n g w t ⟨k,_,_,_,_,h,_⟩
  exact h
 calm:=by
  rintro T n g w t w' u ⟨k,A,v,f,⟨E,⟨D,F⟩,N⟩,q,y,s,I,j⟩ W hu
  refine⟨k,A,v.calm (λl hl=>(hW l hl).1) hu,L.keep w w' W f,⟨E,⟨D,?_⟩,λm cc hm U=>?_⟩,q.keep hZ W,(gy hu).trans y,s.app λop a b hb p=>(((hu op a).2.1 b hb).1 p).1,I,j⟩
  .rw[W cq (hzC _ (Array.mem_of_getElem? E) _ _ rfl)];exact F
  .obtain⟨V,z',k'',e,hc'⟩:=N m cc hm U;exact⟨V,z',k'',e,by rw[W V (hzC _ (Array.mem_of_getElem? U) _ _ e)];exact hc'⟩
 mark:=by
  rintro T n g w t Q fn pos d G ⟨k,A,v,f,h4,q,y,s,I,j⟩
  have O:Js Z w (w.at d):=λ_ _=>rfl
  refine⟨k,A,v.app λop a b hb _=>?_,L.keep w _ O f,h4,q.keep hZ O,by rw[Deaf_other t (g':=0) (gJ hc) _ Yv];exact y,s.app λop a b hb=>?_,I,j⟩
  .obtain⟨e,J,rfl⟩:=p_ a;rw[(G e J).1]at hb;cases hb
  .obtain⟨e,J,rfl⟩:=p_ a;rw[(G e J).1]at hb;cases hb
 up:=by
  rintro n g w t fn pos d C ⟨k,A,v,f,⟨E,⟨D,F⟩,N⟩,q,y,s,I,j⟩
  have GM:∀op∈MemOp.ofEvents 0 fn pos (Ky (stA r pre)),op.act.touch?=some ⟨.cell (stA r pre),false,.atomic⟩\/op.act.touch?=some ⟨.cell (stA r pre),true,.atomic⟩:=by
   intro op a
   obtain⟨e,J,rfl⟩:=p_ a
   simp only[Ky,eu,r_,lG,or_false]at J
   obtain rfl|rfl:=J
   .exact .inl rfl
   .exact .inr rfl
  refine⟨k,A,v.app λop a b hb _=>?_,hKs _ _ _ f,⟨E,⟨D,oJ C F sJ _ d⟩,λm cc hm U=>?_⟩,BC.setSt (w:=w.at d) C _,by rw[Deaf_other t (g':=0) (gJ hc) _ Yv];exact y,s.app λop a b hb p=>?_,I,j⟩
  .obtain e|e:=GM op a<;>(rw[e]at hb;obtain rfl:=x_ hb;simp)
  .obtain⟨V,z',k2,e,h⟩:=N m cc hm U;exact⟨V,z',k2,e,oJ C h sJ _ d⟩
  .obtain e|e:=GM op a<;>(rw[e]at hb;obtain rfl:=x_ hb)
   .rfl
   .exact((hW _ (.inl rfl)).2 p).elim
 step:=by
  rintro Mem T n g w t B Y ⟨k,rfl,v,f,⟨E,⟨D,F⟩,N⟩,q,y,s,I,j⟩ LQ hB d
  have H:K (w.at d):=L.keep w (w.at d) (λ_ _=>rfl) f
  cases k with
  |zero=>
   obtain⟨g₂,Q,hh,hr,G,X⟩:=j
   obtain⟨M,r2,r3⟩:=Jf (B:=B) (i:=c) (fn:=g.frame.fn) (pos:=g.frame.place) L f hB G
   have sQ:=LQ.oN s Y hL Yv M r3
   have hcB:cq<B:=by have:=(y_.1 F).1;omega
   have R:∀op∈(#[{ g:=c,fn:=g₂.frame.fn,pos:=g₂.frame.place,act:=.recvClosed cq}]:Trace),op.g=c/\op.act.touch?=none/\op.act.low B/\(∀d,deafStep c d op=d):=by
    intro op a
    simp only[eu,r_,lG,or_false]at a
    subst a
    exact⟨rfl,rfl,hcB,λ_=>rfl⟩
   refine .inr ⟨kR+(o.k1+o.k2+o.k3+o.k4+o.nF+o.nP+10),g₂,cC,.select,Q,kq,cq,zq,0,D,D,false,wB,X _ H,E,F,N,?_,.inr ⟨⟨?_,.inl ⟨kR,rfl,hR g₂ hh,q.keep hZ (λ_ _=>rfl),?_⟩⟩,dE⟩⟩
   .rw[<-Array.append_assoc];exact sQ.appMute (λop a=>(R op a).1) (λop a=>(R op a).2.1) (λx=>(Y x).elim) (λop a=>(R op a).2.2.1)
   .rw[<-Array.append_assoc];refine(v.app λop a b hb S=>?_).app λop a b hb _=>by rw[(R op a).2.1]at hb;cases hb
    exact((hW _ S).2 (M op a b hb).2).elim
   .rw[<-Array.append_assoc,Deaf_quiet (λop a d=>(R op a).2.2.2 d),r2 t];exact y
  |succ k=>
   obtain⟨g',Q,hr,G,X,hw'⟩:=j
   obtain⟨M,r2,r3⟩:=Jf (B:=B) (i:=c) (fn:=g.frame.fn) (pos:=g.frame.place) L f hB G
   refine .inl ⟨k+1+(kR+(o.k1+o.k2+o.k3+o.k4+o.nF+o.nP+10)),g',w.at d,Q,wB,X _ H,CS.at w d,⟨B,w_,hB,LQ.oN s Y hL Yv M r3⟩,.inl ⟨k,rfl,?_,H,⟨E,⟨D,F⟩,N⟩,q.keep hZ (λ_ _=>rfl),(r2 t).trans y,s.app λop a b hb _=>(M op a b hb).1,hr,hw'⟩⟩
   exact v.app λop a b hb S=>((hW _ S).2 (M op a b hb).2).elim
 low:=by
  rintro T n g w t d g' w' Q st' ⟨k,_,_,f,_,q,_,_,_,j⟩ p A
  have O:Js Z w (w.at d):=λ_ _=>rfl
  have H:K (w.at d):=L.keep w (w.at d) O f
  cases k with
  |zero=>obtain⟨g₂,CP,_,_,_,IQ⟩:=j;rw[IQ _ H]at p;cases p
  |succ k=>
   obtain⟨g1,CP,_,_,hgo,_⟩:=j
   rw[hgo _ H]at p
   injection p with _ S _
   subst S
   exact qx ((q.keep hZ O).eq A).2 sN
 keep:=λ_ _ _ _=>trivial
def cf8 (_:Bool)(_:Nat)(_:m_)(_:o_)(_:Trace):Prop:=False
theorem bo3:Ny P Z Ad Still Am c r pre ty o cf8 (λ_=>True):=
 ⟨λh=>h.elim,λh=>h.elim,λ_ _ h=>h.elim,λ_ _ h=>h.elim,λ_ _ h=>h.elim,λ_ h=>h.elim,λh=>h.elim,λ_ _ _ _=>trivial⟩
theorem CS.sub (b:∀x,Z x->Z' x)(h:CS Z w w'):CS Z' w w':=⟨h.size,λx a=>h.same x (λe=>a (b x e)),h.os,h.output,h.tape⟩
theorem Ny.sub (H:Ny P Z Ad Still Am c r pre ty o Ph X)(s:∀x,Z x->Z' x):Ny P Z' Ad Still Am c r pre ty o Ph X:=
 ⟨H.status,H.run,λa u h b n=>H.calm a u h (λx e=>b x (s x e)) n,H.mark,H.up,λl h f hB d=>(H.step l h f hB d).imp (λ⟨q,k,a,j,a1,a2,g,i⟩=>⟨q,k,a,j,a1,a2,g.sub s,i⟩) id,H.low,λw a e b=>H.keep w a e λx m p=>b x m (s x p)⟩
theorem yf (H:Ny P Z Ad Still Am c r pre ty o Ph X)(O:O3 P r pre ty o)(U:Z r)(T:∀l,LY r pre l->Ad l/\¬Still l)(V:c≠0)(S:¬Mem c)(R:∀x,Z x->Z' x)(N:∀w w':o_,X2 w->(∀x,¬Z x->Z' x->w'.heap[x]?=w.heap[x]?)->X2 w'):
  G8 P Z' Ad Still (λB t=>PX Ad Still Mem Am B 0 t) c (λn g w t=>CO P c r pre ty o Ph X w0 n g w t/\X2 w):=by
 have q:=PE (Mem:=Mem) (w0:=w0) H O U T V S;have m:∀{w w':o_},Js Z' w w'->Js Z w w':=λe x y=>e x (R x y)
 refine⟨λh=>q.status h.1,λh w' e=>q.again h.1 w' (m e),λw' u h e J=>⟨q.calm w' u h.1 (m e) J,N _ _ h.2 λx _ K=>e x K⟩,?_⟩;rintro n g w t B ⟨h,hq⟩ C D hB d;obtain⟨p,I,w',j,a1,a2,b,f,i⟩|⟨p,a,v,A,j,a1,a2,b,f,i⟩|⟨p,a,v,A,j,k,G,z,cap,s,L,M,a1,a2,b,f,i,E,F⟩:=q.step h C D hB d
 .exact .inl ⟨p,I,w',j,a1,a2,b.sub R,f,i,N _ _ hq λx y _=>b.same x y⟩
 .exact .inr (.inl ⟨p,a,v,A,j,a1,a2,b,f,i,N _ _ hq λ_ _ _=>rfl⟩)
 .exact .inr (.inr ⟨p,a,v,A,j,k,G,z,cap,s,L,M,a1,a2,b,f,i,E,F,N _ _ hq λ_ _ _=>rfl⟩)
def Fb (δ:Nat)(By:Nat->m_->o_->Trace->Prop)(n:Nat)(g:m_)(w:o_)(t:Trace):Prop:=By n g w t/\Deaf t 0=δ
theorem xY (f:Yn Ad Still j u):Deaf (t++u) 0=Deaf t 0:=Deaf_quiet λop c d=>by
 have b:=(f op c).2.2.2;obtain⟨g,fn,pos,a⟩:=op;cases a with
 |mark e=>
  cases e with
  |disable=>have:=b (.inl rfl);simp only at this;simp[deafStep,this]
  |enable=>have:=b (.inr rfl);simp only at this;simp[deafStep,this]
  |_=>rfl
 |_=>rfl
theorem U3 {δ:Nat}{G:Nat->Trace->Prop}{F:Nat->m_->o_->Trace->Prop}(E:j≠0)(O:G8 P Z Ad Still G j F):G8 P Z Ad Still G j (Fb δ F) where
 status h:=O.status h.1
 again h:=O.again h.1
 calm q u h hk hu:=⟨O.calm q u h.1 hk hu,(xY hu).trans h.2⟩
 step:=by
  rintro n g w t B ⟨h,o⟩ r v hB d
  obtain⟨l,g',q,i,a1,a2,c,e,f⟩|⟨l,a,m,p,i,a1,a2,c,e,f⟩|⟨l,a,m,p,i,k,A,z,cap,s,C,D,a1,a2,c,e,f,x,y⟩:=O.step h r v hB d
  .exact .inl ⟨l,g',q,i,a1,a2,c,e,f,by rw[Deaf_other t (g':=j) E _ Yv];exact o⟩
  .exact .inr (.inl ⟨l,a,m,p,i,a1,a2,c,e,f,by rw[Deaf_other t (g':=j) E _ Yv];exact o⟩)
  .refine .inr (.inr ⟨l,a,m,p,i,k,A,z,cap,s,C,D,a1,a2,c,e,f,x,y,?_⟩);rw[Deaf_other t (g':=j) E _ (λop b=>by
    obtain b|b:=Array.mem_append.1 b
    .exact Yv op b
    .simp at b;subst b;rfl)]
   exact o
theorem ba5 {t:Trace}(h:iZ P c r pre ty o w0 n g w t):DD r pre ty w:=by
 obtain⟨_,⟨_,_,_,h,_⟩|⟨_,_,_,_,h,_⟩|⟨_,_,_,_,h,_⟩|⟨_,_,_,h,_⟩|⟨_,_,_,_,_,h,_⟩|⟨_,_,_,_,_,h,_⟩|⟨_,_,_,h,_⟩⟩:=h<;>exact⟨_,_,h⟩
theorem Zj (H:Ny P Z Ad Still Am c r pre ty o Ph X){t:Trace}(h:CO P c r pre ty o Ph X w0 n g w t):DD r pre ty w:=by
 obtain h|h:=h
 .exact⟨_,_,H.run h⟩
 .exact ba5 h.1
theorem Ie {h j:Nat}{R:Nat->m_->o_->Trace->Prop}{J:o_->Prop}(V:∀n b w t,R n b w t->∀d,J (w.at d))(O:G8 P Z Ad Still (fun B t=>PX Ad Still Mem Am B h t) j R){T:m_}:∀(k:Nat){a:m_}(_:Ls P J (h==0) k a T){n B:Nat}{gs:Array m_}{w:o_}{sl:d_ (W_)}{t:Trace}{q:Nat->Nat},
  gs[h]?=some a->Duo P Ad Still Mem Am B h j R n gs w t q->AX P gs w sl t λS w' t'=>∃Y W U,S[h]?=some T/\CS Z w w'/\B<=U/\Duo P Ad Still Mem Am U h j R W S w' t' Y
 |0,a,g,n,B,gs,w,sl,t,q,e,D=>.now ⟨q,n,B,by rw[e,show a=T from g],CS.refl w,w_,D⟩
 |k+1,a,g,n,B,gs,w,sl,t,q,e,D=>by
  obtain⟨r,a1,s,v⟩:=g
  refine go_duo (Me:=Mem) (Loose':=Am) O e r D D.mem λp f w1 c G L N y hB z d=>⟨a1,w1.at d,#[],p,s _ (V _ _ _ _ hB d),w_,c,by rw[DY];exact z,R,G,?_,λS Y W M x u I=>?_⟩
  .rw[DY,woken_of_again (O.again hB (w1.at d) (λ_ _=>rfl))];have:=O.calm (w1.at d) #[] hB (λ_ _=>rfl) (λop o=>by simp at o);simpa using this
  .exact(Ie V O k v x u).mono λm K H ⟨l,i,B'',A,C,E,F⟩=>⟨l,i,B'',A,y.trans ((CS.at w1 d).trans C),lN f E,F⟩
end
section
variable {P:l_}{Z:Nat->Prop}{Ad Still:Loc->Prop}{Mem Am:Nat->Prop}{r:Nat}{pre:X_}{ty:j_}{c B:Nat}{t:Trace}{o:SY}{w0:Bool}{X:o_->Prop}{Ph:Bool->Nat->m_->o_->Trace->Prop}{K K1:o_->Prop}{TT:Trace->Prop}{cC:Array CommCase}{home:m_->Prop}{kq cq kR:Nat}{zq:n_}
theorem gG (f:∀x,¬Still (.obj x))(h:cq<B):∀e∈closeEvents cq,aN Ad Still B e:=by
 intro e b;simp only[closeEvents,eu,r_,lG,or_false]at b;obtain rfl|rfl:=b
 .refine⟨λx a=>?_,sJ,sJ,h,sJ⟩;obtain rfl:=x_ a;exact⟨λc=>(f _ c).elim,λ_=>sJ⟩
 .exact⟨λx a=>(by cases a),sJ,sJ,h,sJ⟩
theorem JI {b:Bool}:((w.at d).setChan x 0 #[] b k k false).heap.size=w.heap.size:=by simp[World.setChan,World.at]
theorem Nk (f:Z cq)(w:o_)(d k:Nat)(b:Bool):CS Z w ((w.at d).setChan cq 0 #[] b k k false):=by
 refine⟨by simp[World.setChan,World.at],λx a=>?_,rfl,rfl,rfl⟩;have:cq≠x:=λe=>a (e ▸ f)
 simp[World.setChan,World.at,z_ this]
theorem yg (L1:Tz Z Still K1)(hK1:∀w,K1 w->K w)(hT:dV Ad Still c TT)(hc:c≠0)(hSo:∀x,¬Still (.obj x))(hzC:∀cc∈cC,∀c z,cc=rcase c z->Z c)(hLc:Am c)
  (hTT:∀t,TT t->KI c r pre t) (da4:∀w,K1 w->BC r pre ty w KK 0) (hKq:∀w k,K w->K (w.setChan cq 0 #[] true k k false)) (hrq:r≠cq)
  (hkq:cC[kq]?=some (rcase cq zq)) (hoq:∀(m:Nat) cc,m≠kq->cC[m]?=some cc->cc.chan≠.chan (some cq))
  (bx4:∀g₂,home g₂->Ho P false K Still cC .select home 0 { parked g₂ cC .select with status:=.running})
  {a a':m_} (hwake:mayWake P a=true) (ha':a'.status=.running) (BJ:a.status=.running)
  (hclose:∀(w1:o_) k,K1 w1->w1.heap[cq]?=some (.chan 0 #[] false k k false)->∀d,stepG P true a (w1.at d)=.go a' ((w1.at d).setChan cq 0 #[] true k k false) (closeEvents cq))
  {n:Nat} {gs:Array m_} {w:o_} {sl:d_ (W_)} {q:Nat->Nat} (h0:gs[0]?=some a) (D:Duo P Ad Still (λg=>g=0\/g=c) Am B 0 c (O0 P (c==0) K K1 TT Still cC .select home) n gs w t q):
  AX P gs w sl t λBA w' t'=>∃q' n' B',BA[0]?=some a'/\CS Z w w'/\B<=B'/\Duo P Ad Still (λg=>g=0) Am B' 0 c (CO P c r pre ty o (vJ P c r pre ty o K Still cC home kq cq zq kR) (λ_=>True) false) n' BA w' t' q':=by
 have T:(c==0)=false:=by simpa using hc
 refine go_duo (Me:=λg=>g=0) (Loose':=Am) (X0 L1 hK1 hT hzC (.inr rfl) hLc) h0 BJ D (λg V=>.inl V) λN F w1 Cm n1 b1 X ho hB A d=>?_
 obtain⟨⟨S,lu⟩,s,QG⟩:=hB;rw[T]at QG;obtain⟨f,z',k,e',y⟩:=s _ (Array.mem_of_getElem? hkq);have:f=cq:=by simp[rcase]at e';exact e'.1.symm
 subst this;have M:Z f:=hzC _ (Array.mem_of_getElem? hkq) _ _ rfl;have U:f<N:=by have:=(y_.1 y).1;omega
 have Y:=gG (Ad:=Ad) (Still:=Still) hSo U;have R:=(A.own (fn:=a.frame.fn) (pos:=a.frame.place) Y).fewer (Me:=λg=>g=0) λg V=>.inl V
 have O:Yn Ad Still c (MemOp.ofEvents 0 a.frame.fn a.frame.place (closeEvents f)):=Gn (gJ hc) Y;have j:∀x,x≠f->((w1.at d).setChan f 0 #[] true k k false).heap[x]?=w1.heap[x]?:=λx W=>by
  simp[World.setChan,World.at,z_ (gJ W)]
 have l:((w1.at d).setChan f 0 #[] true k k false).heap[f]?=some (.chan 0 #[] true k k false):=by
  have:=(y_.1 y).1
  simp[World.setChan,World.at,this]
 have p:am0 ((w1.at d).setChan f 0 #[] true k k false) cC kq f zq:=by
  refine⟨hkq,⟨k,l⟩,λm cc hm GX=>?_⟩
  obtain⟨c2,z2,k2,e2,h2⟩:=s cc (Array.mem_of_getElem? GX)
  refine⟨c2,z2,k2,e2,?_⟩
  rw[j c2 (λe=>hoq m cc hm GX (by rw[e2,e];rfl))]
  exact h2
 have I:BC r pre ty ((w1.at d).setChan f 0 #[] true k k false) (if false=true then KK+1 else KK) 0:=by
  unfold BC;rw[j r hrq];exact da4 _ S
 have G:Deaf (X++MemOp.ofEvents 0 a.frame.fn a.frame.place (closeEvents f)) c=0:=by
  rw[Deaf_other X (g':=0) (gJ hc) _ Yv];exact A.hears c (.inr rfl)
 have L:TY Still c (X++MemOp.ofEvents 0 a.frame.fn a.frame.place (closeEvents f)):=by
  refine TY.app (λi x W C hS=>A.wrote i x W C ⟨hS,hT.ss _ hS⟩ c (.inr rfl)) λop s b hb E=>(((O op s).2.1 b hb).1 E).1
 have υ:K ((w1.at d).setChan f 0 #[] true k k false):=hKq _ _ (hK1 _ (L1.keep w1 (w1.at d) (λ_ _=>rfl) S));refine⟨a',(w1.at d).setChan f 0 #[] true k k false,closeEvents f,N,hclose w1 k S y d,w_,by rw[JI];exact Cm,R,CO P c r pre ty o (vJ P c r pre ty o K Still cC home kq f zq kR) (λ_=>True) false,?_⟩;have H:=(hTT _ lu).calm (Ad:=LY r pre) (Still:=Still) (c:=c) (λ_ h=>h) (u:=MemOp.ofEvents 0 a.frame.fn a.frame.place (closeEvents f)) (λop s=>by
  refine⟨(O op s).1,λb hb=>?_,(O op s).2.2⟩
  have h1:=((O op s).2.1 b hb).1
  obtain⟨e,he,rfl⟩:=p_ s
  simp only[closeEvents,eu,r_,lG,or_false]at he
  obtain rfl|rfl:=he
  .obtain rfl:=x_ hb;exact⟨λE=>⟨(h1 E).1,λC=>by obtain e|e:=C<;>cases e⟩,λ_=>sJ⟩
  .cases hb)
 obtain⟨rfl,g₂,rfl,hh,hr⟩|⟨k2,rfl,E,C⟩:=QG
 .refine⟨_,.inl ⟨0,rfl,H,υ,p,I,G,L,?_⟩,λBA q' n' J v Q Em=>.now ⟨q',n',N,v,(ho.trans (Nk M w1 d k true)),F,Q⟩⟩;have C:woken P a a' ((w1.at d).setChan f 0 #[] true k k false) (parked g₂ cC .select)={ parked g₂ cC .select with status:=.running}:=by
   unfold woken
   simp only[hwake,ha',Bool.true_and]
   rw[rW sN]
   exact again_some_closed hkq l
  rw[C];exact⟨rfl,bx4 g₂ hh⟩
 .refine⟨_,.inl ⟨k2,rfl,H,υ,p,I,G,L,?_⟩,λBA q' n' J v Q Em=>.now ⟨q',n',N,v,(ho.trans (Nk M w1 d k true)),F,Q⟩⟩;rw[woken_run E];exact⟨E,C⟩
theorem ac2 {Z0:Nat->Prop}(H:Ny P Z0 Ad Still Am c r pre ty o Ph X)(O:O3 P r pre ty o)(W:Z0 r)(hW:∀l,LY r pre l->Ad l/\¬Still l)(Y:c≠0)(V:∀x,¬Still (.obj x))(hzq:Z cq)(hqn:¬Z0 cq)
  {a S:m_} (BJ:a.status=.running) {k:Nat} (U:∀w,X2 w->w.heap[cq]?=some (.chan 0 #[] false k k false)) (R:∀(w1:o_),w1.heap[cq]?=some (.chan 0 #[] false k k false)->∀d,stepG P true a (w1.at d)=.go S ((w1.at d).setChan cq 0 #[] true k k false) (closeEvents cq))
  {n:Nat} {gs:Array m_} {w:o_} {sl:d_ (W_)} {q:Nat->Nat} (h0:gs[0]?=some a)
  (OB:G8 P Z Ad Still (λB t=>PX Ad Still (λg=>g=0) Am B 0 t) c (λn g w t=>CO P c r pre ty o Ph X false n g w t/\X2 w))
  (D:Duo P Ad Still (λg=>g=0) Am B 0 c (λn g w t=>CO P c r pre ty o Ph X false n g w t/\X2 w) n gs w t q):
  AX P gs w sl t λT w' t'=>∃q' n' B',T[0]?=some S/\CS Z w w'/\B<=B'/\Duo P Ad Still (λg=>g=0) Am B' 0 c (CO P c r pre ty o Ph X false) n' T w' t' q':=by
 refine go_duo (Me:=λg=>g=0) (Loose':=Am) OB h0 BJ D (λg J=>.inl J) λh j w1 E M y Q K hB p d=>?_
 obtain⟨b,G⟩:=hB;have f:=U _ G;have m:cq<h:=by have:=(y_.1 f).1;omega
 have u:=gG (Ad:=Ad) (Still:=Still) V m;have I:Yn Ad Still c (MemOp.ofEvents 0 a.frame.fn a.frame.place (closeEvents cq)):=Gn (gJ Y) u;have v:=PE (w0:=false) (Mem:=λg=>g=0) H O W hW Y (λe=>Y e);have z:Js Z0 w1 ((w1.at d).setChan cq 0 #[] true k k false):=λx L=>by
  have C:cq≠x:=λe=>hqn (e ▸ L)
  simp[World.setChan,World.at,z_ C]
 refine⟨S,(w1.at d).setChan cq 0 #[] true k k false,closeEvents cq,h,R w1 f d,w_,by rw[JI];exact E,p.own u,CO P c r pre ty o Ph X false,M,?_,λT q' n' A i F N=>.now ⟨q',n',h,i,(K.trans (Nk hzq w1 d k true)),j,F⟩⟩;have s:woken P a S ((w1.at d).setChan cq 0 #[] true k k false) y=y:=woken_of_again (v.again b _ z);rw[s];exact v.calm _ _ b z I
end
def Gi (P:l_)(c r:Nat)(pre:X_)(ty:j_)(X:o_->Prop)(sm:Int)(n:Nat)(g:m_)(w:o_)(t:Trace):Prop:=
 KI c r pre t/\∃m,QuitsD P n (Deaf t c) g/\(BC r pre ty w 0 sm/\X w)/\OU c r pre m t
def ay8 (P:l_)(r:Nat)(pre:X_)(ty:j_)(LG g:m_):Prop:=
 ∃k1 gE gE' k2 gQ gQ' k3,Ls P (DD r pre ty) true k1 g gE/\gE.status=.running/\(∀w,stepG P true gE w=.go gE' w #[MJ])/\Ls P (DD r pre ty) true k2 gE' gQ/\gQ.status=.running/\(∀w,stepG P true gQ w=.go gQ' w #[RG (stA r pre)])/\Ls P (DD r pre ty) true k3 gQ' LG
def ai7 (P:l_)(r:Nat)(pre:X_)(ty:j_)(LG g:m_):Prop:=
 ∃k gL gL0,Ls P (DD r pre ty) true k g gL/\gL.status=.running/\(∀w,w.cell? (stA r pre)=some (.int .u64 0)->stepG P true gL w=.go gL0 w #[⟨.cell (stA r pre),false,true⟩])/\ay8 P r pre ty LG gL0
section
variable {P:l_}{Z:Nat->Prop}{Ad Still:Loc->Prop}{Mem Am:Nat->Prop}{r:Nat}{pre:X_}{ty:j_}{c:Nat}{o:SY}{w0:Bool}{sm:Int}{LG:m_}{X:o_->Prop}{Pn:Loc->Prop}
theorem zf (hX:V3 Z r X)(f:Z r)(h:BC r pre ty w st sm/\X w)(b:Js Z w w'):BC r pre ty w' st sm/\X w':=⟨h.1.keep f b,hX _ _ h.2 λx _ a=>b x a⟩
theorem U2 (hX:V3 Z r X)(J:Z r)(L:∀l,LY r pre l->Ad l/\¬Still l)(M:c≠0)(K:¬Mem c):G8 P Z Ad Still (λB t=>PX Ad Still Mem Am B 0 t) c (Gi P c r pre ty X sm) where
 status:=by
  rintro n g w t ⟨_,m,hq,_⟩
  cases n with
  |zero=>exact .inr (.inr hq.1)
  |succ n=>exact hq.status.elim (λx=>.inl ⟨x,wB⟩) λx=>.inr (.inr x)
 again:=by
  rintro n g w t ⟨_,m,hq,_⟩ I _
  exact again_running _ hq.status
 calm:=by
  rintro n g w t I u ⟨hN,m,hq,p,k⟩ F q
  have D:Deaf (t++u) c=Deaf t c:=Deaf_quiet λop v d=>by
   have s:=(q op v).1
   obtain⟨g,fn,pos,i⟩:=op
   simp only at s
   cases i with
   |mark H=>cases H<;>simp[deafStep,s]
   |_=>rfl
  exact⟨hN.calm (λl G=>(L l G).1) q,m,by rw[D];exact hq,zf hX J p F,k.calm q⟩
 step:=by
  rintro n g w t B ⟨hN,m,hq,p,k⟩ f z hB d
  have j:(c==0)=false:=by simpa using M
  rw[j]
  cases n with
  |zero=>rw[hq.1]at f;cases f
  |succ n=>
   obtain⟨E,_⟩|⟨_,C,A,a,y,o⟩:=hq
   .rw[E]at f;cases f
   .refine .inl ⟨n,C,w.at d,A,wB,y _,CS.at w d,⟨B,w_,hB,UQ z K (λe h=>⟨touch_mute (a e h),low_mute (a e h) B⟩)⟩,FI hN (λe h b hb=>by rw[touch_mute (a e h)]at hb;cases hb),m,?_,zf hX J p (λ_ _=>rfl),RV k (Wq a _)⟩;rw[Deaf_own];exact o
def YM (P:l_)(Z:Nat->Prop)(Ad:Loc->Prop)(X:o_->Prop)(B:Nat)(LG:m_)(w:o_)(BA:Array m_)(w':o_)(t':Trace):Prop:=
 ∃(q':Nat->Nat) (B':Nat),BA[0]?=some LG/\CS Z w w'/\B<=B'/\Leavers P t' BA q'/\Past Ad B' t'/\w'.heap.size<=B'/\X w'
theorem gq (hS0:∀l,Ad l->¬Still l->Pn l)(hX:V3 Z r X)(hZ:Z r)(hW:∀l,LY r pre l->Ad l/\¬Still l)(hc:c≠0)(hF:ay8 P r pre ty LG g){sl:d_ (W_)}
  (h0:gs[0]?=some g) (D:Duo P Ad Still (λ_=>False) (λg=>g=c) B 0 c (Fb 1 (Gi P c r pre ty X 0)) n gs w t q):AX P gs w sl t (YM P Z Pn X B LG w):=by
 obtain⟨k1,M,T,k2,s,U,k3,s1,hE,R,s2,hQ,C,s3⟩:=hF;have Q:∀δ n b w t,Fb δ (Gi P c r pre ty X 0) n b w t->∀d,DD r pre ty (w.at d):=λδ n b w t h d=>h.1.2.choose_spec.2.1.1.is d
 have z:∀δ L,G8 P Z Ad Still (λB t=>PX Ad Still (λ_=>False) L B 0 t) c (Fb δ (Gi P c r pre ty X 0)):=λδ L=>U3 hc (U2 hX hZ hW hc id)
 refine(Ie (Q 1) (z 1 _) k1 s1 h0 D).bind λgs1 w1 JL t1 hz1 ⟨q1,n1,B1,h1,o1,b1,D1⟩=>?_
 refine go_duo (Me:=λ_=>False) (Loose':=λg=>g=c) (z 1 _) h1 hE D1 (λ_ o=>o.elim) λBp hBp w2 I n2 x2 t2 o2 u hp2 d=>?_
 have Y:Deaf (t2++MemOp.ofEvents 0 M.frame.fn M.frame.place #[MJ]) 0=0:=by rw[Deaf_own,u.2];rfl
 have W:Gi P c r pre ty X 0 n2 x2 (w2.at d) (t2++MemOp.ofEvents 0 M.frame.fn M.frame.place #[MJ]):=by
  obtain⟨hN,m,hq,hr,hm⟩:=u.1
  refine⟨FI hN (λe f b hb=>by simp at f;subst f;cases hb),m,?_,zf hX hZ hr (λ_ _=>rfl),hm.app (λop p=>?_) (λk op b hk o _=>?_)⟩
  .rw[Deaf_other t2 (g':=0) (gJ hc) _ Yv];exact hq
  .obtain⟨e,f,rfl⟩:=p_ p;simp at f;subst f;simp[MJ,MemAct.ofEvent]
  .have:=Yv op (Array.mem_of_getElem? hk);omega
 refine⟨T,w2.at d,#[MJ],Bp,R _,w_,I,hp2.appMute Yv (λop p=>by obtain⟨e,f,rfl⟩:=p_ p;simp at f;subst f;rfl) (λx=>x.elim) (λop p=>by obtain⟨e,f,rfl⟩:=p_ p;simp at f;subst f;trivial),
  Fb 0 (Gi P c r pre ty X 0),n2,⟨?_,Y⟩,λgs3 q3 n3 hz3 h3 D3 sl3=>?_⟩
 .have BX:=(U2 (P:=P) (Z:=Z) (Ad:=Ad) (Still:=Still) (Mem:=λ_=>False) (Am:=λg=>g=c) (ty:=ty) (sm:=0) hX hZ hW hc id).again u.1 (w2.at d) (λ_ _=>rfl);rw[woken_of_again BX];exact W
 refine(Ie (Q 0) (z 0 _) k2 s2 h3 D3).bind λgs4 w4 Ob t4 hz4 ⟨q4,n4,B4,h4,o4,b4,D4⟩=>?_
 refine go_duo (Me:=λ_=>False) (Loose':=λg=>g=c/\g≠c) (z 0 _) h4 hQ D4 (λ_ o=>o.elim) λO hBq N J n5 x5 t5 o5 V hp5 K=>?_
 obtain⟨⟨A,m,G,v,j⟩,E⟩:=V;have hrB:(stA r pre).block<O:=by have:=v.1.lt;show r<O;omega
 have F:MemOp.ofEvents 0 s.frame.fn s.frame.place #[RG (stA r pre)]=#[{ g:=0,fn:=s.frame.fn,pos:=s.frame.place,act:=.mark (.acquire (stA r pre))}]:=by
  rw[ofEvents_eq];simp[RG,MemAct.ofEvent]
 obtain⟨op,p,hog,hoa⟩:=j.at_;have hpx:=hp5.acquire (a:=stA r pre) E p hog hoa j.heard (λi b hi hgi _ _ _=>by
  obtain BL|hge:=Nat.lt_or_ge i m
  .exact .inl BL
  .obtain⟨x1,x2,x3⟩:=j.after i b hge hi hgi;exact .inr ⟨(hW _ x1).1,⟨x2,(hW _ x1).2⟩,x3⟩) j.norel s.frame.fn s.frame.place hrB
 have S:Gi P c r pre ty X 0 n5 x5 (N.at K) (t5++MemOp.ofEvents 0 s.frame.fn s.frame.place #[RG (stA r pre)]):=by
  refine⟨FI A (λe f b hb=>by simp at f;subst f;cases hb),m,?_,zf hX hZ v (λ_ _=>rfl),j.app (λop p=>?_) (λk op b hk o _=>?_)⟩
  .rw[Deaf_other t5 (g':=0) (gJ hc) _ Yv];exact G
  .obtain⟨e,f,rfl⟩:=p_ p;simp at f;subst f;simp[RG,MemAct.ofEvent]
  .have:=Yv op (Array.mem_of_getElem? hk);omega
 have H:=(U2 (P:=P) (Z:=Z) (Ad:=Ad) (Still:=Still) (Mem:=λ_=>False) (Am:=λg=>g=c) (ty:=ty) (sm:=0) hX hZ hW hc id).again ⟨A,m,G,v,j⟩ (N.at K) (λ_ _=>rfl);refine⟨U,N.at K,#[RG (stA r pre)],O,C _,w_,J,by rw[F];exact hpx,Fb 0 (Gi P c r pre ty X 0),n5,⟨by rw[woken_of_again H];exact S,by rw[Deaf_own,E];rfl⟩,λgs6 q6 n6 hz6 h6 D6 Fh=>?_⟩;refine(Ie (Q 0) (z 0 _) k3 s3 h6 D6).mono λgs7 w7 t7 ⟨q7,n7,B7,h7,o7,b7,y⟩=>?_
 obtain⟨b,hb,⟨hN7,m7,hq7,hr7,hm7⟩,hd7⟩:=y.idle;refine⟨upd q7 c n7,B7,h7,o1.trans (o2.trans ((CS.at w2 d).trans (o4.trans (o5.trans ((CS.at N K).trans o7))))),wB,⟨λi g hi o=>?_,y.above⟩,y.tr.toPast hd7 (λg o=>o.2 o.1) hS0,y.size,hr7.2⟩;by_cases e:i=c
 .subst e;rw[hb]at o;obtain rfl:=x_ o;rw[upd_same];exact hq7
 .rw[upd_ne q7 n7 e];exact y.JP i g wB e o
theorem Vm (f:∀l,LY r pre l->Ad l/\¬Still l)(p:r<B)(h:LY r pre (.cell a))(hb:a.block=r)(wr:Bool):aN Ad Still B ⟨.cell a,wr,true⟩:=by
 refine⟨λx c=>?_,sJ,sJ,?_,sJ⟩
 .obtain rfl:=x_ c;exact⟨λb=>((f _ h).2 b).elim,λ_=>sJ⟩
 .show a.block<B;omega
theorem ZN (hS0:∀l,Ad l->¬Still l->Pn l)(hX:V3 Z r X)(hZ:Z r)(hW:∀l,LY r pre l->Ad l/\¬Still l)(hc:c≠0)(hF:ai7 P r pre ty LG g){sl:d_ (W_)}
  (h0:gs[0]?=some g) (D:Duo P Ad Still (λ_=>False) (λg=>g=c) B 0 c (Fb 1 (Gi P c r pre ty X 0)) n gs w t q):AX P gs w sl t (YM P Z Pn X B LG w):=by
 obtain⟨k,gL,p,V,hL,f,s⟩:=hF;have E:∀δ n b w t,Fb δ (Gi P c r pre ty X 0) n b w t->∀d,DD r pre ty (w.at d):=λδ n b w t h d=>h.1.2.choose_spec.2.1.1.is d
 have m:∀δ,G8 P Z Ad Still (λB t=>PX Ad Still (λ_=>False) (λg=>g=c) B 0 t) c (Fb δ (Gi P c r pre ty X 0)):=λδ=>U3 hc (U2 hX hZ hW hc id)
 refine(Ie (E 1) (m 1) k V h0 D).bind λF w1 JL t1 L ⟨q1,n1,Y,H,S,b1,A⟩=>?_
 refine go_duo (Me:=λ_=>False) (Loose':=λg=>g=c) (m 1) H hL A (λ_ K=>K.elim) λo J w2 j R x2 t2 T a u d=>?_
 have i:BC r pre ty w2 0 0:=a.1.2.choose_spec.2.1.1;have v:r<o:=by have:=i.lt;omega
 have x:∀e∈#[(⟨.cell (stA r pre),false,true⟩:Event)],aN Ad Still o e:=by
  intro e y
  simp at y;subst y
  exact Vm hW v (.inl rfl) rfl false
 refine⟨p,w2.at d,_,o,f _ (i.keep hZ (λ_ _=>rfl)).cellSt,w_,j,u.own x,Fb 1 (Gi P c r pre ty X 0),R,?_,λG q3 n3 M I C W=>?_⟩
 .rw[woken_of_again ((m 1).again a (w2.at d) (λ_ _=>rfl))];exact(m 1).calm (w2.at d) _ a (λ_ _=>rfl) (Gn (gJ hc) x)
 .refine(gq hS0 hX hZ hW hc s I C).mono λBA w' t' ⟨U,z,N,O,j3,Q⟩=>⟨U,z,N,S.trans (T.trans ((CS.at w2 d).trans O)),wB,Q⟩
end
end Go.Fxa
namespace Go.Fxa
open Go.Conc
open Go.ConcN (sumTo upd sumTo_upd upd_ne upd_same)
set_option maxRecDepth 1000000
set_option maxHeartbeats 0
variable {g g':m_}{w:o_}{n:Nat}{t:Trace}{st:Int}
def YC (a:f_):Event:=⟨.mark (.write a),false,true⟩
section
variable {P:l_}{Z:Nat->Prop}{Ad Still:Loc->Prop}{Mem Am:Nat->Prop}{r:Nat}{pre:X_}{ty:j_}{c:Nat}{o:SY}{Ph:Bool->Nat->m_->o_->Trace->Prop}{X:o_->Prop}
theorem bP (h:g.status≠.blocked\/g.offers=none)(x:Nat)(b:Bool):offersAt g x b=[]:=by
 obtain h|h:=h
 .exact offersAt_of_not_blocked h _ _
 .unfold offersAt;rw[h];cases g.status<;>rfl
theorem NY {gs:Array m_}{i x:Nat}{send:Bool}(hb:∀k g,k≠i->gs[k]?=some g->g.status≠.blocked\/g.offers=none):partners (gs.setIfInBounds i ph) x send=[]:=by
 refine partners_nil λk g c=>?_
 obtain⟨rfl,rfl⟩|⟨b,a⟩:=getElem?_stand gs i k g c
 .exact offersAt_ph _ _
 .exact bP (hb k g b a) _ _
theorem Ve {k:Nat}(h:Ls P (DD r pre ty) false (k+1) g g')(d:DD r pre ty w):∃b,stepG P false g w=.go b w #[]:=by
 obtain⟨_,b,a,_⟩:=h;exact⟨b,a w d⟩
theorem ϭ (H:Ny P Z Ad Still Am c r pre ty o Ph X)(O:O3 P r pre ty o)(A:Z r){w':o_}{d:Nat}{es:Array Event}{D:Int}(h:CO P c r pre ty o Ph X true n g w t)
  (B:BC r pre ty w st 0) (z:stepG P false g (w.at d)=.go g' w' es) (C:BC r pre ty w' D 1):mayWake P g=true/\g'.status=.running:=by
 have p:Js Z w (w.at d):=λ_ _=>rfl
 have b:∀{q:Array Event} {j:m_},stepG P false g (w.at d)=.go j (w.at d) q->False:=by
  intro q j u
  rw[u]at z
  injection z with _ v _
  subst v
  exact qx ((B.keep A p).eq C).2 sN
 have s:∀{q:Array Event} {j:m_} {x:Int},stepG P false g (w.at d)=.go j ((w.at d).setCell (stA r pre) (.int .u64 x)) q->False:=by
  intro q j x u
  rw[u]at z
  injection z with _ v _
  subst v
  exact qx (((B.keep A p).setSt x).eq C).2 sN
 obtain h|⟨⟨_,⟨k,rfl,a,i,_⟩|⟨m,k,rfl,a,i,_,_⟩|⟨m,k,rfl,a,i,_,_⟩|⟨v,_⟩|⟨_,m,k,rfl,a,i,_,_⟩|⟨_,m,k,rfl,a,i,_,_⟩|⟨_,m,_,i,_⟩⟩,_⟩:=h
 .exact(H.low h z C).elim
 .cases k with
  |zero=>obtain rfl:g=o.gR:=a;exact(b (O.rel _)).elim
  |succ k=>obtain⟨j,e⟩:=Ve a (i.is d);exact(b e).elim
 .cases k with
  |zero=>obtain rfl:g=o.gD:=a;exact(b (O.ax _)).elim
  |succ k=>obtain⟨j,e⟩:=Ve a (i.is d);exact(b e).elim
 .cases k with
  |zero=>
   obtain rfl:g=o.gA:=a
   have f:=i.keep A p
   simp only[if_true]at f
   exact(s (O.add1 _ f.cellSt f.QJ)).elim
  |succ k=>obtain⟨j,e⟩:=Ve a (i.is d);exact(b e).elim
 .cases v
 .cases k with
  |zero=>
   obtain rfl:g=o.gS:=a
   have f:=i.keep A p
   exact(s (O.sto _ f.cellSt f.QJ)).elim
  |succ k=>obtain⟨_,j,l,_,e,_⟩:=a;exact(b (e _ (i.keep A p))).elim
 .cases k with
  |zero=>
   obtain rfl:g=o.gP:=a
   have f:=i.keep A p
   have u:=O.sem _ f.cellSm f.uk
   rw[u]at z
   injection z with y _ _
   subst y
   exact O.wake
  |succ k=>obtain⟨j,e⟩:=Ve a (i.is d);exact(b e).elim
 .exact qx (B.eq i).2 sN
theorem yt (H:Ny P Z Ad Still Am c r pre ty o Ph X)(O:O3 P r pre ty o)(h:CO P c r pre ty o Ph X true n g w t)(e:BC r pre ty w st 0):g.status=.running:=by
 obtain h|⟨⟨_,⟨k,rfl,a,_⟩|⟨m,k,rfl,a,_⟩|⟨m,k,rfl,a,_⟩|⟨d,_⟩|⟨_,m,k,rfl,a,_⟩|⟨_,m,k,rfl,a,_⟩|⟨_,m,_,b,_⟩⟩,_⟩:=h
 .exact(H.status h).1
 .exact a.status O.runs.1
 .exact a.status O.runs.2.1
 .exact a.status O.runs.2.2.1
 .cases d
 .exact a.status O.runs.2.2.2.1
 .exact a.status O.runs.2.2.2.2
 .exact qx (e.eq b).2 sN
theorem jv (H:Ny P Z Ad Still Am c r pre ty o Ph X)(h:CO P c r pre ty o Ph X true n g w t):(∃st,BC r pre ty w st 0)\/Gi P c r pre ty X 1 n g w t:=by
 obtain h|⟨⟨hN,⟨k,rfl,b,a,_⟩|⟨m,k,rfl,b,a,_⟩|⟨m,k,rfl,b,a,_⟩|⟨e,_⟩|⟨_,m,k,rfl,b,a,_⟩|⟨_,m,k,rfl,b,a,_⟩|⟨_,m,hq,a,d⟩⟩,hX⟩:=h
 .exact .inl ⟨_,H.run h⟩
 .exact .inl ⟨_,a⟩
 .exact .inl ⟨_,a⟩
 .exact .inl ⟨_,a⟩
 .cases e
 .exact .inl ⟨_,a⟩
 .exact .inl ⟨_,a⟩
 .exact .inr ⟨hN,m,hq,⟨a,hX⟩,d⟩
theorem bb5 {B:Nat}(f:∀l,LY r pre l->Ad l/\¬Still l)(h:r<B)(H:PX Ad Still (λ_=>False) Am B 0 t)(fn:h_)(pos:String):PX Ad Still (λ_=>False) Am B 0 (t++MemOp.ofEvents 0 fn pos (semEvents (smA r pre))):=by
 refine H.appH Yv (λop c b hb=>?_) (λx=>x.elim) (λop c=>?_)
 .obtain⟨e,a,rfl⟩:=p_ c;simp only[semEvents,eu,r_,lG,or_false]at a;obtain rfl|rfl|rfl|rfl:=a
  .cases hb
  .obtain rfl:=x_ hb;exact⟨λd=>((f _ (.inr rfl)).2 d).elim,λ_=>sJ⟩
  .obtain rfl:=x_ hb;exact⟨λd=>((f _ (.inr rfl)).2 d).elim,λ_=>sJ⟩
  .cases hb
 .obtain⟨e,a,rfl⟩:=p_ c;simp only[semEvents,eu,r_,lG,or_false]at a;obtain rfl|rfl|rfl|rfl:=a
  .trivial
  .exact h
  .exact h
  .trivial
theorem an8 (HP:Ny P Z Ad Still (fun g=>g=c) c r pre ty o Ph X)(O:O3 P r pre ty o)(hZ:Z r)(hW:∀l,LY r pre l->Ad l/\¬Still l)(hc:c≠0)(OC:G8 P Z Ad Still (fun B t=>PX Ad Still (fun _=>False) (fun g=>g=c) B 0 t) c (CO P c r pre ty o Ph X true))
  {fr:Frame} {cs:Z_} {mS':m_} (hhit:∀w,w.cell? (smA r pre)=some (.int .u32 1)->w.frozen? (smA r pre)=false->stepG P true (G fr cs) w=.go mS' (w.setCell (smA r pre) (.int .u32 0)) (semEvents (smA r pre)))
  (hmiss:∀w,w.cell? (smA r pre)=some (.int .u32 0)->stepG P true (G fr cs) w=.go { G fr cs with status:=.blocked} w #[]):
  ∀(M n:Nat)(gs:Array m_)(a:m_)(w:o_)(sl:d_ (W_))(t:Trace)(q:Nat->Nat)(B:Nat),2*(n+sumTo gs.size q)+(if a.status=.running then 1 else 0)<M->gs[0]?=some a->(a=G fr cs\/(a={ G fr cs with status:=.blocked}/\∃st,BC r pre ty w st 0))->
   Duo P Ad Still (λ_=>False) (λg=>g=c) B 0 c (Fb 1 (CO P c r pre ty o Ph X true)) n gs w t q->
   AX P gs w sl t λBA w' t'=>∃q' n' B',B<=B'/\BA[0]?=some mS'/\CS Z w w'/\Duo P Ad Still (λ_=>False) (λg=>g=c) B' 0 c (Fb 1 (Gi P c r pre ty X 0)) n' BA w' t' q':=by
 have OD:=U3 (δ:=1) hc OC;intro M
 induction M with
 |zero=>intro n gs a w sl t q B hX;omega
 |succ M ih=>
  intro n gs a w sl t q B hX U V D
  obtain⟨b,hb,hB⟩:=D.idle
  have hcl:c<gs.size:=(y_.1 hb).1
  have h0l:0<gs.size:=(y_.1 U).1
  have da2:a.status=.running\/a.status=.blocked:=by obtain rfl|⟨rfl,_⟩:=V<;>simp[G]
  have cn1:a.offers=none:=by obtain rfl|⟨rfl,_⟩:=V<;>rfl
  have haw:∀g∈gs,awake g:=by
   intro g hg
   obtain⟨i,hi,rfl⟩:=Array.mem_iff_getElem.1 hg
   have N9:=v_ hi
   by_cases e1:i=0
   .subst e1;rw[U]at N9;rw[<-x_ N9];exact awake_of (da2.imp id .inl)
   .by_cases e2:i=c
    .subst e2;rw[hb]at N9;rw[<-x_ N9];exact awake_of ((OD.status hB).elim (λx=>.inl x.1) .inr)
    .exact awake_of ((D.JP i _ e1 e2 N9).status.elim .inl λx=>.inr (.inr x))
  have hsome:∃(i:Nat) (g:m_),gs[i]?=some g/\g.status=.running:=by
   obtain rfl|⟨rfl,st,A⟩:=V
   .exact⟨0,_,U,rfl⟩
   .exact⟨c,b,hb,yt HP O hB.1 A⟩
  obtain⟨i,g,d,J,hi,hg,BX⟩:=crowd_pick (P:=P) (w:=w) (sl:=sl) haw hsome;have BL:i<gs.size:=(y_.1 hi).1;have L:Js Z w (w.at d):=λ_ _=>rfl
  by_cases e1:i=0
  ·
   subst e1;obtain rfl:g=a:=(by rw[U]at hi;exact(x_ hi).symm);obtain rfl:g=G fr cs:=by
    obtain h|⟨rfl,_⟩:=V
    .exact h
    .cases hg
   obtain⟨st,A⟩|v:=jv HP hB.1
   ·
    have I:=runT_crowd_go (P:=P) (sl:=J) (i:=0) hi (show stepG P (0==0) (G fr cs) (w.at d)=_ from hmiss _ (A.keep hZ L).cellSm);have hnw:∀x,woken P (G fr cs) { G fr cs with status:=.blocked} (w.at d) x=x:=λx=>by unfold woken;simp
    have hmap:(gs.map (woken P (G fr cs) { G fr cs with status:=.blocked} (w.at d)))=gs:=by
     have:woken P (G fr cs) { G fr cs with status:=.blocked} (w.at d)=id:=funext hnw
     rw[this];simp
    rw[hmap]at I;have E:(gs.setIfInBounds 0 { G fr cs with status:=.blocked}).size=gs.size:=sJ;obtain⟨N,BA,w',S,t',Q,R,q',n',B',jB,Y,j2,j3⟩:=ih n (gs.setIfInBounds 0 { G fr cs with status:=.blocked}) { G fr cs with status:=.blocked} (w.at d) J t q B (by rw[E];simp[G]at hX ⊢;omega) (by simp[h0l]) (.inr ⟨rfl,st,A.keep hZ L⟩)
     ⟨D.ne,D.zero,D.mem,⟨b,by rw[z_ (gJ hc)];exact hb,by have:=OD.calm (w.at d) #[] hB L (λop p=>by simp at p);simpa using this⟩,λx y F u f=>by
      rw[z_ (gJ F)]at f
      exact D.JP x y F u f,λx f=>D.above x (by simpa using f),D.tr,D.size⟩;refine⟨N+1,BA,w',S,t',?_,R.trans E,q',n',B',jB,Y,(CS.at w d).trans j2,j3⟩;simp only[runNT,BX,I];rw[DY];exact Q
   ·
    obtain⟨hN,m,hq,⟨A,hXw⟩,hm⟩:=v;have hrd:=A.keep hZ L;have I:=runT_crowd_go (P:=P) (sl:=J) (i:=0) hi (show stepG P (0==0) (G fr cs) (w.at d)=_ from hhit _ hrd.cellSm hrd.uk);have hbw:woken P (G fr cs) mS' ((w.at d).setCell (smA r pre) (.int .u32 0)) b=b:=woken_of_again (again_running _ hq.status);have hlow:r<B:=(by have:=A.lt;have:=D.size;omega);have K:=Px (w:=w) (a:=smA r pre) hZ (.int .u32 0) d;refine⟨1,(gs.map (woken P (G fr cs) mS' ((w.at d).setCell (smA r pre) (.int .u32 0)))).setIfInBounds 0 mS',(w.at d).setCell (smA r pre) (.int .u32 0),J,t++MemOp.ofEvents 0 (G fr cs).frame.fn (G fr cs).frame.place (semEvents (smA r pre)),by simp only[runNT,BX,I],sJ,q,n,B,w_,by simp[h0l],K,⟨D.ne,D.zero,D.mem,⟨b,by rw[z_ (gJ hc),ik,hb];simp[hbw],?_,?_⟩,λx y F u f=>?_,λx f=>?_,bb5 hW hlow D.tr _ _,by rw[Il];exact D.size⟩⟩
    .refine⟨hN.app λop p x f hw=>?_,m,?_,⟨hrd.setSm 0,HP.keep _ _ hXw λx f _=>?_⟩,hm.app (λop p=>?_) (λk op x hk hg' _=>?_)⟩
     .obtain⟨e,W,rfl⟩:=p_ p;simp only[semEvents,eu,r_,lG,or_false]at W;obtain rfl|rfl|rfl|rfl:=W
      .cases f
      .obtain rfl:=x_ f;simp
      .obtain rfl:=x_ f;simp
      .cases f
     .rw[Deaf_other t (g':=0) (gJ hc) _ Yv];exact hq
     .simp[World.setCell,World.at,smA,iF,gJ f]
     .obtain⟨e,W,rfl⟩:=p_ p;simp only[semEvents,eu,r_,lG,or_false]at W;obtain rfl|rfl|rfl|rfl:=W<;>simp[MemAct.ofEvent]
     .have:=Yv op (Array.mem_of_getElem? hk);omega
    .rw[Deaf_own,hB.2];rfl
    .rw[z_ (gJ F),ik]at f;obtain⟨z,hz,rfl⟩:=lT.1 f;have hqx:=D.JP x z F u hz;rw[woken_quitsD hqx,Deaf_other t (g':=0) (gJ F) _ Yv];exact hqx
    .rw[Deaf_other t (g':=0) (by simp at f;omega) _ Yv];exact D.above x (by simpa using f)
  ·
   have wok:∀(x x':m_)(w':o_),woken P x x' w' a=a\/woken P x x' w' a=G fr cs:=by
    intro x x' w'
    obtain rfl|⟨rfl,_⟩:=V
    .exact .inl (woken_run rfl)
    .unfold woken;split
     .right;rfl
     .left;rfl
   have dg0:(if a.status=.running then 1 else 0)<=1:=by split<;>omega
   have ak7:∀x:m_,(if x.status=.running then 1 else 0)<=1:=λx=>by split<;>omega
   by_cases e2:i=c
   .subst e2;obtain rfl:g=b:=(by rw[hb]at hi;exact(x_ hi).symm);have nob:∀k y,k≠i->gs[k]?=some y->y.status≠.blocked\/y.offers=none:=by
     intro k y hk hy
     by_cases e3:k=0
     .subst e3;rw[U]at hy;rw[<-x_ hy];exact .inr cn1
     .have:=(D.JP k y e3 hk hy).status;obtain h1|h1:=this<;>exact .inl (by rw[h1];simp)
    have hi0:(i==0)=false:=(by simpa using hc);obtain⟨n',g',w',T,hn,hgo,K,⟨Bu,hBu,hsu,LQ⟩,H⟩|⟨n',j,cases,shape,T,hn,IQ,p,LQ,H⟩|⟨n',j,cases,shape,T,k,cx,z,cap,s,rr,tm,hn,IQ,hk,hcl',p,LQ,H⟩:=OD.step hB hg D.tr D.size d
    .have I:=runT_crowd_go (P:=P) (sl:=J) (i:=i) hi hgo;have E:((gs.map (woken P g g' w')).setIfInBounds i g').size=gs.size:=sJ;obtain⟨N,BA,PN,S,t',Q,R,q',C,B',jB,Y,j2,j3⟩:=ih n' ((gs.map (woken P g g' w')).setIfInBounds i g') (woken P g g' w' a) w' J (t++MemOp.ofEvents i g.frame.fn g.frame.place T) q Bu (by rw[E];have:=ak7 (woken P g g' w' a);omega)
      (by rw[z_ hc,ik,U];rfl) (by
       obtain rfl|⟨rfl,st,A⟩:=V
       .exact .inl (woken_run rfl)
       .obtain hr0|v:=jv HP H.1
        .obtain e|e:=wok g g' w'
         .exact .inr ⟨e,hr0⟩
         .exact .inl e
        .obtain⟨_,m,_,⟨Ia,_⟩,_⟩:=v;rw[hi0]at hgo;obtain⟨hwk,hgr⟩:=ϭ HP O hZ hB.1 A hgo Ia;refine .inl ?_;unfold woken;simp only[hwk,hgr,Bool.true_and];rw[rW sN]
         rfl)
      ⟨D.ne,D.zero,D.mem,⟨g',by simp[BL],H⟩,λx y F u f=>by
       rw[z_ (gJ u),ik]at f
       obtain⟨z,hz,rfl⟩:=lT.1 f
       have hq:=D.JP x z F u hz
       rw[woken_quitsD hq,Deaf_other t (gJ u) _ Yv];exact hq,λx f=>by
       rw[Deaf_other t (g':=i) (by simp at f;omega) _ Yv];exact D.above x (by simpa using f),LQ,hsu⟩
     exact⟨N+1,BA,PN,S,t',by simp only[runNT,BX,I];exact Q,R.trans E,q',C,B',lN hBu jB,Y,K.trans j2,j3⟩
    .have I:=crowd_waits (P:=P) (sl:=J) (i:=i) hi IQ (λcc GX=>by
      obtain⟨c',z,k,rfl,hc'⟩:=p cc GX
      exact ways_recv_none (show(w.at d).heap[c']?=_ from hc') (NY nob));have E:(gs.setIfInBounds i (parked j cases shape)).size=gs.size:=sJ;obtain⟨N,BA,PN,S,t',Q,R,q',C,B',jB,Y,j2,j3⟩:=ih n' (gs.setIfInBounds i (parked j cases shape)) a (w.at d) J (t++MemOp.ofEvents i g.frame.fn g.frame.place T) q B (by rw[E];omega)
      (by rw[z_ hc];exact U) (V.imp id λ⟨e,st,A⟩=>⟨e,st,A.keep hZ L⟩)
      ⟨D.ne,D.zero,D.mem,⟨_,by simp[BL],H⟩,λx y F u f=>by
       rw[z_ (gJ u)]at f
       rw[Deaf_other t (gJ u) _ Yv];exact D.JP x y F u f,λx f=>by
       rw[Deaf_other t (g':=i) (by simp at f;omega) _ Yv];exact D.above x (by simpa using f),LQ,D.size⟩;exact⟨N+1,BA,PN,S,t',by simp only[runNT,BX,I];exact Q,R.trans E,q',C,B',jB,Y,(CS.at w d).trans j2,j3⟩
    .have I:=crowd_sel_recv_closed (P:=P) (sl:=J) (i:=i) hi IQ hk (λm cc hm GX=>by
      obtain⟨c',z',k',rfl,hc'⟩:=p m cc hm GX
      exact ways_recv_none (show(w.at d).heap[c']?=_ from hc') (NY nob)) (show(w.at d).heap[cx]?=_ from hcl') (NY nob);have E:(gs.setIfInBounds i (Conc.served j (commResult cases shape k z false))).size=gs.size:=sJ;have hg1:∀op∈MemOp.ofEvents i g.frame.fn g.frame.place T++#[{ g:=i,fn:=j.frame.fn,pos:=j.frame.place,act:=.recvClosed cx}],op.g=i:=by
      intro op p
      obtain p|p:=Array.mem_append.1 p
      .exact Yv op p
      .simp at p;subst p;rfl
     obtain⟨N,BA,PN,S,t',Q,R,q',C,B',jB,Y,j2,j3⟩:=ih n' (gs.setIfInBounds i (Conc.served j (commResult cases shape k z false))) a (w.at d) J (t++(MemOp.ofEvents i g.frame.fn g.frame.place T++#[{ g:=i,fn:=j.frame.fn,pos:=j.frame.place,act:=.recvClosed cx}])) q B (by rw[E];omega)
      (by rw[z_ hc];exact U) (V.imp id λ⟨e,st,A⟩=>⟨e,st,A.keep hZ L⟩)
      ⟨D.ne,D.zero,D.mem,⟨_,by simp[BL],H⟩,λx y F u f=>by
       rw[z_ (gJ u)]at f
       rw[Deaf_other t (gJ u) _ hg1];exact D.JP x y F u f,λx f=>by
       rw[Deaf_other t (g':=i) (by simp at f;omega) _ hg1];exact D.above x (by simpa using f),LQ,D.size⟩;exact⟨N+1,BA,PN,S,t',by simp only[runNT,BX,I];exact Q,R.trans E,q',C,B',jB,Y,(CS.at w d).trans j2,j3⟩
   .have hq:=D.JP i g e1 e2 hi;have hi0:(i==0)=false:=(by simp;omega);cases hqi:q i with
    |zero=>rw[hqi]at hq;rw[hq.1]at hg;cases hg
    |succ k=>
     rw[hqi]at hq
     obtain⟨hf,_⟩|⟨_,g',T,hm,hstp,hq'⟩:=hq
     .rw[hf]at hg;cases hg
     have I:=runT_crowd_go (P:=P) (sl:=J) (i:=i) hi (by rw[hi0];exact hstp (w.at d));have E:((gs.map (woken P g g' (w.at d))).setIfInBounds i g').size=gs.size:=sJ;have hsum:sumTo gs.size (upd q i k)+(k+1)=sumTo gs.size q+k:=by
      have:=sumTo_upd q k id BL
      simpa [hqi]using this
     have hmute:∀op∈MemOp.ofEvents i g.frame.fn g.frame.place T,op.act.touch?=none:=λop p=>by obtain⟨e,W,rfl⟩:=p_ p;exact touch_mute (hm e W)
     obtain⟨N,BA,PN,S,t',Q,R,q',C,B',jB,Y,j2,j3⟩:=ih n ((gs.map (woken P g g' (w.at d))).setIfInBounds i g') (woken P g g' (w.at d) a) (w.at d) J (t++MemOp.ofEvents i g.frame.fn g.frame.place T) (upd q i k) B (by rw[E];have:=ak7 (woken P g g' (w.at d) a);omega)
      (by rw[z_ e1,ik,U];rfl) (by
       obtain rfl|⟨rfl,st,A⟩:=V
       .exact .inl (woken_run rfl)
       .obtain e|e:=wok g g' (w.at d)
        .exact .inr ⟨e,st,A.keep hZ L⟩
        .exact .inl e)
      ⟨D.ne,D.zero,D.mem,⟨b,by
       rw[z_ e2,ik,hb]
       simp only[Option.map_some,l7]
       exact woken_of_again (OD.again hB (w.at d) L),OD.calm (w.at d) _ hB L (Sj e2 e1 hm)⟩,λx y F u f=>by
       by_cases e3:i=x
       .subst e3;rw[lJ (by simpa using BL)]at f;obtain rfl:=x_ f;rw[upd_same,Deaf_own];exact hq'
       .rw[z_ e3,ik]at f;obtain⟨z,hz,rfl⟩:=lT.1 f;have hqj:=D.JP x z F u hz;rw[woken_quitsD hqj,upd_ne q k (gJ e3),Deaf_other t e3 _ Yv];exact hqj,λx f=>by
       rw[Deaf_other t (g':=i) (by simp at f;omega) _ Yv];exact D.above x (by simpa using f),D.tr.appMute Yv hmute (λx=>x.elim) (λop p=>by obtain⟨e,W,rfl⟩:=p_ p;exact low_mute (hm e W) B),D.size⟩
     exact⟨N+1,BA,PN,S,t',by simp only[runNT,BX,I];exact Q,R.trans E,q',C,B',jB,Y,(CS.at w d).trans j2,j3⟩
end
end Go.Fxa
namespace Go.Fxa
open Go.Conc
open Go.ConcN (sumTo upd sumTo_upd upd_ne upd_same)
variable {n B:Nat}{g LG g0:m_}{w:o_}{t:Trace}{fn:h_}{pos:String}{gs:Array m_}{q:Nat->Nat}
structure Wts where
 mD:m_
 mD':m_
 mL:m_
 mL0:m_
 mLK:m_
 mC:m_
 mC1:m_
 mC0:m_
 mW:m_
 mW':m_
 fr:Frame
 cs:Z_
 mS':m_
 k0:Nat
 k1:Nat
 k2:Nat
 k3:Nat
 k4:Nat
structure al7 (P:l_)(r:Nat)(pre:X_)(ty:j_)(g0 LG:m_)(x:Wts):Prop where
 runs:x.mD.status=.running/\x.mL.status=.running/\x.mC.status=.running/\x.mW.status=.running
 s0:Ls P (DD r pre ty) true x.k0 g0 x.mD
 ax:∀w,stepG P true x.mD w=.go x.mD' w #[JA]
 s1:Ls P (DD r pre ty) true x.k1 x.mD' x.mL
 bo5:∀w,w.cell? (stA r pre)=some (.int .u64 0)->stepG P true x.mL w=.go x.mL0 w #[⟨.cell (stA r pre),false,true⟩]
 fin0:ay8 P r pre ty LG x.mL0
 bo4:∀w,w.cell? (stA r pre)=some (.int .u64 KK)->stepG P true x.mL w=.go x.mLK w #[⟨.cell (stA r pre),false,true⟩]
 s2:Ls P (DD r pre ty) true x.k2 x.mLK x.mC
 IP:∀w,w.cell? (stA r pre)=some (.int .u64 KK)->w.frozen? (stA r pre)=false->stepG P true x.mC w=.go x.mC1 (w.setCell (stA r pre) (.int .u64 (KK+1))) (Ky (stA r pre))
 miss:∀w,w.cell? (stA r pre)=some (.int .u64 0)->w.frozen? (stA r pre)=false->stepG P true x.mC w=.go x.mC0 w #[⟨.cell (stA r pre),false,true⟩]
 lo0:ai7 P r pre ty LG x.mC0
 s3:Ls P (DD r pre ty) true x.k3 x.mC1 x.mW
 wr:∀w,stepG P true x.mW w=.go x.mW' w #[YC (smA r pre)]
 s4:Ls P (DD r pre ty) true x.k4 x.mW' (G x.fr x.cs)
 ca5:∀w,w.cell? (smA r pre)=some (.int .u32 1)->w.frozen? (smA r pre)=false->stepG P true (G x.fr x.cs) w=.go x.mS' (w.setCell (smA r pre) (.int .u32 0)) (semEvents (smA r pre))
 bn6:∀w,w.cell? (smA r pre)=some (.int .u32 0)->stepG P true (G x.fr x.cs) w=.go { G x.fr x.cs with status:=.blocked} w #[]
 lo1:ai7 P r pre ty LG x.mS'
section
variable {P:l_}{Z:Nat->Prop}{Ad Still:Loc->Prop}{Mem Am:Nat->Prop}{r:Nat}{pre:X_}{ty:j_}{c:Nat}{o:SY}{Ph:Bool->Nat->m_->o_->Trace->Prop}{X:o_->Prop}{Pn:Loc->Prop}
theorem kW (H:Ny P Z Ad Still Am c r pre ty o Ph X)(z:Z r)(C:c≠0){w0:Bool}{es:Array Event}(d:Nat)(A:∀e∈es,(MemAct.ofEvent e).touch?=none/\∀a,MemAct.ofEvent e≠.mark (.release a))
  (h:CO P c r pre ty o Ph X w0 n g w t):CO P c r pre ty o Ph X w0 n g (w.at d) (t++MemOp.ofEvents 0 fn pos es):=by
 have l:Js Z w (w.at d):=λ_ _=>rfl
 have f:Deaf (t++MemOp.ofEvents 0 fn pos es) c=Deaf t c:=Deaf_other t (g':=0) (gJ C) _ Yv;have u:KI c r pre t->KI c r pre (t++MemOp.ofEvents 0 fn pos es):=λh=>h.app λop q b hb _=>by
  obtain⟨e,s,rfl⟩:=p_ q
  rw[(A e s).1]at hb;cases hb
 have hrel:∀{m},OU c r pre m t->OU c r pre m (t++MemOp.ofEvents 0 fn pos es):=λh=>h.app (λop q=>by
  obtain⟨e,s,rfl⟩:=p_ q
  exact(A e s).2 _) λk op b x y _=>by have:=Yv op (Array.mem_of_getElem? x);omega
 obtain h|⟨⟨hN,v⟩,hX⟩:=h
 .exact .inl (H.mark d A h)
 .refine .inr ⟨⟨u hN,?_⟩,H.keep _ _ hX λ_ _ _=>rfl⟩;obtain⟨k,a1,a2,i,j⟩|⟨m,k,a1,a2,i,j,p⟩|⟨m,k,a1,a2,i,j,p⟩|⟨a0,m,a1,a2,i⟩|⟨a0,m,k,a1,a2,i,j,p⟩|⟨a0,m,k,a1,a2,i,j,p⟩|⟨a0,m,a1,a2,i⟩:=v
  .exact .inl ⟨k,a1,a2,i.keep z l,by rw[f];exact j⟩
  .exact .inr (.inl ⟨m,k,a1,a2,i.keep z l,by rw[f];exact j,hrel p⟩)
  .exact .inr (.inr (.inl ⟨m,k,a1,a2,i.keep z l,by rw[f];exact j,hrel p⟩))
  .exact .inr (.inr (.inr (.inl ⟨a0,m,by rw[f];exact a1,a2.keep z l,hrel i⟩)))
  .exact .inr (.inr (.inr (.inr (.inl ⟨a0,m,k,a1,a2,i.keep z l,by rw[f];exact j,hrel p⟩))))
  .exact .inr (.inr (.inr (.inr (.inr (.inl ⟨a0,m,k,a1,a2,i.keep z l,by rw[f];exact j,hrel p⟩)))))
  .exact .inr (.inr (.inr (.inr (.inr (.inr ⟨a0,m,by rw[f];exact a1,a2.keep z l,hrel i⟩)))))
theorem nG (H:Ny P Z Ad Still Am c r pre ty o Ph X)(h:CO P c r pre ty o Ph X false n g w t):BC r pre ty w KK 0\/Gi P c r pre ty X 0 n g w t:=by
 obtain h|⟨⟨hN,⟨k,rfl,d,a,_⟩|⟨m,k,rfl,d,a,_⟩|⟨m,k,rfl,d,a,_⟩|⟨_,m,hq,a,e⟩|⟨b,_⟩|⟨b,_⟩|⟨b,_⟩⟩,hX⟩:=h
 .exact .inl (H.run h)
 .exact .inl a
 .exact .inl a
 .exact .inl a
 .exact .inr ⟨hN,m,hq,⟨a,hX⟩,e⟩
 .cases b
 .cases b
 .cases b
theorem yh (H:Ny P Z Ad Still Am c r pre ty o Ph X)(D:c≠0)(d:Nat)(C:BC r pre ty w KK 0)
  (h:CO P c r pre ty o Ph X false n g w t):CO P c r pre ty o Ph X true n g ((w.at d).setCell (stA r pre) (.int .u64 (KK+1))) (t++MemOp.ofEvents 0 fn pos (Ky (stA r pre))):=by
 have j:BC r pre ty ((w.at d).setCell (stA r pre) (.int .u64 (KK+1))) (if true=true then KK+1 else KK) 0:=BC.setSt (w:=w.at d) C _;have s:∀op∈MemOp.ofEvents 0 fn pos (Ky (stA r pre)),op.act.touch?=some ⟨.cell (stA r pre),false,.atomic⟩\/op.act.touch?=some ⟨.cell (stA r pre),true,.atomic⟩:=by
  intro op f
  obtain⟨e,u,rfl⟩:=p_ f
  simp only[Ky,eu,r_,lG,or_false]at u
  obtain rfl|rfl:=u
  .exact .inl rfl
  .exact .inr rfl
 have a:Deaf (t++MemOp.ofEvents 0 fn pos (Ky (stA r pre))) c=Deaf t c:=Deaf_other t (g':=0) (gJ D) _ Yv;have q:KI c r pre t->KI c r pre (t++MemOp.ofEvents 0 fn pos (Ky (stA r pre))):=λh=>h.app λop f b hb _=>by
  obtain e|e:=s op f<;>(rw[e]at hb;obtain rfl:=x_ hb;simp)
 have hrel:∀{m},OU c r pre m t->OU c r pre m (t++MemOp.ofEvents 0 fn pos (Ky (stA r pre))):=λh=>h.app (λop f e=>by
  obtain x|x:=s op f<;>(rw[e]at x;cases x)) λk op b y A _=>by have:=Yv op (Array.mem_of_getElem? y);omega
 obtain h|⟨⟨hN,v⟩,hX⟩:=h
 .exact .inl (H.up d C h)
 .refine .inr ⟨⟨q hN,?_⟩,H.keep _ _ hX λx z _=>by simp[World.setCell,World.at,stA,iF,gJ z]⟩;obtain⟨k,a1,a2,l,i⟩|⟨m,k,a1,a2,l,i,p⟩|⟨m,k,a1,a2,l,i,p⟩|⟨a0,m,a1,a2,l⟩|⟨a0,_⟩|⟨a0,_⟩|⟨a0,_⟩:=v
  .exact .inl ⟨k,a1,a2,j,by rw[a];exact i⟩
  .exact .inr (.inl ⟨m,k,a1,a2,j,by rw[a];exact i,hrel p⟩)
  .exact .inr (.inr (.inl ⟨m,k,a1,a2,j,by rw[a];exact i,hrel p⟩))
  .exact qx (C.eq a2).1 sN
  .cases a0
  .cases a0
  .cases a0
theorem EM {B1:Nat}{w1:o_}{h:Array m_}{w':o_}{i:Trace}(j:CS Z w w1)(hB:B<=B1)(J:YM P Z Pn X B1 LG w1 h w' i):YM P Z Pn X B LG w h w' i:=by
 obtain⟨f,a,b,c,d,e⟩:=J;exact⟨f,a,b,j.trans c,lN hB d,e⟩
theorem join (HP:Ny P Z Ad Still (fun g=>g=c) c r pre ty o Ph X)(hS0:∀l,Ad l->¬Still l->Pn l)(O:O3 P r pre ty o){x:Wts}(H:al7 P r pre ty g0 LG x)(hZ:Z r)(hW:∀l,LY r pre l->Ad l/\¬Still l)(hc:c≠0)
  {n B:Nat} {gs:Array m_} {w:o_} {sl:d_ (W_)} {t:Trace} {q:Nat->Nat} (h0:gs[0]?=some g0)
  (D:Duo P Ad Still (λg=>g=0) (λg=>g=c) B 0 c (CO P c r pre ty o Ph X false) n gs w t q):AX P gs w sl t (YM P Z Pn X B LG w):=by
 have OC:∀w0,G8 P Z Ad Still (λB t=>PX Ad Still (λ_=>False) (λg=>g=c) B 0 t) c (CO P c r pre ty o Ph X w0):=λw0=>PE HP O hZ hW hc id
 have JC:∀w0 n b w t,CO P c r pre ty o Ph X w0 n b w t->∀d,DD r pre ty (w.at d):=λw0 n b w t h d=>let ⟨_,_,i⟩:=Zj HP h;i.is d
 have JD:∀w0 n b w t,Fb 1 (CO P c r pre ty o Ph X w0) n b w t->∀d,DD r pre ty (w.at d):=λw0 n b w t h d=>let ⟨_,_,i⟩:=Zj HP h.1;i.is d
 have s:∀w0,G8 P Z Ad Still (λB t=>PX Ad Still (λ_=>False) (λg=>g=c) B 0 t) c (Fb 1 (CO P c r pre ty o Ph X w0)):=λw0=>U3 hc (OC w0)
 have ON:G8 P Z Ad Still (λB t=>PX Ad Still (λ_=>False) (λg=>g=c) B 0 t) c (Fb 1 (Gi P c r pre ty X 0)):=U3 hc (U2 HP.keep hZ hW hc id);refine(Ie (JC false) (PE (w0:=false) (Mem:=λg=>g=0) (Am:=λg=>g=c) HP O hZ hW hc hc) x.k0 H.s0 h0 D).bind λgs1 w1 JL t1 hz1 ⟨q1,n1,B1,h1,o1,b1,D1⟩=>?_
 refine AX.mono ?_ λp A z=>EM (B1:=B1) o1 b1
 refine go_duo (Me:=λ_=>False) (Loose':=λg=>g=c) (PE (w0:=false) (Mem:=λg=>g=0) (Am:=λg=>g=c) HP O hZ hW hc hc) h1 H.runs.1 D1 (λ_ N=>N.elim) λBm hBm w2 hsz2 n2 x2 t2 o2 hB2 hp2 d=>?_
 have hmk:∀e∈#[JA],(MemAct.ofEvent e).touch?=none/\∀a,MemAct.ofEvent e≠.mark (.release a):=by
  intro e f
  simp at f;subst f
  exact⟨rfl,λa=>by simp[JA,MemAct.ofEvent]⟩
 refine⟨x.mD',w2.at d,#[JA],Bm,H.ax _,w_,hsz2,(hp2.fewer (Me:=λ_=>False) λ_ h=>h.elim).appMute Yv (λop A8=>by obtain⟨e,f,rfl⟩:=p_ A8;exact(hmk e f).1) (λx=>x.elim) (λop A8=>by obtain⟨e,f,rfl⟩:=p_ A8;simp at f;subst f;trivial),
  Fb 1 (CO P c r pre ty o Ph X false),n2,⟨?_,?_⟩,λgs3 q3 n3 hz3 h3 D3 sl3=>?_⟩
 .rw[woken_of_again ((OC false).again hB2 (w2.at d) (λ_ _=>rfl))];exact kW HP hZ hc d hmk hB2
 .rw[Deaf_own,hp2.hears 0 rfl];rfl
 refine AX.mono ?_ λp A z=>EM (B1:=Bm) (o2.trans (CS.at w2 d)) hBm
 refine(Ie (JD false) (s false) x.k1 H.s1 h3 D3).bind λgs4 w4 Ob t4 hz4 ⟨q4,n4,B4,h4,o4,b4,D4⟩=>?_
 refine AX.mono ?_ λp A z=>EM (B1:=B4) o4 b4
 refine go_duo (Me:=λ_=>False) (Loose':=λg=>g=c) (s false) h4 H.runs.2.1 D4 (λ_ N=>N.elim) λBn hBn E j n5 x5 t5 o5 C hp5 F=>?_
 have rd:∀{w:o_} {B:Nat} {st sm:Int},BC r pre ty w st sm->w.heap.size<=B->∀e∈#[(⟨.cell (stA r pre),false,true⟩:Event)],aN Ad Still B e:=by
  intro w B st sm i hB e f
  simp at f;subst f
  exact Vm hW (by have:=i.lt;omega) (.inl rfl) rfl false
 obtain hr5|hd5:=nG HP C.1
 rotate_left
 .obtain⟨hN,m,hq,⟨i,M⟩,hm⟩:=hd5;have T:=rd i j;have v:Fb 1 (Gi P c r pre ty X 0) n5 x5 E t5:=⟨⟨hN,m,hq,⟨i,M⟩,hm⟩,C.2⟩;refine⟨x.mL0,E.at F,_,Bn,H.bo5 _ (i.keep hZ (λ_ _=>rfl)).cellSt,w_,j,hp5.own T,Fb 1 (Gi P c r pre ty X 0),n5,?_,λgs6 q6 n6 hz6 h6 D6 Fh=>?_⟩
  .rw[woken_of_again (ON.again v (E.at F) (λ_ _=>rfl))];exact ON.calm (E.at F) _ v (λ_ _=>rfl) (Gn (gJ hc) T)
  .exact(gq hS0 HP.keep hZ hW hc H.fin0 h6 D6).mono λp A z=>EM (o5.trans (CS.at E F)) hBn
 have Y:=rd hr5 j;refine⟨x.mLK,E.at F,_,Bn,H.bo4 _ (hr5.keep hZ (λ_ _=>rfl)).cellSt,w_,j,hp5.own Y,Fb 1 (CO P c r pre ty o Ph X false),n5,?_,λgs6 q6 n6 hz6 h6 D6 Fh=>?_⟩
 .rw[woken_of_again ((s false).again C (E.at F) (λ_ _=>rfl))];exact(s false).calm (E.at F) _ C (λ_ _=>rfl) (Gn (gJ hc) Y)
 refine AX.mono ?_ λp A z=>EM (B1:=Bn) (o5.trans (CS.at E F)) hBn
 refine(Ie (JD false) (s false) x.k2 H.s2 h6 D6).bind λgs7 w7 OL t7 hz7 ⟨q7,n7,B7,h7,o7,b7,D7⟩=>?_
 refine AX.mono ?_ λp A z=>EM (B1:=B7) o7 b7
 refine go_duo (Me:=λ_=>False) (Loose':=λg=>g=c) (s false) h7 H.runs.2.2.1 D7 (λ_ N=>N.elim) λS hBo J K n8 x8 t8 o8 u hp8 I=>?_
 obtain Q|hd8:=nG HP u.1
 rotate_left
 .obtain⟨hN,m,hq,⟨i,M⟩,hm⟩:=hd8;have T:=rd i K;have v:Fb 1 (Gi P c r pre ty X 0) n8 x8 J t8:=⟨⟨hN,m,hq,⟨i,M⟩,hm⟩,u.2⟩;refine⟨x.mC0,J.at I,_,S,H.miss _ (i.keep hZ (λ_ _=>rfl)).cellSt (i.keep hZ (λ_ _=>rfl)).QJ,w_,K,hp8.own T,Fb 1 (Gi P c r pre ty X 0),n8,?_,λgs9 q9 n9 hz9 h9 D9 sl9=>?_⟩
  .rw[woken_of_again (ON.again v (J.at I) (λ_ _=>rfl))];exact ON.calm (J.at I) _ v (λ_ _=>rfl) (Gn (gJ hc) T)
  .exact(ZN hS0 HP.keep hZ hW hc H.lo0 h9 D9).mono λp A z=>EM (o8.trans (CS.at J I)) hBo
 have U:r<S:=by have:=Q.lt;omega
 have cz1:∀e∈Ky (stA r pre),aN Ad Still S e:=by
  intro e f
  simp only[Ky,eu,r_,lG,or_false]at f
  obtain rfl|rfl:=f
  .exact Vm hW U (.inl rfl) rfl false
  .exact Vm hW U (.inl rfl) rfl true
 have V:BC r pre ty (J.at I) KK 0:=Q.keep hZ (λ_ _=>rfl);have cv7:CS Z J ((J.at I).setCell (stA r pre) (.int .u64 (KK+1))):=Px (a:=stA r pre) hZ _ I;have ct7:(x8.status=.running\/x8.status=.finished):=by
  obtain h|⟨⟨_,⟨k,_,R,_⟩|⟨m,k,_,R,_⟩|⟨m,k,_,R,_⟩|⟨_,m,hq,_⟩|⟨hw,_⟩|⟨hw,_⟩|⟨hw,_⟩⟩,_⟩:=u.1
  .exact .inl (HP.status h).1
  .exact .inl (R.status O.runs.1)
  .exact .inl (R.status O.runs.2.1)
  .exact .inl (R.status O.runs.2.2.1)
  .exact hq.status
  .cases hw
  .cases hw
  .cases hw
 refine⟨x.mC1,_,_,S,H.IP _ V.cellSt V.QJ,w_,by rw[Il];exact K,hp8.own cz1,Fb 1 (CO P c r pre ty o Ph X true),n8,⟨?_,?_⟩,λgs9 q9 n9 hz9 h9 D9 sl9=>?_⟩
 .rw[woken_of_again (again_running _ ct7)];exact yh HP hc I Q u.1
 .rw[Deaf_own,u.2];rfl
 refine AX.mono ?_ λp A z=>EM (B1:=S) (o8.trans cv7) hBo
 refine(Ie (JD true) (s true) x.k3 H.s3 h9 D9).bind λgsa wa sla ta hza ⟨qa,na,Ba,ha,oa,ba,Da⟩=>?_
 refine AX.mono ?_ λp A z=>EM (B1:=Ba) oa ba
 refine go_duo (Me:=λ_=>False) (Loose':=λg=>g=c) (s true) ha H.runs.2.2.2 Da (λ_ N=>N.elim) λBs hBs wb cx6 nb xb tb ob L hpb db=>?_
 have hrb:r<Bs:=by
  obtain⟨st,h⟩|⟨_,m,_,⟨h,_⟩,_⟩:=jv HP L.1<;>(have:=h.lt;omega)
 have W:∀e∈#[YC (smA r pre)],aN Ad Still Bs e:=by
  intro e f
  simp at f;subst f
  refine⟨λy hy=>?_,by simp[YC],by simp[YC],?_,by simp[YC]⟩
  .obtain rfl:=x_ hy;exact⟨λR=>((hW _ (.inr rfl)).2 R).elim,λ_=>sJ⟩
  .exact hrb
 refine⟨x.mW',wb.at db,_,Bs,H.wr _,w_,cx6,hpb.own W,Fb 1 (CO P c r pre ty o Ph X true),nb,?_,λgsc qc nc hzc GX Dc slc=>?_⟩
 .rw[woken_of_again ((s true).again L (wb.at db) (λ_ _=>rfl))];exact(s true).calm (wb.at db) _ L (λ_ _=>rfl) (Gn (gJ hc) W)
 refine AX.mono ?_ λp A z=>EM (B1:=Bs) (ob.trans (CS.at wb db)) hBs
 refine(Ie (JD true) (s true) x.k4 H.s4 GX Dc).bind λgsd wd sld td hzd ⟨qd,nd,Bd,hd,od,bd,Dd⟩=>?_
 refine AX.mono ?_ λp A z=>EM (B1:=Bd) od bd
 refine(an8 HP O hZ hW hc (OC true) H.ca5 H.bn6 _ nd gsd (G x.fr x.cs) wd sld td qd Bd (Nat.lt_succ_self _) hd (.inl rfl) Dd).bind λgse we sle te hze ⟨qe,ne,Be,hBe,f,oe,De⟩=>?_
 exact(ZN hS0 HP.keep hZ hW hc H.lo1 f De).mono λp A z=>EM oe hBe
end
def Ub (Tr:Trace->Prop):Prop:=∀t i fn pos es,i≠0->(∀e∈es,e.mute=true)->Tr t->Tr (t++MemOp.ofEvents i fn pos es)
section
variable {P:l_}{Z:Nat->Prop}{Ad Still:Loc->Prop}{Mem Am:Nat->Prop}{Tr:Trace->Prop}
theorem qp (Y:Ub Tr):∀(X:Nat)(gs:Array m_)(a:m_)(w:o_)(sl:d_ (W_))(t:Trace)(q:Nat->Nat),sumTo gs.size q<X->gs[0]?=some a->a.status=.running->Leavers P t gs q->Tr t->
  ∃(N:Nat) (T:Array m_) (W d:Nat) (S U:d_ (W_)) (V:Trace) (q':Nat->Nat),runNT P N (crowd gs w sl) t=(.next (crowd T (w.at W) S),V)/\T.size=gs.size/\T[0]?=some a/\
   stepT P (crowd T (w.at W) S)=runT P (crowd T (w.at d) U) 0/\Leavers P V T q'/\Tr V:=by
 intro X
 induction X with
 |zero=>intro gs a w sl t q hX;omega
 |succ X R=>
  intro gs a w sl t q hX l j hL F
  have u:∀g∈gs,awake g:=by
   intro g c
   obtain⟨i,hi,rfl⟩:=Array.mem_iff_getElem.1 c
   obtain rfl|o:=Nat.eq_zero_or_pos i
   .have:gs[0]=a:=(by simpa [v_ hi]using l);rw[this];exact awake_of (.inl j)
   .exact awake_of ((hL.old i _ o (v_ hi)).status.elim .inl λx=>.inr (.inr x))
  obtain⟨i,g,d,U,hi,c,C⟩:=crowd_pick (P:=P) (w:=w) (sl:=sl) u ⟨0,a,l,j⟩;have B:i<gs.size:=(y_.1 hi).1;obtain rfl|o:=Nat.eq_zero_or_pos i
  .exact⟨0,gs,w.drawn,d,sl,U,t,q,rfl,rfl,l,C,hL,F⟩
  .have hq:=hL.old i g o hi;have v:(i==0)=false:=(by simp;omega);cases hqi:q i with
   |zero=>rw[hqi]at hq;rw[hq.1]at c;cases c
   |succ k=>
    rw[hqi]at hq
    obtain⟨L,_⟩|⟨_,g',E,M,h,A⟩:=hq
    .rw[L]at c;cases c
    have H:=runT_crowd_go (P:=P) (sl:=U) (i:=i) hi (by rw[v];exact h (w.at d));have D:((gs.map (woken P g g' (w.at d))).setIfInBounds i g').size=gs.size:=sJ;have G:sumTo gs.size (upd q i k)+(k+1)=sumTo gs.size q+k:=by
     have:=sumTo_upd q k id B
     simpa [hqi]using this
    obtain⟨N,T,W,d1,S,K,V,q',O,J,p,f,r,s⟩:=R ((gs.map (woken P g g' (w.at d))).setIfInBounds i g') a (w.at d) U (t++MemOp.ofEvents i g.frame.fn g.frame.place E) (upd q i k) (by rw[D];omega)
     (by
      have I:i≠0:=wB
      rw[z_ I,ik,l]
      simp[woken_run j]) j
     ⟨λx y m n=>by
      by_cases b:i=x
      .subst b;rw[lJ (by simpa using B)]at n;obtain rfl:=x_ n;rw[upd_same,Deaf_own];exact A
      .rw[z_ b,ik]at n;obtain⟨z,Q,rfl⟩:=lT.1 n;have e:=hL.old x z m Q;rw[woken_quitsD e,upd_ne q k (gJ b),Deaf_other t b _ Yv];exact e,λx m=>by
      rw[Deaf_other t (g':=i) (by simp at m;omega) _ Yv];exact hL.above x (by simpa using m)⟩
     (Y t i _ _ E wB M F)
    exact⟨N+1,T,W,d1,S,K,V,q',by simp only[runNT,C,H];exact O,J.trans D,p,f,r,s⟩
theorem go_mute (J:Ub Tr){a:m_}{sl:d_ (W_)}{Q:Array m_->o_->Trace->Prop}(O:gs[0]?=some a)(K:a.status=.running)(hL:Leavers P t gs q)(R:Tr t)
  (M:∀d H,Tr H->∃G w' es,stepG P true a (w.at d)=.go G w' es/\∀I S,I.size=gs.size->I[0]?=some G->Leavers P (H++MemOp.ofEvents 0 a.frame.fn a.frame.place es) I S->
   ∀L,AX P I w' L (H++MemOp.ofEvents 0 a.frame.fn a.frame.place es) Q):AX P gs w sl t Q:=by
 obtain⟨N,c,F,d,D,n,H,q1,B,f,o,s,e,l⟩:=qp (P:=P) J (sumTo gs.size q+1) gs a w sl t q wB O K hL R;obtain⟨G,w',es,h,A⟩:=M d H l;have r:0<c.size:=(y_.1 o).1;have u:=runT_crowd_go (P:=P) (sl:=n) (i:=0) o h;have b:((c.map (woken P a G w')).setIfInBounds 0 G).size=gs.size:=by simp[f]
 obtain⟨v,g,w2,m,E,j,k,z⟩:=A ((c.map (woken P a G w')).setIfInBounds 0 G) q1 b (by simp[r]) ⟨λi x hi p=>by
   rw[z_ wB,ik]at p
   obtain⟨y,C,rfl⟩:=lT.1 p
   have hq:=e.old i y hi C
   rw[woken_quitsD hq,Deaf_other H (g':=0) wB _ Yv]
   exact hq,λi hi=>by
   rw[b,<-f]at hi
   rw[Deaf_other H (g':=0) wB _ Yv]
   exact e.above i hi⟩ n;refine⟨N+1+v,g,w2,m,E,?_,k.trans b,z⟩;rw[runNT_add,runNT_succ_of B (s.trans u)];exact j
theorem KP (C:Ub Tr){J:o_->Prop}{E:m_}:∀(k:Nat){a:m_}(_:Ls P J true k a E){gs:Array m_}{w:o_}{sl:d_ (W_)}{t:Trace}{q:Nat->Nat},(∀d,J (w.at d))->gs[0]?=some a->Leavers P t gs q->Tr t->
  AX P gs w sl t λD w' G=>∃F d,D[0]?=some E/\w'=w.at d/\Leavers P G D F/\Tr G
 |0,a,f,gs,w,sl,t,q,_,e,hL,g=>.now ⟨q,w.drawn,by rw[e,show a=E from f],rfl,hL,g⟩
 |k+1,a,f,gs,w,sl,t,q,l,e,hL,g=>by
  obtain⟨m,a1,n,o⟩:=f
  refine go_mute C e m hL g λd B h=>⟨a1,w.at d,#[],n _ (l d),λD F A p b y=>?_⟩
  rw[DY]at b ⊢
  exact(KP C k o (w:=w.at d) (λc=>l c) p b h).mono λj z x ⟨i,c,r,s,u,v⟩=>⟨i,c,r,s,u,v⟩
theorem nN (B:Nat):Ub (λt=>PX Ad Still (λg=>g=0/\Mem g) (λ_=>False) B 0 t):=by
 intro t i fn pos f hi c H;refine H.appMute Yv (λop a=>?_) (λd=>(hi d.1).elim) (λop a=>?_)
 .obtain⟨e,b,rfl⟩:=p_ a;exact touch_mute (c e b)
 .obtain⟨e,b,rfl⟩:=p_ a;exact low_mute (c e b) B
structure bt9 where
 mD:m_
 mD':m_
 mA:m_
 mA':m_
 mR:m_
 mR':m_
 mE:m_
 mE':m_
 k0:Nat
 k1:Nat
 k2:Nat
 k3:Nat
 k4:Nat
def YE (a:f_):Event:=⟨.mark (.read a),false,true⟩
structure bq4 (P:l_)(r:Nat)(pre:X_)(ty:j_)(g0 LG:m_)(x:bt9):Prop where
 runs:x.mD.status=.running/\x.mA.status=.running/\x.mR.status=.running/\x.mE.status=.running
 s0:Ls P (DD r pre ty) true x.k0 g0 x.mD
 ax:∀w,stepG P true x.mD w=.go x.mD' w #[JA]
 s1:Ls P (DD r pre ty) true x.k1 x.mD' x.mA
 add:∀w,w.cell? (stA r pre)=some (.int .u64 0)->w.frozen? (stA r pre)=false->stepG P true x.mA w=.go x.mA' (w.setCell (stA r pre) (.int .u64 KK)) (Ky (stA r pre))
 s2:Ls P (DD r pre ty) true x.k2 x.mA' x.mR
 rd:∀w,stepG P true x.mR w=.go x.mR' w #[YE (smA r pre)]
 s3:Ls P (DD r pre ty) true x.k3 x.mR' x.mE
 ena:∀w,stepG P true x.mE w=.go x.mE' w #[MJ]
 s4:Ls P (DD r pre ty) true x.k4 x.mE' LG
theorem yI {r:Nat}{pre:X_}{ty:j_}{x:bt9}(H:bq4 P r pre ty g0 LG x)(hZ:Z r){sl:d_ (W_)}
  (h0:gs[0]?=some g0) (hL:Leavers P t gs q) (hP:Past Ad B t) (hB:w.heap.size<=B) (hr:BC r pre ty w 0 0):
  AX P gs w sl t λBA w' t'=>∃q',BA[0]?=some LG/\CS Z w w'/\BC r pre ty w' KK 0/\Leavers P t' BA q'/\Past Ad B t'/\w'.heap.size<=B:=by
 have u:r<B:=by have:=hr.lt;omega
 have o:Ub (λt=>PX Ad (λ_=>False) (λg=>g=0/\True) (λ_=>False) B 0 t):=nN (Mem:=λ_=>True) B;have l:Ub (λt=>PX Ad (λ_=>False) (λg=>g=0/\False) (λ_=>False) B 0 t/\Deaf t 0=1):=λt i fn pos es hi m h=>⟨nN (Mem:=λ_=>False) B t i fn pos es hi m h.1,by rw[Deaf_other t hi _ Yv];exact h.2⟩
 have Q:PX Ad (λ_=>False) (λg=>g=0/\True) (λ_=>False) B 0 t:=(PX.ofPast hP (λ_ h=>h.elim) (λ_ h=>h.elim)).fewer λg n=>n.1
 refine(KP o x.k0 H.s0 (λd=>hr.is d) h0 hL Q).bind λgs1 w1 JL t1 _ ⟨q1,d1,h1,e1,G,S⟩=>?_
 subst e1;refine go_mute o h1 H.runs.1 G S λd2 F z=>⟨_,_,_,H.ax _,λgs3 q3 _ h3 I sl3=>?_⟩
 have T:PX Ad (λ_=>False) (λg=>g=0/\False) (λ_=>False) B 0 (F++MemOp.ofEvents 0 x.mD.frame.fn x.mD.frame.place #[JA])/\Deaf (F++MemOp.ofEvents 0 x.mD.frame.fn x.mD.frame.place #[JA]) 0=1:=by
  refine⟨(z.fewer (Me:=λg=>g=0/\False) λg n=>n.2.elim).appMute Yv (λop f=>?_) (λs=>s.2.elim) (λop f=>?_),?_⟩
  .obtain⟨e,b,rfl⟩:=p_ f;simp at b;subst b;rfl
  .obtain⟨e,b,rfl⟩:=p_ f;simp at b;subst b;trivial
  .rw[Deaf_own,z.hears 0 ⟨rfl,dE⟩];rfl
 refine(KP l x.k1 H.s1 (w:=(w.at d1).at d2) (λd=>hr.is d) h3 I T).bind λgs4 w4 Ob t4 _ ⟨q4,d4,h4,e4,J,U⟩=>?_
 subst e4;have c:∀d,BC r pre ty ((((w.at d1).at d2).at d4).at d) 0 0:=λd=>hr
 refine go_mute l h4 H.runs.2.1 J U λj t5 V=>⟨_,_,_,H.add _ (c j).cellSt (c j).QJ,λgs6 q6 _ h6 K Fh=>?_⟩
 have atom:∀(a:f_),a.block=r->∀wr:Bool,aN Ad (λ_=>False) B ⟨.cell a,wr,true⟩:=λa D wr=>⟨λx v=>by obtain rfl:=x_ v;exact⟨λh=>h.elim,λ_=>sJ⟩,sJ,sJ,by show a.block<B;omega,sJ⟩
 have own:∀{t:Trace} {fn:h_} {pos:String} {es:Array Event},(∀e∈es,aN Ad (λ_=>False) B e)->(PX Ad (λ_=>False) (λg=>g=0/\False) (λ_=>False) B 0 t/\Deaf t 0=1)->(PX Ad (λ_=>False) (λg=>g=0/\False) (λ_=>False) B 0 (t++MemOp.ofEvents 0 fn pos es)/\Deaf (t++MemOp.ofEvents 0 fn pos es) 0=1):=fun {t fn pos es} m h=>by
  refine⟨h.1.own m,?_⟩
  rw[Deaf_own,deafBehind_still (λe b=>⟨(m e b).2.1,(m e b).2.2.1⟩)]
  exact h.2
 have W:=own (fn:=x.mA.frame.fn) (pos:=x.mA.frame.place) (es:=Ky (stA r pre)) (λe b=>by
  simp only[Ky,eu,r_,lG,or_false]at b
  obtain rfl|rfl:=b
  .exact atom _ rfl false
  .exact atom _ rfl true) V
 refine(KP l x.k2 H.s2 (λd=>((c j).setSt KK).is d) h6 K W).bind λgs7 w7 OL t7 _ ⟨q7,d7,h7,p,L,X⟩=>?_
 refine go_mute l h7 H.runs.2.2.1 L X λd8 t8 Y=>⟨_,_,_,H.rd _,λgs9 q9 _ h9 M sl9=>?_⟩
 have X9:=own (fn:=x.mR.frame.fn) (pos:=x.mR.frame.place) (es:=#[YE (smA r pre)]) (λe b=>by
  simp at b;subst b
  exact⟨λx v=>by obtain rfl:=x_ v;exact⟨λh=>h.elim,λ_=>sJ⟩,by simp[YE],by simp[YE],u,by simp[YE]⟩) Y;refine(KP l x.k3 H.s3 (λd=>by subst p;exact((c j).setSt KK).is d) h9 M X9).bind λgsa wa sla ta _ ⟨qa,da,D,C,N,Xa⟩=>?_
 refine go_mute l D H.runs.2.2.2 N Xa λdb y A=>⟨_,_,_,H.ena _,λgsc qc _ hc O slc=>?_⟩
 have Xc:PX Ad (λ_=>False) (λg=>g=0/\False) (λ_=>False) B 0 (y++MemOp.ofEvents 0 x.mE.frame.fn x.mE.frame.place #[MJ]):=A.1.appMute Yv (λop f=>by
  obtain⟨e,b,rfl⟩:=p_ f;simp at b;subst b;rfl) (λs=>s.2.elim) (λop f=>by
  obtain⟨e,b,rfl⟩:=p_ f;simp at b;subst b;trivial);have R:Past Ad B (y++MemOp.ofEvents 0 x.mE.frame.fn x.mE.frame.place #[MJ]):=Xc.toPast (by rw[Deaf_own,A.2];rfl) (λ_ h=>h) (λ_ h _=>h);have Xc':PX Ad (λ_=>False) (λg=>g=0/\True) (λ_=>False) B 0 (y++MemOp.ofEvents 0 x.mE.frame.fn x.mE.frame.place #[MJ]):=(PX.ofPast R (λ_ h=>h.elim) (λ_ h=>h.elim)).fewer λg n=>n.1
 refine(KP o x.k4 H.s4 (λd=>by subst C p;exact((c j).setSt KK).is d) hc O Xc').mono λBA w' t' ⟨q',d',j1,j2,j3,E⟩=>?_
 subst j2 C p;have off:CS Z w ((((((((w.at d1).at d2).at d4).at j).setCell (stA r pre) (.int .u64 KK)).at d7).at d8).at da):=by
  refine⟨by simp[World.setCell,World.at],λk hk=>?_,rfl,rfl,rfl⟩
  have:r≠k:=λe=>hk (e ▸ hZ)
  simp[World.setCell,World.at,stA,iF,this]
 refine⟨q',j1,⟨off.size,off.same,off.os,off.output,off.tape⟩,(c j).setSt KK,j3,E.toPast (E.hears 0 ⟨rfl,dE⟩) (λ_ h=>h) (λ_ h _=>h),?_⟩;simp only[World.setCell,World.at,Array.size_modify];exact hB
end
end Go.Fxa
