/- A holder and one bystander, be -/
import Derived.Test.YtmhplpfpcnjekaaGreatA03
import Derived.Test.YtmhplpfpcnjekaaGreatA04
namespace Go.Fxa
open Go.Conc
open Go.ConcN (sumTo upd sumTo_upd upd_ne upd_same)
variable {w w':o_} {B i c:Nat} {e:Event} {fn:h_} {pos:String} {es:Array Event} {t:Trace} {gs:Array m_} {Q Q':Array m_->o_->Trace->Prop} {g:m_} {cs:Array CommCase} {sh:CommShape}
structure CP (Z:Nat->Prop) (w w1:o_):Prop where
 size:w.heap.size<=w1.heap.size
 same:∀r,¬Z r->w1.heap[r]?=w.heap[r]?
 os:w1.os=w.os
 output:w1.output=w.output
 tape:w1.tape=w.tape
def Jj (Z:Nat->Prop) (w w1:o_):Prop:=∀r,Z r->w1.heap[r]?=w.heap[r]?
def Zz (Ad Still:Loc->Prop) (B:Nat) (e:Event):Prop:=
 (∀x,(MemAct.ofEvent e).touch?=some x->(Still x.loc->x.write=false/\¬Ad x.loc)/\(Ad x.loc->x.kind≠.plain))/\e.loc≠.mark .disable/\e.loc≠.mark .enable/\(MemAct.ofEvent e).low B/\∀a,e.loc≠.mark (.release a)
def Gt (w:o_) (cc:CommCase):Prop:=∃c z k,cc=rcase c z/\w.heap[c]?=some (.chan 0 #[] false k k false)
def Xz (Ad Still:Loc->Prop) (j:Nat) (u:Trace):Prop:=∀op∈u,op.g≠j/\(∀b,op.act.touch?=some b->(Still b.loc->b.write=false/\¬Ad b.loc)/\(Ad b.loc->b.kind≠.plain))/\(∀a,op.act≠.mark (.release a))/\(op.act=.mark .disable\/op.act=.mark .enable->op.g≠0)
def bw8 (Tr:Nat->Trace->Prop) (B:Nat) (w:o_) (t:Trace):Prop:=∃B',B<=B'/\w.heap.size<=B'/\Tr B' t
structure GR (P:l_) (Z:Nat->Prop) (Ad Still:Loc->Prop) (Tr:Nat->Trace->Prop) (j:Nat) (By:Nat->m_->o_->Trace->Prop):Prop where
 status:∀{n g w t},By n g w t->(g.status=.running/\0<n)\/g.status=.blocked\/g.status=.finished
 again:∀{n g w t},By n g w t->∀w',Jj Z w w'->g.again w'=g
 calm:∀{n g w t} (w':o_) (u:Trace),By n g w t->Jj Z w w'->Xz Ad Still j u->By n g w' (t++u)
 step:∀{n g w t B},By n g w t->g.status=.running->Tr B t->w.heap.size<=B->∀d,
  (∃n' g' w' es,n'<n/\stepG P (j==0) g (w.at d)=.go g' w' es/\CP Z w w'/\bw8 Tr B w' (t++MemOp.ofEvents j g.frame.fn g.frame.place es)/\By n' g' w' (t++MemOp.ofEvents j g.frame.fn g.frame.place es))\/
  (∃n' g₂ cases shape es,n'<n/\stepG P (j==0) g (w.at d)=.comm g₂ cases true shape (w.at d) es/\(∀cc∈cases,Gt w cc)/\Tr B (t++MemOp.ofEvents j g.frame.fn g.frame.place es)/\
   By n' (parked g₂ cases shape) (w.at d) (t++MemOp.ofEvents j g.frame.fn g.frame.place es))\/
  (∃n' g₂ cases shape es k c z cap s r tm,n'<n/\stepG P (j==0) g (w.at d)=.comm g₂ cases true shape (w.at d) es/\cases[k]?=some (rcase c z)/\w.heap[c]?=some (.chan cap #[] true s r tm)/\(∀(m:Nat) cc,m≠k->cases[m]?=some cc->Gt w cc)/\
   Tr B (t++(MemOp.ofEvents j g.frame.fn g.frame.place es++#[{ g:=j,fn:=g₂.frame.fn,pos:=g₂.frame.place,act:=.recvClosed c }]))/\
   By n' (Conc.served g₂ (commResult cases shape k z false)) (w.at d) (t++(MemOp.ofEvents j g.frame.fn g.frame.place es++#[{ g:=j,fn:=g₂.frame.fn,pos:=g₂.frame.place,act:=.recvClosed c }])))
structure Duo (P:l_) (Ad Still:Loc->Prop) (Mem Am:Nat->Prop) (B h j:Nat) (By:Nat->m_->o_->Trace->Prop) (n:Nat) (gs:Array m_) (w:o_) (t:Trace) (q:Nat->Nat):Prop where
 ne:h≠j
 zero:h=0\/j=0
 mem:∀g,Mem g->g=h\/g=j
 idle:∃b,gs[j]?=some b/\By n b w t
 JG:∀i g,i≠h->i≠j->gs[i]?=some g->QuitsD P (q i) (Deaf t i) g
 above:∀i,gs.size<=i->Deaf t i=0
 tr:PX Ad Still Mem Am B h t
 size:w.heap.size<=B
section
variable {P:l_} {Z:Nat->Prop} {Ad Still:Loc->Prop} {Mem Am:Nat->Prop} {h j:Nat} {By:Nat->m_->o_->Trace->Prop}
theorem CP.refl (w:o_):CP Z w w:=⟨w_ _,λ_ _=>rfl,rfl,rfl,rfl⟩
theorem CP.at (w:o_) (d:Nat):CP Z w (w.at d):=⟨w_ _,λ_ _=>rfl,rfl,rfl,rfl⟩
theorem CP.trans {w1 w2:o_} (h:CP Z w w1) (b:CP Z w1 w2):CP Z w w2:=
 ⟨pV h.size b.size,λr a=>(b.same r a).trans (h.same r a),b.os.trans h.os,b.output.trans h.output,b.tape.trans h.tape⟩
theorem CP.bo5 {w1:o_} (h:CP Z w w1) (d:∀r,Z r->r<w.heap.size):w1.heap.size=w.heap.size:=by
 refine Nat.le_antisymm (Nat.le_of_not_lt λa=>?_) h.size;have e:=h.same w.heap.size λb=>Nat.lt_irrefl _ (d _ b)
 rw[Array.getElem?_eq_none (w_ _),v_ a]at e;cases e
theorem au.off {Od:Old} {v w1:o_} (T:au Od Z v w) (d:∀r,Z r->r<v.heap.size) (h:CP Z w w1):au Od Z v w1:=
 ⟨T.size.trans (h.bo5 (by rw[<-T.size];exact d)).symm,λr b a=>(T.same r b a).trans (h.same r b).symm,T.dead,T.plain,T.os.trans h.os.symm,T.output.trans h.output.symm,T.Kt,λr a=>(h.same r (T.Zt r a)).trans (T.kept r a),T.Zt⟩
theorem Zz.mono {a:Nat} (b:B<=a) (h:Zz Ad Still B e):Zz Ad Still a e:=⟨h.1,h.2.1,h.2.2.1,MemAct.low_mono b h.2.2.2.1,h.2.2.2.2⟩
theorem Zv:∀op∈MemOp.ofEvents i fn pos es,op.g=i:=λop a=>by
 obtain⟨e,_,rfl⟩:=qw a;rfl
theorem PX.own (H:PX Ad Still Mem Am B h t) (f:∀e∈es,Zz Ad Still B e):PX Ad Still Mem Am B h (t++MemOp.ofEvents h fn pos es):=by
 refine H.appH Zv (λop c b d=>by obtain⟨e,a,rfl⟩:=qw c;exact(f e a).1 b d) (λ_=>?_) (λop c=>by obtain⟨e,a,rfl⟩:=qw c;exact(f e a).2.2.2.1);rw[Deaf_own];exact deafBehind_still (λe a=>⟨(f e a).2.1,(f e a).2.2.1⟩) _
theorem Gf (p:i≠j) (o:∀e∈es,Zz Ad Still B e):Xz Ad Still j (MemOp.ofEvents i fn pos es):=by
 intro op h;refine⟨by rw[Zv op h];exact p,?_⟩;obtain⟨e,f,rfl⟩:=qw h;refine⟨λb n=>(o e f).1 b n,λa c=>?_,λc=>?_⟩
 .have:=(o e f).2.2.2.2 a;obtain⟨d,wr,g⟩:=e;cases d with
  |obj r=>cases wr<;>cases g<;>simp[MemAct.ofEvent]at c
  |mark m=>simp[MemAct.ofEvent]at c;subst c;exact this rfl
  |_=>simp[MemAct.ofEvent]at c
 .exfalso;have k:=(o e f).2.1;have l:=(o e f).2.2.1;obtain⟨d,wr,g⟩:=e;cases d with
  |obj r=>cases wr<;>cases g<;>simp[MemAct.ofEvent]at c
  |mark m=>simp[MemAct.ofEvent]at c;obtain rfl|rfl:=c;exact k rfl;exact l rfl
  |_=>simp[MemAct.ofEvent]at c
theorem Rq (n:i≠j) (o:i≠0) (l:∀e∈es,e.mute=true):Xz Ad Still j (MemOp.ofEvents i fn pos es):=by
 intro op d;refine⟨by rw[Zv op d];exact n,?_⟩;obtain⟨e,h,rfl⟩:=qw d;refine⟨λb g=>(by rw[touch_mute (l e h)]at g;cases g),λa f=>?_,λ_=>o⟩;have:=l e h;obtain⟨c,wr,k⟩:=e;cases c with
 |obj r=>simp[Event.mute]at this
 |mark m=>simp[MemAct.ofEvent]at f;subst f;simp[Event.mute]at this
 |_=>simp[Event.mute]at this
theorem J5 {send:Bool} (f:∀k g,k≠i->gs[k]?=some g->g.status≠.blocked):partners (gs.setIfInBounds i ph) c send=[]:=by
 refine partners_nil λk g d=>?_
 obtain⟨rfl,rfl⟩|⟨b,a⟩:=getElem?_stand gs i k g d
 .exact offersAt_ph _ _
 .exact offersAt_of_not_blocked (f k g b a) _ _
theorem YU (O:GR P Z Ad Still (fun B t=>PX Ad Still Mem Am B h t) j By):∀(X n:Nat) (gs:Array m_) (a:m_) (w:o_) (sl:d_ (W_)) (t:Trace) (q:Nat->Nat) (B:Nat),
  n+sumTo gs.size q<X->gs[h]?=some a->a.status=.running->Duo P Ad Still Mem Am B h j By n gs w t q->
  ∃(N:Nat) (Bh:Array m_) (w':o_) (d:Nat) (sl0 Eh:d_ (W_)) (t':Trace) (q':Nat->Nat) (n':Nat),
   runNT P N (crowd gs w sl) t=(.next (crowd Bh w' sl0),t')/\Bh.size=gs.size/\Bh[h]?=some a/\CP Z w w'/\(∃B',B<=B'/\Duo P Ad Still Mem Am B' h j By n' Bh w' t' q')/\stepT P (crowd Bh w' sl0)=runT P (crowd Bh (w'.at d) Eh) h:=by
 intro X
 induction X with
 |zero=>intro n gs a w sl t q B hX;omega
 |succ X ih=>
  intro n gs a w sl t q B hX K I D
  obtain⟨b,hb,hB⟩:=D.idle
  have haw:∀g∈gs,awake g:=by
   intro g V
   obtain⟨i,H,rfl⟩:=Array.mem_iff_getElem.1 V
   have S:=v_ H
   by_cases e1:i=h
   .subst e1;rw[K]at S;rw[<-x_ S];exact awake_of (.inl I)
   .by_cases e2:i=j
    .subst e2;rw[hb]at S;rw[<-x_ S];exact awake_of ((O.status hB).elim (λx=>.inl x.1) .inr)
    .exact awake_of ((D.JG i _ e1 e2 S).status.elim .inl λx=>.inr (.inr x))
  obtain⟨i,g,d,Eh,H,V,Cc⟩:=crowd_pick (P:=P) (w:=w) (sl:=sl) haw ⟨h,a,K,I⟩;have BL:i<gs.size:=(y_.1 H).1;by_cases e1:i=h
  .subst e1;exact⟨0,gs,w,d,sl,Eh,t,q,n,rfl,rfl,K,CP.refl w,⟨B,w_ _,D⟩,Cc⟩
  .by_cases e2:i=j
   .subst e2;obtain rfl:g=b:=(by rw[hb]at H;exact(x_ H).symm);have nob:∀k y,k≠i->gs[k]?=some y->y.status≠.blocked:=by
     intro k y C hy
     by_cases e3:k=h
     .subst e3;rw[K]at hy;rw[<-x_ hy,I];simp
     .have:=(D.JG k y e3 C hy).status;obtain h1|h1:=this<;>rw[h1]<;>simp
    obtain⟨n',g',w',J,hn,hgo,hoff,⟨Bu,hBu,hsu,Lu⟩,G⟩|⟨n',f,cases,shape,J,hn,IY,A,Lu,G⟩|⟨n',f,cases,shape,J,k,c,z,cap,s,r,tm,hn,IY,C,hcl,A,Lu,G⟩:=O.step hB V D.tr D.size d
    .have L:=runT_crowd_go (P:=P) (sl:=Eh) (i:=i) H hgo;have E:((gs.map (woken P g g' w')).setIfInBounds i g').size=gs.size:=zF;obtain⟨N,Bh,T,U,sl0,R,t',q',v,hr,Q,p,u,M,l⟩:=ih n' ((gs.map (woken P g g' w')).setIfInBounds i g') a w' Eh (t++MemOp.ofEvents i g.frame.fn g.frame.place J) q Bu (by rw[E];omega)
      (by rw[z_ e1,jI,K];simp[woken_run I]) I
      ⟨D.ne,D.zero,D.mem,⟨g',by simp[BL],G⟩,λk x OW F o=>by
       rw[z_ (ik F),jI]at o
       obtain⟨y,hy,rfl⟩:=jb.1 o
       have Y:=D.JG k y OW F hy
       rw[woken_quitsD Y,Deaf_other t (ik F) _ Zv]
       exact Y,λk C=>by
       rw[Deaf_other t (g':=i) (by simp at C;omega) _ Zv]
       exact D.above k (by simpa using C),Lu,hsu⟩;exact⟨N+1,Bh,T,U,sl0,R,t',q',v,by simp only[runNT,Cc,L];exact hr,Q.trans E,p,hoff.trans u,let ⟨B',h1,h2⟩:=M;⟨B',pV hBu h1,h2⟩,l⟩
    .have L:=crowd_waits (P:=P) (sl:=Eh) (i:=i) H IY (λcc GL=>by
      obtain⟨c,z,k,rfl,hc⟩:=A cc GL
      exact ways_recv_none (show(w.at d).heap[c]?=_ from hc) (J5 nob));have E:(gs.setIfInBounds i (parked f cases shape)).size=gs.size:=zF;obtain⟨N,Bh,T,U,sl0,R,t',q',v,hr,Q,p,u,M,l⟩:=ih n' (gs.setIfInBounds i (parked f cases shape)) a (w.at d) Eh (t++MemOp.ofEvents i g.frame.fn g.frame.place J) q B (by rw[E];omega)
      (by rw[z_ e1];exact K) I
      ⟨D.ne,D.zero,D.mem,⟨_,by simp[BL],G⟩,λk x OW F o=>by
       rw[z_ (ik F)]at o
       rw[Deaf_other t (ik F) _ Zv]
       exact D.JG k x OW F o,λk C=>by
       rw[Deaf_other t (g':=i) (by simp at C;omega) _ Zv]
       exact D.above k (by simpa using C),Lu,D.size⟩;exact⟨N+1,Bh,T,U,sl0,R,t',q',v,by simp only[runNT,Cc,L];exact hr,Q.trans E,p,(CP.at w d).trans u,M,l⟩
    .have L:=crowd_sel_recv_closed (P:=P) (sl:=Eh) (i:=i) H IY C (λm cc hm GL=>by
      obtain⟨c',z',k',rfl,hc⟩:=A m cc hm GL
      exact ways_recv_none (show(w.at d).heap[c']?=_ from hc) (J5 nob)) (show(w.at d).heap[c]?=_ from hcl) (J5 nob);have E:(gs.setIfInBounds i (Conc.served f (commResult cases shape k z false))).size=gs.size:=zF;have hg1:∀op∈MemOp.ofEvents i g.frame.fn g.frame.place J++#[{ g:=i,fn:=f.frame.fn,pos:=f.frame.place,act:=.recvClosed c }],op.g=i:=by
      intro op A
      obtain A|A:=Array.mem_append.1 A
      .exact Zv op A
      .simp at A;subst A;rfl
     obtain⟨N,Bh,T,U,sl0,R,t',q',v,hr,Q,p,u,M,l⟩:=ih n' (gs.setIfInBounds i (Conc.served f (commResult cases shape k z false))) a (w.at d) Eh (t++(MemOp.ofEvents i g.frame.fn g.frame.place J++#[{ g:=i,fn:=f.frame.fn,pos:=f.frame.place,act:=.recvClosed c }])) q B (by rw[E];omega)
      (by rw[z_ e1];exact K) I
      ⟨D.ne,D.zero,D.mem,⟨_,by simp[BL],G⟩,λk x OW F o=>by
       rw[z_ (ik F)]at o
       rw[Deaf_other t (ik F) _ hg1]
       exact D.JG k x OW F o,λk C=>by
       rw[Deaf_other t (g':=i) (by simp at C;omega) _ hg1]
       exact D.above k (by simpa using C),Lu,D.size⟩;exact⟨N+1,Bh,T,U,sl0,R,t',q',v,by simp only[runNT,Cc,L];exact hr,Q.trans E,p,(CP.at w d).trans u,M,l⟩
   .have LQ:i≠0:=by obtain e|e:=D.zero<;>omega
    have Y:=D.JG i g e1 e2 H;have hi0:(i==0)=false:=(by simp;omega);cases hqi:q i with
    |zero=>rw[hqi]at Y;rw[Y.1]at V;cases V
    |succ k=>
     rw[hqi]at Y
     obtain⟨hf,_⟩|⟨_,g',J,hm,hstp,hq'⟩:=Y
     .rw[hf]at V;cases V
     have L:=runT_crowd_go (P:=P) (sl:=Eh) (i:=i) H (by rw[hi0];exact hstp (w.at d));have E:((gs.map (woken P g g' (w.at d))).setIfInBounds i g').size=gs.size:=zF;have hsum:sumTo gs.size (upd q i k)+(k+1)=sumTo gs.size q+k:=by
      have:=sumTo_upd q k id BL
      simpa [hqi]using this
     have W:∀op∈MemOp.ofEvents i g.frame.fn g.frame.place J,op.act.touch?=none:=λop A=>by obtain⟨e,he,rfl⟩:=qw A;exact touch_mute (hm e he)
     have hnm:¬Mem i:=λS=>(D.mem i S).elim e1 e2
     obtain⟨N,Bh,T,U,sl0,R,t',q',v,hr,Q,p,u,M,l⟩:=ih n ((gs.map (woken P g g' (w.at d))).setIfInBounds i g') a (w.at d) Eh (t++MemOp.ofEvents i g.frame.fn g.frame.place J) (upd q i k) B (by rw[E];omega)
      (by rw[z_ e1,jI,K];simp[woken_run I]) I
      ⟨D.ne,D.zero,D.mem,⟨b,by
       rw[z_ e2,jI,hb]
       simp only[Option.map_some,qx]
       exact woken_of_again (O.again hB (w.at d) λ_ _=>rfl),O.calm (w.at d) _ hB (λ_ _=>rfl) (Rq e2 LQ hm)⟩,λx y OV ML o=>by
       by_cases e3:i=x
       .subst e3;rw[pU (by simpa using BL)]at o;obtain rfl:=x_ o;rw[upd_same,Deaf_own];exact hq'
       .rw[z_ e3,jI]at o;obtain⟨z,hz,rfl⟩:=jb.1 o;have hqj:=D.JG x z OV ML hz;rw[woken_quitsD hqj,upd_ne q k (ik e3),Deaf_other t e3 _ Zv];exact hqj,λx o=>by
       rw[Deaf_other t (g':=i) (by simp at o;omega) _ Zv];exact D.above x (by simpa using o),D.tr.appMute Zv W (λx=>(hnm x).elim) (λop A=>by obtain⟨e,he,rfl⟩:=qw A;exact low_mute (hm e he) B),D.size⟩
     exact⟨N+1,Bh,T,U,sl0,R,t',q',v,by simp only[runNT,Cc,L];exact hr,Q.trans E,p,(CP.at w d).trans u,M,l⟩
theorem iY (O:GR P Z Ad Still (fun B t=>PX Ad Still Mem Am B h t) j By) {Kst:m_->o_->Prop}:∀(M n:Nat) (gs:Array m_) (a:m_) (w:o_) (sl:d_ (W_)) (t:Trace) (q:Nat->Nat) (B:Nat),
  n+sumTo gs.size q<=M->gs[h]?=some a->a.status=.running->Duo P Ad Still Mem Am B h j By n gs w t q->
  (∀w1,CP Z w w1->∃W w' es V,stepG P (h==0) a w1=.go W w' es/\B<=V/\(∀e∈es,Zz Ad Still V e)/\Jj Z w1 w'/\w'.heap.size<=V/\Kst W w')->
  ∃(N:Nat) (X:Array m_) (W:m_) (w':o_) (Eh:d_ (W_)) (Y:Trace) (q':Nat->Nat) (n' V:Nat),
   runNT P N (crowd gs w sl) t=(.next (crowd X w' Eh),Y)/\X.size=gs.size/\X[h]?=some W/\Kst W w'/\B<=V/\Duo P Ad Still Mem Am V h j By n' X w' Y q':=by
 intro M n gs a w sl t q B _ H z D F;obtain⟨N,X,w1,d,U,Eh,Y,q',n',R,S,p,Q,⟨o,l,D⟩,E⟩:=YU O _ n gs a w sl t q B (Nat.lt_succ_self _) H z D;obtain⟨b,K,r⟩:=D.idle;obtain⟨W,w',es,V,m,I,f,c,C,J⟩:=F (w1.at d) (Q.trans (CP.at w1 d));have f:∀e∈es,Zz Ad Still (max V o) e:=λe L=>(f e L).mono (Nat.le_max_left ..)
 have A:h<X.size:=(y_.1 p).1;refine⟨N+1,(X.map (woken P a W w')).setIfInBounds h W,W,w',Eh,Y++MemOp.ofEvents h a.frame.fn a.frame.place es,q',n',max V o,by rw[runNT_add,R];simp only[runNT,E,runT_crowd_go (P:=P) (sl:=Eh) (i:=h) p m],by simpa using S,by simp[A],J,pV l (Nat.le_max_right ..),⟨D.ne,D.zero,D.mem,⟨b,?_,O.calm w' _ r c (Gf D.ne f)⟩,λk x g G v=>?_,λk s=>?_,(D.tr.mono (Nat.le_max_right ..)).own f,pV C (Nat.le_max_left ..)⟩⟩
 .rw[z_ D.ne,jI,K];simp only[Option.map_some,qx];exact woken_of_again (O.again r w' c)
 .rw[z_ (ik g),jI]at v;obtain⟨y,T,rfl⟩:=jb.1 v;have u:=D.JG k y g G T;rw[woken_quitsD u,Deaf_other Y (ik g) _ Zv];exact u
 .rw[Deaf_other Y (g':=h) (by simp at s;omega) _ Zv];exact D.above k (by simpa using s)
theorem be1 (p:Gp Ad Z) (m:Gp Still Z) {n:Nat} (o:n<=B) (l:EvT Z n e):Zz Ad Still B e:=by
 have c:=gY p o l;have k:=gY m o l;refine⟨λx b=>⟨λg=>?_,λd=>c.1 x b d⟩,c.2.1,c.2.2.1,c.2.2.2,λa h=>?_⟩
 case refine_2=>
  obtain⟨a,e1,_⟩|⟨r,e1,_⟩|e1|⟨f,e1⟩:=l<;>rw[e1]at h<;>cases h
 exfalso;obtain⟨i,wr,j⟩:=e;obtain⟨a,e1,e2,_⟩|⟨r,e1,e2,_⟩|e1|⟨f,e1⟩:=l
 .simp only at e1;subst e1;simp only[MemAct.ofEvent,MemAct.touch?]at b;obtain rfl:=x_ b;exact e2 (m.1 _ g)
 .simp only at e1;subst e1;cases wr<;>cases j<;>simp only[MemAct.ofEvent,MemAct.touch?]at b<;>first
   | (obtain rfl:=x_ b
      exact e2 (m.2 _ g))
   |(cases b;done)
 all_goals
  simp only at e1;subst e1
  simp[MemAct.ofEvent,MemAct.touch?]at b
def AQ (P:l_) (gs:Array m_) (w:o_) (sl:d_ (W_)) (t:Trace) (Q:Array m_->o_->Trace->Prop):Prop:=
 ∃N Bh w' Eh t',runNT P N (crowd gs w sl) t=(.next (crowd Bh w' Eh),t')/\Bh.size=gs.size/\Q Bh w' t'
theorem AQ.now {sl:d_ (W_)} (a:Q gs w t):AQ P gs w sl t Q:=⟨0,gs,w,sl,t,rfl,rfl,a⟩
theorem AQ.bind {sl:d_ (W_)} (r:AQ P gs w sl t Q) (q:∀n w' p o,n.size=gs.size->Q n w' o->AQ P n w' p o Q'):AQ P gs w sl t Q':=by
 obtain⟨N,a,w1,g,l,k,f,i⟩:=r;obtain⟨h,b,w2,e,m,c,d,j⟩:=q a w1 g l f i;refine⟨N+h,b,w2,e,m,?_,d.trans f,j⟩;rw[runNT_add,k];exact c
theorem AQ.mono {sl:d_ (W_)} (n:AQ P gs w sl t Q) (m:∀k w' l,Q k w' l->Q' k w' l):AQ P gs w sl t Q':=by
 obtain⟨N,a,w1,b,f,d,e,c⟩:=n;exact⟨N,a,w1,b,f,d,e,m _ _ _ c⟩
end
/-! ### a seat -/
def EvR (Still:Loc->Prop) (e:Event):Prop:=∃a,e=⟨.cell a,false,false⟩/\Still (.cell a)
def G5 (P:l_) (main:Bool) (K:o_->Prop) (Still:Loc->Prop) (cases:Array CommCase) (shape:CommShape) (home:m_->Prop):Nat->m_->Prop
 |0,g=>∃g₂ es,home g₂/\g₂.status=.running/\(∀e∈es,EvR Still e)/\∀w,K w->stepG P main g w=.comm g₂ cases true shape w es
 |k+1,g=>∃g' es,(g'.status=.running)/\(∀e∈es,EvR Still e)/\(∀w,K w->stepG P main g w=.go g' w es)/\G5 P main K Still cases shape home k g'
structure Sl (Z:Nat->Prop) (Still:Loc->Prop) (K:o_->Prop):Prop where
 keep:∀w w',Jj Z w w'->K w->K w'
 still:∀w a,K w->Still (.cell a)->a.block<w.heap.size
structure aP (Ad Still:Loc->Prop) (j:Nat) (TT:Trace->Prop):Prop where
 ss:∀l,Still l->¬Ad l
 calm:∀t u,TT t->Xz Ad Still j u->TT (t++u)
 reads:∀t u,TT t->(∀op∈u,∀b,op.act.touch?=some b->b.write=false/\Still b.loc)->TT (t++u)
def OL (P:l_) (main:Bool) (K K1:o_->Prop) (TT:Trace->Prop) (Still:Loc->Prop) (cases:Array CommCase) (shape:CommShape) (home:m_->Prop) (n:Nat) (g:m_) (w:o_) (t:Trace):Prop:=
 (K1 w/\TT t)/\(∀cc∈cases,Gt w cc)/\((n=0/\∃g₂,g=parked g₂ cases shape/\home g₂/\g₂.status=.running)\/(∃k,n=k+1/\g.status=.running/\G5 P main K Still cases shape home k g))
section
variable {P:l_} {Z:Nat->Prop} {Ad Still:Loc->Prop} {Mem Am:Nat->Prop} {h j:Nat} {K K1:o_->Prop} {TT:Trace->Prop} {cases:Array CommCase} {shape:CommShape} {home:m_->Prop}
theorem Wn (l:∀cc∈cases,∀c z,cc=rcase c z->Z c) (d:Jj Z w w') (f:∀cc∈cases,Gt w cc):∀cc∈cases,Gt w' cc:=λcc a=>by
 obtain⟨c,z,k,e,b⟩:=f cc a;exact⟨c,z,k,e,by rw[d c (l cc a c z e)];exact b⟩
theorem Jb (L:Sl Z Still K) (l:K w) (m:w.heap.size<=B) (k:∀e∈es,EvR Still e):
  (∀op∈MemOp.ofEvents i fn pos es,∀b,op.act.touch?=some b->b.write=false/\Still b.loc)/\(∀t,Deaf (t++MemOp.ofEvents i fn pos es) i=Deaf t i)/\(∀op∈MemOp.ofEvents i fn pos es,op.act.low B):=by
 refine⟨λop d b g=>?_,λt=>?_,λop d=>?_⟩
 .obtain⟨e,c,rfl⟩:=qw d;obtain⟨a,rfl,f⟩:=k e c;simp only[MemAct.ofEvent,MemAct.touch?]at g;obtain rfl:=x_ g;exact⟨rfl,f⟩
 .rw[Deaf_own];exact deafBehind_still (λe c=>by obtain⟨a,rfl,_⟩:=k e c;exact⟨zF,zF⟩) _
 .obtain⟨e,c,rfl⟩:=qw d;obtain⟨a,rfl,f⟩:=k e c;have:=L.still w a l f;simp only[MemAct.ofEvent,MemAct.low,Loc.low];omega
theorem Xi (L:Sl Z Still K1) (R:∀w,K1 w->K w) (S:aP Ad Still j TT) (V:∀cc∈cases,∀c z,cc=rcase c z->Z c) (U:Mem j) (T:Am j):
  GR P Z Ad Still (λB t=>PX Ad Still Mem Am B h t) j (OL P (j==0) K K1 TT Still cases shape home) where
 status:=by
  rintro n g w t ⟨_,_,⟨rfl,a,rfl,_⟩|⟨k,rfl,f,_⟩⟩
  .exact .inr (.inl rfl)
  .exact .inl ⟨f,zD⟩
 again:=by
  rintro n g w t ⟨_,b,⟨rfl,a,rfl,_⟩|⟨k,rfl,f,_⟩⟩ G p
  .refine again_all_open λcc I=>?_
   obtain⟨c,z,k,e,M⟩:=Wn V p b cc I;exact⟨c,z,0,#[],k,k,false,e,M⟩
  .exact again_running _ (.inl f)
 calm:=by
  rintro n g w t G u ⟨⟨l,q⟩,b,f⟩ p O
  exact⟨⟨L.keep w G p l,S.calm t u q O⟩,Wn V p b,f⟩
 step:=by
  rintro n g w t B ⟨⟨l,q⟩,b,⟨rfl,a,rfl,_⟩|⟨k,rfl,f,F⟩⟩ H E x d
  .cases H
  .have o:K1 (w.at d):=L.keep w (w.at d) (λ_ _=>rfl) l;cases k with
   |zero=>
    obtain⟨a,v,N,y,s,r⟩:=F
    obtain⟨m,C,D⟩:=Jb (B:=B) (i:=j) (fn:=g.frame.fn) (pos:=g.frame.place) L l x s
    exact .inr (.inl ⟨0,a,cases,shape,v,zD,r _ (R _ o),b,PX.appRead S.ss E U T Zv m (C t) D,⟨o,S.reads t _ q m⟩,b,.inl ⟨rfl,a,rfl,N,y⟩⟩)
   |succ k=>
    obtain⟨J,v,y,s,r,A⟩:=F
    obtain⟨m,C,D⟩:=Jb (B:=B) (i:=j) (fn:=g.frame.fn) (pos:=g.frame.place) L l x s
    exact .inl ⟨k+1,J,w.at d,v,zD,r _ (R _ o),CP.at w d,⟨B,w_ _,x,PX.appRead S.ss E U T Zv m (C t) D⟩,⟨o,S.reads t _ q m⟩,b,.inr ⟨k,rfl,y,A⟩⟩
end
theorem xe (h:∀cc∈cs,∃c cap d s r f,cc.chan=.chan (some c)/\w.heap[c]?=some (.chan cap d false s r f)):(parked g cs sh).again w=parked g cs sh:=by
 simp[Goroutine.again,parked];intro x b;obtain⟨c,cap,d,s,r,f,e,a⟩:=h cs[x] (Array.getElem_mem b);rw[e];simp[a]
theorem ZV {k:Nat} {v z:n_} (l:cs[k]?=some (scase c v z)) (n:∀(m:Nat) (cc:CommCase),m≠k->cs[m]?=some cc->cc.chan≠.chan (some c)):offersAt (parked g cs sh) c true=[k]:=by
 have i:(cs.zipIdx.toList.filter λx:CommCase×Nat=>x.1.send.isSome==true && (match x.1.chan with | .chan (some b)=>b==c|_=>false))=[(scase c v z,k)]:=by
  have d:∀m:Nat,cs.zipIdx.toList[m]?=(cs[m]?).map λx=>(x,m):=by intro m;simp
  have key:=filter_map_one (λx:CommCase×Nat=>x) (λx:CommCase×Nat=>x.1.send.isSome==true && (match x.1.chan with | .chan (some b)=>b==c|_=>false)) cs.zipIdx.toList k (scase c v z,k) (by rw[d,l];rfl) (by simp[scase]) (by
   intro m x j a
   rw[d]at a
   cases e:cs[m]? with
   |none=>rw[e]at a;cases a
   |some y=>
    rw[e]at a
    simp only[Option.map_some,qx]at a
    subst a
    have:=n m y j e
    simp only[Bool.and_eq_false_iff]
    refine .inr ?_
    split
    .rename_i b h;rw[beq_eq_false_iff_ne];intro f;subst f;exact this h
    .rfl)
  simpa using key
 unfold offersAt;exact congrArg (List.map λx:CommCase×Nat=>x.2) i
section
variable {P:l_} {Z:Nat->Prop} {Ad Still:Loc->Prop} {Mem Am:Nat->Prop} {h j:Nat} {K K1:o_->Prop} {TT:Trace->Prop} {cJ cH:Array CommCase} {Zn Z9:CommShape} {home:m_->Prop} {kh kj c:Nat} {v z zj:n_} {a₂:m_}
structure XM (Z:Nat->Prop) (cH cJ:Array CommCase) (kh kj c:Nat) (v z zj:n_):Prop where
 hkh:cH[kh]?=some (scase c v z)
 hoh:∀(m:Nat) cc,m≠kh->cH[m]?=some cc->∃c' z',cc=rcase c' z'/\c'≠c/\Z c'
 hkj:cJ[kj]?=some (rcase c zj)
 hoj:∀(m:Nat) cc,m≠kj->cJ[m]?=some cc->cc.chan≠.chan (some c)
 hrj:∀cc∈cJ,∃c z,cc=rcase c z/\Z c
def Met (P:l_) (TT:Trace->Prop) (Ad Still:Loc->Prop) (Mem Am:Nat->Prop) (B h j:Nat) (cH cJ:Array CommCase) (Z9 Zn:CommShape) (home:m_->Prop) (kh kj c:Nat) (v:n_) (a₂:m_) (w:o_) (Bh:Array m_) (w':o_) (t':Trace):Prop:=
 ∃(q':Nat->Nat) (g₂:m_) (d k:Nat),Bh[h]?=some (Conc.served a₂ (commResult cH Z9 kh undef false))/\Bh[j]?=some (Conc.served g₂ (commResult cJ Zn kj v true))/\home g₂/\g₂.status=.running/\w.heap[c]?=some (.chan 0 #[] false k k false)/\w'=(w.at d).setChan c 0 #[] false (k+1) (k+1) false/\
  (∀i g,i≠h->i≠j->Bh[i]?=some g->QuitsD P (q' i) (Deaf t' i) g)/\(∀i,Bh.size<=i->Deaf t' i=0)/\PX Ad Still Mem (λg=>Am g/\g≠j) B j t'/\TT t'/\PX Ad Still Mem Am B h t'
theorem XM.bo9 (M:XM Z cH cJ kh kj c v z zj) (o:∀cc∈cJ,Gt w cc) (n:∀(m:Nat) cc,m≠kh->cH[m]?=some cc->Gt w cc):∀cc∈cH,∃c cap l s r p,cc.chan=.chan (some c)/\w.heap[c]?=some (.chan cap l false s r p):=by
 intro cc g;obtain⟨m,h,rfl⟩:=Array.mem_iff_getElem.1 g;have a:=v_ h;by_cases e:m=kh
 .subst e;rw[M.hkh]at a;rw[<-x_ a];obtain⟨b,i,k,d,f⟩:=o _ (Array.mem_of_getElem? M.hkj);have:b=c:=by simp[rcase]at d;exact d.1.symm
  subst this;exact⟨b,0,#[],k,k,false,rfl,f⟩
 .obtain⟨b,i,k,d,f⟩:=n m _ e a;rw[d];exact⟨b,0,#[],k,k,false,rfl,f⟩
theorem XM.chan (M:XM Z cH cJ kh kj c v z zj) (f:∀cc∈cJ,Gt w cc):∃k,w.heap[c]?=some (.chan 0 #[] false k k false):=by
 obtain⟨b,e,k,a,d⟩:=f _ (Array.mem_of_getElem? M.hkj);have:b=c:=by simp[rcase]at a;exact a.1.symm
 subst this;exact⟨k,d⟩
theorem Met.aj {d:Nat} {p:Array m_} {q:Trace} (H:Met P TT Ad Still Mem Am B h j cH cJ Z9 Zn home kh kj c v a₂ (w.at d) p w' q):Met P TT Ad Still Mem Am B h j cH cJ Z9 Zn home kh kj c v a₂ w p w' q:=by
 obtain⟨o,a,b,k,e,f,g,i,l,m,n⟩:=H;exact⟨o,a,b,k,e,f,g,i,l,m,n⟩
theorem ϓ (L:Sl Z Still K1) (hK1:∀w,K1 w->K w) (hT:aP Ad Still j TT) (M:XM Z cH cJ kh kj c v z zj) (hMh:Mem h) (hMj:Mem j) (dI:Am j):∀(X k:Nat) (gs:Array m_) (b:m_) (w:o_) (sl:d_ (W_)) (t:Trace) (q:Nat->Nat) (B:Nat),k+sumTo gs.size q<X->h≠j->(h=0\/j=0)->(∀g,Mem g->g=h\/g=j)->
  gs[h]?=some (parked a₂ cH Z9)->gs[j]?=some b->b.status=.running->K1 w->TT t->(∀cc∈cJ,Gt w cc)->(∀(m:Nat) cc,m≠kh->cH[m]?=some cc->Gt w cc)->G5 P (j==0) K Still cJ Zn home k b->
  (∀i g,i≠h->i≠j->gs[i]?=some g->QuitsD P (q i) (Deaf t i) g)->(∀i,gs.size<=i->Deaf t i=0)->PX Ad Still Mem Am B h t->w.heap.size<=B->
  AQ P gs w sl t (Met P TT Ad Still Mem Am B h j cH cJ Z9 Zn home kh kj c v a₂ w):=by
 intro X
 induction X with
 |zero=>intro k gs b w sl t q B hX;omega
 |succ X ih=>
  intro k gs b w sl t q B hX Cm hz s I hj H hK jr pW S hw n G Lu hB
  have hjl:j<gs.size:=(y_.1 hj).1
  have haw:∀g∈gs,awake g:=by
   intro g C
   obtain⟨i,r,rfl⟩:=Array.mem_iff_getElem.1 C
   have D:=v_ r
   by_cases e1:i=h
   .subst e1;rw[I]at D;rw[<-x_ D];exact awake_of (.inr (.inl rfl))
   .by_cases e2:i=j
    .subst e2;rw[hj]at D;rw[<-x_ D];exact awake_of (.inl H)
    .exact awake_of ((n i _ e1 e2 D).status.elim .inl λx=>.inr (.inr x))
  obtain⟨i,g,d,V,r,C,Cc⟩:=crowd_pick (P:=P) (w:=w) (sl:=sl) haw ⟨j,b,hj,H⟩;have BL:i<gs.size:=(y_.1 r).1;have e1:i≠h:=by intro e;subst e;rw[I]at r;rw[<-x_ r]at C;cases C
  have LK:∀x x':m_,woken P x x' (w.at d) (parked a₂ cH Z9)=parked a₂ cH Z9:=λx x'=>woken_of_again (xe (M.bo9 (w:=w.at d) pW S))
  have Zq:K1 (w.at d):=L.keep w (w.at d) (λ_ _=>rfl) hK;by_cases e2:i=j
  .subst e2;obtain rfl:g=b:=(by rw[hj]at r;exact(x_ r).symm);cases k with
   |zero=>
    obtain⟨a,F,J,hr,FW,IY⟩:=hw
    obtain⟨kc,hc⟩:=M.chan pW
    have l:∀x y,x≠h->(gs.setIfInBounds i ph)[x]?=some y->∀W b',offersAt y W b'=[]:=by
     intro x y f o W b'
     obtain⟨rfl,rfl⟩|⟨hxi,U⟩:=getElem?_stand gs i x y o
     .exact offersAt_ph _ _
     .exact offersAt_of_not_blocked (by obtain h1|h1:=(n x y f hxi U).status<;>rw[h1]<;>simp) _ _
    have bt6:(gs.setIfInBounds i ph)[h]?=some (parked a₂ cH Z9):=stand_get (ik e1) I;have CS:=Zg (P:=P) (sl:=V) (i:=i) (j:=h) (w₁:=w.at d) r (IY _ (hK1 _ Zq)) M.hkj (λm cc O GL=>by
      obtain⟨W,z',k',rfl,hc'⟩:=pW cc (Array.mem_of_getElem? GL)
      refine ways_recv_none (show(w.at d).heap[W]?=_ from hc') (partners_nil λx y o=>?_)
      by_cases f:x=h
      .subst f;rw[bt6]at o;rw[<-x_ o];have cm8:W≠c:=λe=>M.hoj m _ O GL (by rw[e];rfl)
       have:(cH.zipIdx.toList.filter λx:CommCase×Nat=>x.1.send.isSome==true && (match x.1.chan with | .chan (some r')=>r'==W | _=>false))=[]:=by
        rw[List.filter_eq_nil_iff]
        rintro⟨cc,m'⟩ hm'
        have Q:=mem_of_zipIdx hm'
        by_cases em:m'=kh
        .subst em;rw[M.hkh]at Q;rw[<-x_ Q];simp[scase];exact λe=>cm8 e.symm
        .obtain⟨c2,z2,rfl,_,_⟩:=M.hoh m' cc em Q;simp[rcase]
       exact congrArg (List.map λx:CommCase×Nat=>x.2) this
      .exact l x y f o _ _) (show(w.at d).heap[c]?=_ from hc) (ik e1) I M.hkh (by
      rw[partners_one bt6 (λx y f o=>l x y f o _ _),ZV M.hkh (λm cc O GL=>by
       obtain⟨c2,z2,rfl,hne2,_⟩:=M.hoh m cc O GL;simp[rcase];exact hne2)]
      rfl)
    obtain⟨r1,r2,r3⟩:=Jb (B:=B) (i:=i) (fn:=g.frame.fn) (pos:=g.frame.place) L hK hB FW;have hcB:c<B:=(by have:=(y_.1 hc).1;omega);have qo:=PX.appRead hT.ss Lu hMj dI Zv r1 (r2 t) r3;have bl5:=qo.give hMh hMj a₂.frame.fn a₂.frame.place a.frame.fn a.frame.place kc 0 hcB;have u:((gs.setIfInBounds h (Conc.served a₂ (commResult cH Z9 kh undef false))).setIfInBounds i (Conc.served a (commResult cJ Zn kj v true))).size=gs.size:=zF;have hhl:h<gs.size:=(y_.1 I).1;have p:∀x,x≠h->x≠i->Deaf (t++(MemOp.ofEvents i g.frame.fn g.frame.place F++met h i a₂.frame.fn a₂.frame.place a.frame.fn a.frame.place c kc 0)) x=Deaf t x:=by
     intro x h1 h2
     rw[<-Array.append_assoc,Deaf_quiet (met_quiet _ _ _ _ _ _ _ _ _ x),Deaf_other t (ik h2) _ Zv]
    refine⟨1,_,_,V,t++(MemOp.ofEvents i g.frame.fn g.frame.place F++met h i a₂.frame.fn a₂.frame.place a.frame.fn a.frame.place c kc 0),by simp only[runNT,Cc,CS,met],u,q,a,d,kc,?_,?_,J,hr,hc,rfl,λx y E A o=>?_,λx f=>?_,?_,?_,?_⟩
    .rw[z_ e1,pU hhl]
    .rw[pU (by simpa using BL)]
    .rw[z_ (ik A),z_ (ik E)]at o;rw[p x E A];exact n x y E A o
    .rw[u]at f;rw[p x zD zD];exact G x f
    .rw[<-Array.append_assoc];exact bl5
    .rw[<-Array.append_assoc];exact hT.reads _ _ (hT.reads t _ jr r1) (λop AZ b H=>by rw[met_mute _ _ _ _ _ _ _ _ _ op AZ]at H;cases H)
    .rw[<-Array.append_assoc];exact qo.yR a₂.frame.fn a₂.frame.place a.frame.fn a.frame.place kc 0 hcB
   |succ k=>
    obtain⟨g',F,hr,FW,hgo,hw'⟩:=hw
    have CS:=runT_crowd_go (P:=P) (sl:=V) (i:=i) r (hgo _ (hK1 _ Zq))
    have Cb:((gs.map (woken P g g' (w.at d))).setIfInBounds i g').size=gs.size:=zF
    obtain⟨r1,r2,r3⟩:=Jb (B:=B) (i:=i) (fn:=g.frame.fn) (pos:=g.frame.place) L hK hB FW
    obtain⟨N,Bh,w',Nk,t',Hq,Iu,hQ⟩:=ih k ((gs.map (woken P g g' (w.at d))).setIfInBounds i g') g' (w.at d) V (t++MemOp.ofEvents i g.frame.fn g.frame.place F) q B (by rw[Cb];omega) Cm hz s
     (by rw[z_ e1,jI,I];simp[LK]) (by simp[BL]) hr Zq (hT.reads t _ jr r1) pW S hw' (λx y E A o=>by
      rw[z_ (ik A),jI]at o
      obtain⟨y',U,rfl⟩:=jb.1 o
      have T:=n x y' E A U
      rw[woken_quitsD T,Deaf_other t (ik A) _ Zv];exact T) (λx f=>by
      rw[Deaf_other t (g':=i) (by simp at f;omega) _ Zv];exact G x (by simpa using f))
     (PX.appRead hT.ss Lu hMj dI Zv r1 (r2 t) r3) hB
    exact⟨N+1,Bh,w',Nk,t',by simp only[runNT,Cc,CS];exact Hq,Iu.trans Cb,hQ.aj⟩
  .have LQ:i≠0:=by obtain e|e:=hz<;>omega
   have T:=n i g e1 e2 r;have hi0:(i==0)=false:=(by simp;omega);cases hqi:q i with
   |zero=>rw[hqi]at T;rw[T.1]at C;cases C
   |succ Y=>
    rw[hqi]at T
    obtain⟨hf,_⟩|⟨_,g',F,O,hstp,hq'⟩:=T
    .rw[hf]at C;cases C
    have CS:=runT_crowd_go (P:=P) (sl:=V) (i:=i) r (by rw[hi0];exact hstp (w.at d));have Cb:((gs.map (woken P g g' (w.at d))).setIfInBounds i g').size=gs.size:=zF;have hsum:sumTo gs.size (upd q i Y)+(Y+1)=sumTo gs.size q+Y:=by
     have:=sumTo_upd q Y id BL
     simpa [hqi]using this
    have R:∀op∈MemOp.ofEvents i g.frame.fn g.frame.place F,op.act.touch?=none:=λop AZ=>by obtain⟨e,he,rfl⟩:=qw AZ;exact touch_mute (O e he)
    have hnm:¬Mem i:=λD=>(s i D).elim e1 e2
    obtain⟨N,Bh,w',Nk,t',Hq,Iu,hQ⟩:=ih k ((gs.map (woken P g g' (w.at d))).setIfInBounds i g') b (w.at d) V (t++MemOp.ofEvents i g.frame.fn g.frame.place F) (upd q i Y) B (by rw[Cb];omega) Cm hz s
     (by rw[z_ e1,jI,I];simp[LK]) (by rw[z_ e2,jI,hj];simp[woken_run H]) H Zq (hT.calm t _ jr (Rq e2 LQ O)) pW S hw (λx y E A f=>by
       by_cases e3:i=x
       .subst e3;rw[pU (by simpa using BL)]at f;obtain rfl:=x_ f;rw[upd_same,Deaf_own];exact hq'
       .rw[z_ e3,jI]at f;obtain⟨z,hz,rfl⟩:=jb.1 f;have hqj:=n x z E A hz;rw[woken_quitsD hqj,upd_ne q Y (ik e3),Deaf_other t e3 _ Zv];exact hqj) (λx f=>by
       rw[Deaf_other t (g':=i) (by simp at f;omega) _ Zv];exact G x (by simpa using f))
     (Lu.appMute Zv R (λx=>(hnm x).elim) (λop AZ=>by obtain⟨e,he,rfl⟩:=qw AZ;exact low_mute (O e he) B)) hB
    exact⟨N+1,Bh,w',Nk,t',by simp only[runNT,Cc,CS];exact Hq,Iu.trans Cb,hQ.aj⟩
theorem Yu (L:Sl Z Still K1) (hK1:∀w,K1 w->K w) (hT:aP Ad Still j TT) (M:XM Z cH cJ kh kj c v z zj) (hMh:Mem h) (hMj:Mem j) (dI:Am j):∀(X n:Nat) (gs:Array m_) (a:m_) (w:o_) (sl:d_ (W_)) (t:Trace) (q:Nat->Nat) (B:Nat),
  n+sumTo gs.size q<X->gs[h]?=some a->a.status=.running->Duo P Ad Still Mem Am B h j (OL P (j==0) K K1 TT Still cJ Zn home) n gs w t q->(∀(m:Nat) cc,m≠kh->cH[m]?=some cc->Gt w cc)->
  (∀d,stepG P (h==0) a (w.at d)=.comm a₂ cH true Z9 (w.at d) es)->(∀e∈es,Zz Ad Still B e)->AQ P gs w sl t (Met P TT Ad Still Mem Am B h j cH cJ Z9 Zn home kh kj c v a₂ w):=by
 have hzJ:∀cc∈cJ,∀c z,cc=rcase c z->Z c:=λcc V c z e=>by
  obtain⟨A,z',e',hz⟩:=M.hrj cc V
  rw[e]at e'
  have:c=A:=by simp[rcase]at e';exact e'.1
  rw[this];exact hz
 have hsJ:∀cc∈cJ,cc.send=none:=λcc V=>by obtain⟨A,z',e',_⟩:=M.hrj cc V;rw[e'];rfl
 intro X
 induction X with
 |zero=>intro n gs a w sl t q B hX;omega
 |succ X ih=>
  intro n gs a w sl t q B hX Y W D G IY FW
  obtain⟨b,T,hBy⟩:=D.idle
  have O:GR P Z Ad Still (λB t=>PX Ad Still Mem Am B h t) j (OL P (j==0) K K1 TT Still cJ Zn home):=Xi L hK1 hT hzJ hMj dI
  have H:=D.ne
  have haw:∀g∈gs,awake g:=by
   intro g hg
   obtain⟨i,F,rfl⟩:=Array.mem_iff_getElem.1 hg
   have NV:=v_ F
   by_cases e1:i=h
   .subst e1;rw[Y]at NV;rw[<-x_ NV];exact awake_of (.inl W)
   .by_cases e2:i=j
    .subst e2;rw[T]at NV;rw[<-x_ NV];exact awake_of ((O.status hBy).elim (λx=>.inl x.1) .inr)
    .exact awake_of ((D.JG i _ e1 e2 NV).status.elim .inl λx=>.inr (.inr x))
  obtain⟨i,g,d,S,F,hg,Cc⟩:=crowd_pick (P:=P) (w:=w) (sl:=sl) haw ⟨h,a,Y,W⟩;have BL:i<gs.size:=(y_.1 F).1;have hjl:j<gs.size:=(y_.1 T).1;have hhl:h<gs.size:=(y_.1 Y).1;obtain⟨⟨hK,jr⟩,pW,Ql⟩:=hBy;have Zq:K1 (w.at d):=L.keep w (w.at d) (λ_ _=>rfl) hK;by_cases e1:i=h
  .subst e1;obtain rfl:g=a:=(by rw[Y]at F;exact(x_ F).symm);have r:∀x y,x≠j->(gs.setIfInBounds i ph)[x]?=some y->∀A b',offersAt y A b'=[]:=by
    intro x y o l A b'
    obtain⟨rfl,rfl⟩|⟨hxi,hy'⟩:=getElem?_stand gs i x y l
    .exact offersAt_ph _ _
    .exact offersAt_of_not_blocked (by obtain h1|h1:=(D.JG x y hxi o hy').status<;>rw[h1]<;>simp) _ _
   have bl7:(gs.setIfInBounds i ph)[j]?=some b:=stand_get (ik H) T;obtain⟨rfl,f,rfl,p,hr⟩|⟨k,rfl,hbr,s⟩:=Ql
   ·
    obtain⟨kc,hc⟩:=M.chan pW;have U:=Ze (P:=P) (sl:=S) (i:=i) (j:=j) (w₁:=w.at d) F (IY d) M.hkh (λm cc hm V=>by
      obtain⟨A,z',k',rfl,I⟩:=G m cc hm V
      refine ways_recv_none (show(w.at d).heap[A]?=_ from I) (partners_nil λx y l=>?_)
      by_cases o:x=j
      .subst o;rw[bl7]at l;rw[<-x_ l];exact offersAt_parked_sends hsJ _
      .exact r x y o l _ _) (show(w.at d).heap[c]?=_ from hc) (ik H) T M.hkj (by
      rw[partners_one bl7 (λx y o l=>r x y o l _ _),offersAt_parked_at M.hkj M.hoj]
      rfl)
    have hcB:c<B:=(by have:=(y_.1 hc).1;have:=D.size;omega);have qo:=D.tr.own (fn:=g.frame.fn) (pos:=g.frame.place) FW;have bl5:=qo.give hMh hMj a₂.frame.fn a₂.frame.place f.frame.fn f.frame.place kc 0 hcB;have R:((gs.setIfInBounds j (Conc.served f (commResult cJ Zn kj v true))).setIfInBounds i (Conc.served a₂ (commResult cH Z9 kh undef false))).size=gs.size:=zF;have J:∀x,x≠i->x≠j->Deaf (t++(MemOp.ofEvents i g.frame.fn g.frame.place es++met i j a₂.frame.fn a₂.frame.place f.frame.fn f.frame.place c kc 0)) x=Deaf t x:=by
     intro x h1 h2
     rw[<-Array.append_assoc,Deaf_quiet (met_quiet _ _ _ _ _ _ _ _ _ x),Deaf_other t (ik h1) _ Zv]
    refine⟨1,_,_,S,t++(MemOp.ofEvents i g.frame.fn g.frame.place es++met i j a₂.frame.fn a₂.frame.place f.frame.fn f.frame.place c kc 0),by simp only[runNT,Cc,U,met],R,q,f,d,kc,?_,?_,p,hr,hc,rfl,λx y E u l=>?_,λx o=>?_,?_,?_,?_⟩
    .rw[pU (by simpa using BL)]
    .rw[z_ H,pU hjl]
    .rw[z_ (ik E),z_ (ik u)]at l;rw[J x E u];exact D.JG x y E u l
    .rw[R]at o;rw[J x zD zD];exact D.above x o
    .rw[<-Array.append_assoc];exact bl5
    .rw[<-Array.append_assoc];exact hT.reads _ _ (hT.calm t _ jr (Gf H FW)) (λop AZ b T=>by rw[met_mute _ _ _ _ _ _ _ _ _ op AZ]at T;cases T)
    .rw[<-Array.append_assoc];exact qo.yR a₂.frame.fn a₂.frame.place f.frame.fn f.frame.place kc 0 hcB
   ·
    obtain⟨kc,hc⟩:=M.chan pW;have yU:∀(x:Nat) (y:m_),(gs.setIfInBounds i ph)[x]?=some y->∀A b',offersAt y A b'=[]:=by
     intro x y l A b'
     by_cases o:x=j
     .subst o;rw[bl7]at l;rw[<-x_ l];exact offersAt_of_not_blocked (by rw[hbr];simp) _ _
     .exact r x y o l A b'
    have U:=crowd_waits (P:=P) (sl:=S) (i:=i) (w₁:=w.at d) F (IY d) (λcc V=>by
     obtain⟨m,hm,rfl⟩:=Array.mem_iff_getElem.1 V
     have hm':=v_ hm
     by_cases em:m=kh
     .subst em;rw[M.hkh]at hm';rw[<-x_ hm'];exact ways_send_none (show(w.at d).heap[c]?=_ from hc) zF (partners_nil λx y l=>yU x y l _ _)
     .obtain⟨A,z',k',e',I⟩:=G m _ em hm';rw[e'];exact ways_recv_none (show(w.at d).heap[A]?=_ from I) (partners_nil λx y l=>yU x y l _ _))
    have C:(gs.setIfInBounds i (parked a₂ cH Z9)).size=gs.size:=zF;obtain⟨N,Bh,w',Nk,t',Hq,Iu,hQ⟩:=ϓ (P:=P) (home:=home) (Zn:=Zn) (Z9:=Z9) (a₂:=a₂) L hK1 hT M hMh hMj dI (k+sumTo gs.size q+1) k (gs.setIfInBounds i (parked a₂ cH Z9)) b (w.at d) S (t++MemOp.ofEvents i g.frame.fn g.frame.place es) q B (by rw[C];omega) H D.zero D.mem
     (by rw[pU BL]) (by rw[z_ H];exact T) hbr Zq (hT.calm t _ jr (Gf H FW)) pW G s (λx y E u l=>by
      rw[z_ (ik E)]at l
      rw[Deaf_other t (ik E) _ Zv];exact D.JG x y E u l) (λx o=>by
      rw[C]at o
      rw[Deaf_other t (g':=i) zD _ Zv];exact D.above x o)
     (D.tr.own FW) D.size;exact⟨N+1,Bh,w',Nk,t',by simp only[runNT,Cc,U];exact Hq,Iu.trans C,hQ.aj⟩
  .by_cases e2:i=j
   .subst e2;obtain rfl:g=b:=(by rw[T]at F;exact(x_ F).symm);obtain⟨rfl,f,rfl,p,hr⟩|⟨k,rfl,hbr,s⟩:=Ql
    .cases hg
    .cases k with
     |zero=>
      obtain⟨f,CJ,p,hr,Q,cm6⟩:=s
      obtain⟨r1,r2,r3⟩:=Jb (B:=B) (i:=i) (fn:=g.frame.fn) (pos:=g.frame.place) L hK D.size Q
      have nob:∀k y,k≠i->gs[k]?=some y->y.status≠.blocked:=by
       intro k y hk l
       by_cases e3:k=h
       .subst e3;rw[Y]at l;rw[<-x_ l,W];simp
       .have:=(D.JG k y e3 hk l).status;obtain h1|h1:=this<;>rw[h1]<;>simp
      have U:=crowd_waits (P:=P) (sl:=S) (i:=i) (w₁:=w.at d) F (cm6 _ (hK1 _ Zq)) (λcc V=>by
       obtain⟨A,z',k',rfl,I⟩:=pW cc V
       exact ways_recv_none (show(w.at d).heap[A]?=_ from I) (J5 nob));have C:(gs.setIfInBounds i (parked f cJ Zn)).size=gs.size:=zF;obtain⟨N,Bh,w',Nk,t',Hq,Iu,hQ⟩:=ih 0 (gs.setIfInBounds i (parked f cJ Zn)) a (w.at d) S (t++MemOp.ofEvents i g.frame.fn g.frame.place CJ) q B (by rw[C];omega)
       (by rw[z_ (ik H)];exact Y) W
       ⟨H,D.zero,D.mem,⟨_,pU BL,⟨Zq,hT.reads t _ jr r1⟩,pW,.inl ⟨rfl,f,rfl,p,hr⟩⟩,λx y E u l=>by
        rw[z_ (ik u)]at l
        rw[Deaf_other t (ik u) _ Zv];exact D.JG x y E u l,λx o=>by
        rw[C]at o
        rw[Deaf_other t (g':=i) zD _ Zv];exact D.above x o,PX.appRead hT.ss D.tr hMj dI Zv r1 (r2 t) r3,D.size⟩ G (λd'=>IY d') FW;exact⟨N+1,Bh,w',Nk,t',by simp only[runNT,Cc,U];exact Hq,Iu.trans C,hQ.aj⟩
     |succ k=>
      obtain⟨g',CJ,hr,Q,hgo',hw'⟩:=s
      obtain⟨r1,r2,r3⟩:=Jb (B:=B) (i:=i) (fn:=g.frame.fn) (pos:=g.frame.place) L hK D.size Q
      have U:=runT_crowd_go (P:=P) (sl:=S) (i:=i) F (hgo' _ (hK1 _ Zq))
      have C:((gs.map (woken P g g' (w.at d))).setIfInBounds i g').size=gs.size:=zF
      obtain⟨N,Bh,w',Nk,t',Hq,Iu,hQ⟩:=ih (k+1) ((gs.map (woken P g g' (w.at d))).setIfInBounds i g') a (w.at d) S (t++MemOp.ofEvents i g.frame.fn g.frame.place CJ) q B (by rw[C];omega)
       (by rw[z_ (ik H),jI,Y];simp[woken_run W]) W
       ⟨H,D.zero,D.mem,⟨g',by simp[BL],⟨Zq,hT.reads t _ jr r1⟩,pW,.inr ⟨k,rfl,hr,hw'⟩⟩,λx y E u l=>by
        rw[z_ (ik u),jI]at l
        obtain⟨y',hy',rfl⟩:=jb.1 l
        have hq:=D.JG x y' E u hy'
        rw[woken_quitsD hq,Deaf_other t (ik u) _ Zv];exact hq,λx o=>by
        rw[C]at o
        rw[Deaf_other t (g':=i) zD _ Zv];exact D.above x o,PX.appRead hT.ss D.tr hMj dI Zv r1 (r2 t) r3,D.size⟩ G (λd'=>IY d') FW
      exact⟨N+1,Bh,w',Nk,t',by simp only[runNT,Cc,U];exact Hq,Iu.trans C,hQ.aj⟩
   .have LQ:i≠0:=by obtain e|e:=D.zero<;>omega
    have hq:=D.JG i g e1 e2 F;have hi0:(i==0)=false:=(by simp;omega);cases hqi:q i with
    |zero=>rw[hqi]at hq;rw[hq.1]at hg;cases hg
    |succ kk=>
     rw[hqi]at hq
     obtain⟨hf,_⟩|⟨_,g',CJ,hm,hstp,hq'⟩:=hq
     .rw[hf]at hg;cases hg
     have U:=runT_crowd_go (P:=P) (sl:=S) (i:=i) F (by rw[hi0];exact hstp (w.at d));have C:((gs.map (woken P g g' (w.at d))).setIfInBounds i g').size=gs.size:=zF;have hsum:sumTo gs.size (upd q i kk)+(kk+1)=sumTo gs.size q+kk:=by
      have:=sumTo_upd q kk id BL
      simpa [hqi]using this
     have hmute:∀op∈MemOp.ofEvents i g.frame.fn g.frame.place CJ,op.act.touch?=none:=λop AZ=>by obtain⟨e,he,rfl⟩:=qw AZ;exact touch_mute (hm e he)
     have hnm:¬Mem i:=λNV=>(D.mem i NV).elim e1 e2
     have bv1:OL P (j==0) K K1 TT Still cJ Zn home n b w t:=⟨⟨hK,jr⟩,pW,Ql⟩;obtain⟨N,Bh,w',Nk,t',Hq,Iu,hQ⟩:=ih n ((gs.map (woken P g g' (w.at d))).setIfInBounds i g') a (w.at d) S (t++MemOp.ofEvents i g.frame.fn g.frame.place CJ) (upd q i kk) B (by rw[C];omega)
      (by rw[z_ e1,jI,Y];simp[woken_run W]) W
      ⟨H,D.zero,D.mem,⟨b,by
       rw[z_ e2,jI,T]
       simp only[Option.map_some,qx]
       exact woken_of_again (O.again bv1 (w.at d) λ_ _=>rfl),O.calm (w.at d) _ bv1 (λ_ _=>rfl) (Rq e2 LQ hm)⟩,λx y E u o=>by
       by_cases e3:i=x
       .subst e3;rw[pU (by simpa using BL)]at o;obtain rfl:=x_ o;rw[upd_same,Deaf_own];exact hq'
       .rw[z_ e3,jI]at o;obtain⟨z,hz,rfl⟩:=jb.1 o;have hqj:=D.JG x z E u hz;rw[woken_quitsD hqj,upd_ne q kk (ik e3),Deaf_other t e3 _ Zv];exact hqj,λx o=>by
       rw[Deaf_other t (g':=i) (by simp at o;omega) _ Zv];exact D.above x (by simpa using o),D.tr.appMute Zv hmute (λx=>(hnm x).elim) (λop AZ=>by obtain⟨e,he,rfl⟩:=qw AZ;exact low_mute (hm e he) B),D.size⟩ G (λd'=>IY d') FW
     exact⟨N+1,Bh,w',Nk,t',by simp only[runNT,Cc,U];exact Hq,Iu.trans C,hQ.aj⟩
end
end Go.Fxa
