/- A holder and one bystander, be -/
import Derived.Test.YtmhplpfpcnjekaaGreatA03
import Derived.Test.YtmhplpfpcnjekaaGreatA04
namespace Go.Fxa
open Go.Conc
open Go.ConcN (sumTo upd sumTo_upd upd_ne upd_same)
structure BZ (Z:Nat->Prop) (w w1:o_):Prop where
 size:w.heap.size<=w1.heap.size
 same:∀r,¬Z r->w1.heap[r]?=w.heap[r]?
 os:w1.os=w.os
 output:w1.output=w.output
 tape:w1.tape=w.tape
def I5 (Z:Nat->Prop) (w w1:o_):Prop:=∀r,Z r->w1.heap[r]?=w.heap[r]?
def Yr (Ac Still:Loc->Prop) (B:Nat) (e:Event):Prop:=
 (∀x,(MemAct.ofEvent e).touch?=some x->(Still x.loc->x.write=false/\¬Ac x.loc)/\(Ac x.loc->x.kind≠.plain))/\e.loc≠.mark .disable/\e.loc≠.mark .enable/\(MemAct.ofEvent e).low B/\∀a,e.loc≠.mark (.release a)
def FY (w:o_) (cc:CommCase):Prop:=∃c z k,cc=rcase c z/\w.heap[c]?=some (.chan 0 #[] false k k false)
def Meek (Ac Still:Loc->Prop) (j:Nat) (u:Trace):Prop:=∀op∈u,op.g≠j/\(∀b,op.act.touch?=some b->(Still b.loc->b.write=false/\¬Ac b.loc)/\(Ac b.loc->b.kind≠.plain))/\(∀a,op.act≠.mark (.release a))/\(op.act=.mark .disable\/op.act=.mark .enable->op.g≠0)
def bb9 (Tr:Nat->Trace->Prop) (B:Nat) (w:o_) (t:Trace):Prop:=∃B',B<=B'/\w.heap.size<=B'/\Tr B' t
structure Gp (P:l_) (Z:Nat->Prop) (Ac Still:Loc->Prop) (Tr:Nat->Trace->Prop) (j:Nat) (By:Nat->m_->o_->Trace->Prop):Prop where
 status:∀{n g w t},By n g w t->(g.status=.running/\0<n)\/g.status=.blocked\/g.status=.finished
 again:∀{n g w t},By n g w t->∀w',I5 Z w w'->g.again w'=g
 calm:∀{n g w t} (w':o_) (u:Trace),By n g w t->I5 Z w w'->Meek Ac Still j u->By n g w' (t++u)
 step:∀{n g w t B},By n g w t->g.status=.running->Tr B t->w.heap.size<=B->∀d,
  (∃n' g' w' es,n'<n/\stepG P (j==0) g (w.at d)=.go g' w' es/\BZ Z w w'/\bb9 Tr B w' (t++MemOp.ofEvents j g.frame.fn g.frame.place es)/\By n' g' w' (t++MemOp.ofEvents j g.frame.fn g.frame.place es))\/
  (∃n' g₂ cases shape es,n'<n/\stepG P (j==0) g (w.at d)=.comm g₂ cases true shape (w.at d) es/\(∀cc∈cases,FY w cc)/\Tr B (t++MemOp.ofEvents j g.frame.fn g.frame.place es)/\
   By n' (parked g₂ cases shape) (w.at d) (t++MemOp.ofEvents j g.frame.fn g.frame.place es))\/
  (∃n' g₂ cases shape es k c z cap s r tm,n'<n/\stepG P (j==0) g (w.at d)=.comm g₂ cases true shape (w.at d) es/\cases[k]?=some (rcase c z)/\w.heap[c]?=some (.chan cap #[] true s r tm)/\(∀(m:Nat) cc,m≠k->cases[m]?=some cc->FY w cc)/\
   Tr B (t++(MemOp.ofEvents j g.frame.fn g.frame.place es++#[{ g:=j,fn:=g₂.frame.fn,pos:=g₂.frame.place,act:=.recvClosed c }]))/\
   By n' (Conc.served g₂ (commResult cases shape k z false)) (w.at d) (t++(MemOp.ofEvents j g.frame.fn g.frame.place es++#[{ g:=j,fn:=g₂.frame.fn,pos:=g₂.frame.place,act:=.recvClosed c }])))
structure Duo (P:l_) (Ac Still:Loc->Prop) (Mem Ai:Nat->Prop) (B h j:Nat) (By:Nat->m_->o_->Trace->Prop) (n:Nat) (gs:Array m_) (w:o_) (t:Trace) (q:Nat->Nat):Prop where
 ne:h≠j
 zero:h=0\/j=0
 mem:∀g,Mem g->g=h\/g=j
 idle:∃b,gs[j]?=some b/\By n b w t
 F6:∀i g,i≠h->i≠j->gs[i]?=some g->QuitsD P (q i) (Deaf t i) g
 above:∀i,gs.size<=i->Deaf t i=0
 tr:PX Ac Still Mem Ai B h t
 size:w.heap.size<=B
section
variable {P:l_} {Z:Nat->Prop} {Ac Still:Loc->Prop} {Mem Ai:Nat->Prop} {h j:Nat} {By:Nat->m_->o_->Trace->Prop}
theorem BZ.refl (w:o_):BZ Z w w:=⟨w_ _,λ_ _=>rfl,rfl,rfl,rfl⟩
theorem BZ.at (w:o_) (d:Nat):BZ Z w (w.at d):=⟨w_ _,λ_ _=>rfl,rfl,rfl,rfl⟩
theorem BZ.trans {w w1 w2:o_} (h:BZ Z w w1) (h':BZ Z w1 w2):BZ Z w w2:=
 ⟨Nat.le_trans h.size h'.size,λr a=>(h'.same r a).trans (h.same r a),h'.os.trans h.os,h'.output.trans h.output,h'.tape.trans h.tape⟩
theorem BZ.at7 {w w1:o_} (h:BZ Z w w1) (hZ:∀r,Z r->r<w.heap.size):w1.heap.size=w.heap.size:=by
 refine Nat.le_antisymm (Nat.le_of_not_lt λa=>?_) h.size;have e:=h.same w.heap.size λb=>Nat.lt_irrefl _ (hZ _ b)
 rw[Array.getElem?_eq_none (w_ _),v_ a]at e;cases e
theorem Twin.off {Od:Old} {v w w1:o_} (T:Twin Od Z v w) (hZ:∀r,Z r->r<v.heap.size) (h:BZ Z w w1):Twin Od Z v w1:=
 ⟨T.size.trans (h.at7 (by rw[<-T.size];exact hZ)).symm,λr b a=>(T.same r b a).trans (h.same r b).symm,T.dead,T.plain,T.os.trans h.os.symm,T.output.trans h.output.symm,T.JQ,λr a=>(h.same r (T.XG r a)).trans (T.kept r a),T.XG⟩
theorem Yr.mono {B B':Nat} (hB:B<=B') {e:Event} (h:Yr Ac Still B e):Yr Ac Still B' e:=⟨h.1,h.2.1,h.2.2.1,MemAct.low_mono hB h.2.2.2.1,h.2.2.2.2⟩
theorem ofEvents_g {i:Nat} {fn:h_} {pos:String} {es:Array Event}:∀op∈MemOp.ofEvents i fn pos es,op.g=i:=λop a=>by
 obtain⟨e,_,rfl⟩:=Go.Conc.mem_ofEvents a;rfl
theorem PX.own {B:Nat} {t:Trace} (H:PX Ac Still Mem Ai B h t) {fn:h_} {pos:String} {es:Array Event} (Fv:∀e∈es,Yr Ac Still B e):PX Ac Still Mem Ai B h (t++MemOp.ofEvents h fn pos es):=by
 refine H.appH ofEvents_g (λop c b d=>by obtain⟨e,a,rfl⟩:=Go.Conc.mem_ofEvents c;exact(Fv e a).1 b d) (λ_=>?_) (λop c=>by obtain⟨e,a,rfl⟩:=Go.Conc.mem_ofEvents c;exact(Fv e a).2.2.2.1);rw[Deaf_own];exact deafBehind_still (λe a=>⟨(Fv e a).2.1,(Fv e a).2.2.1⟩) _
theorem E8 {B i:Nat} {fn:h_} {pos:String} {es:Array Event} (Cf:i≠j) (Fv:∀e∈es,Yr Ac Still B e):Meek Ac Still j (MemOp.ofEvents i fn pos es):=by
 intro op h;refine⟨by rw[ofEvents_g op h];exact Cf,?_⟩;obtain⟨e,f,rfl⟩:=Go.Conc.mem_ofEvents h;refine⟨λb n=>(Fv e f).1 b n,λa c=>?_,λc=>?_⟩
 .have:=(Fv e f).2.2.2.2 a;obtain⟨d,wr,g⟩:=e;cases d with
  |obj r=>cases wr<;>cases g<;>simp[MemAct.ofEvent]at c
  |mark m=>simp[MemAct.ofEvent]at c;subst c;exact this rfl
  |_=>simp[MemAct.ofEvent]at c
 .exfalso;have k:=(Fv e f).2.1;have l:=(Fv e f).2.2.1;obtain⟨d,wr,g⟩:=e;cases d with
  |obj r=>cases wr<;>cases g<;>simp[MemAct.ofEvent]at c
  |mark m=>simp[MemAct.ofEvent]at c;obtain rfl|rfl:=c;exact k rfl;exact l rfl
  |_=>simp[MemAct.ofEvent]at c
theorem Oq {i:Nat} {fn:h_} {pos:String} {es:Array Event} (Cf:i≠j) (hi:i≠0) (Fv:∀e∈es,e.mute=true):Meek Ac Still j (MemOp.ofEvents i fn pos es):=by
 intro op d;refine⟨by rw[ofEvents_g op d];exact Cf,?_⟩;obtain⟨e,h,rfl⟩:=Go.Conc.mem_ofEvents d;refine⟨λb g=>(by rw[touch_mute (Fv e h)]at g;cases g),λa f=>?_,λ_=>hi⟩;have:=Fv e h;obtain⟨c,wr,k⟩:=e;cases c with
 |obj r=>simp[Event.mute]at this
 |mark m=>simp[MemAct.ofEvent]at f;subst f;simp[Event.mute]at this
 |_=>simp[Event.mute]at this
theorem Fq {gs:Array m_} {i c:Nat} {send:Bool} (hb:∀k g,k≠i->gs[k]?=some g->g.status≠.blocked):partners (gs.setIfInBounds i ph) c send=[]:=by
 refine partners_nil λk g d=>?_
 obtain⟨rfl,rfl⟩|⟨b,a⟩:=getElem?_stand gs i k g d
 .exact offersAt_ph _ _
 .exact offersAt_of_not_blocked (hb k g b a) _ _
theorem ay (O:Gp P Z Ac Still (fun B t=>PX Ac Still Mem Ai B h t) j By) {xK:m_->o_->Prop}:∀(M n:Nat) (gs:Array m_) (a:m_) (w:o_) (sl:d_ (W_)) (t:Trace) (q:Nat->Nat) (B:Nat),
  n+sumTo gs.size q<=M->gs[h]?=some a->a.status=.running->Duo P Ac Still Mem Ai B h j By n gs w t q->
  (∀w1,BZ Z w w1->∃a' w' es B',stepG P (h==0) a w1=.go a' w' es/\B<=B'/\(∀e∈es,Yr Ac Still B' e)/\I5 Z w1 w'/\w'.heap.size<=B'/\xK a' w')->
  ∃(N:Nat) (A7:Array m_) (a':m_) (w':o_) (DJ:d_ (W_)) (t':Trace) (q':Nat->Nat) (n' B':Nat),
   runNT P N (crowd gs w sl) t=(.next (crowd A7 w' DJ),t')/\A7.size=gs.size/\A7[h]?=some a'/\xK a' w'/\B<=B'/\Duo P Ac Still Mem Ai B' h j By n' A7 w' t' q':=by
 intro M
 induction M with
 |zero=>
  intro n gs a w sl t q B hM R Q D Kw
  obtain⟨b,hb,U⟩:=D.idle
  have haw:∀g∈gs,awake g:=by
   intro g o
   obtain⟨i,p,rfl⟩:=Array.mem_iff_getElem.1 o
   have T:=v_ p
   by_cases e1:i=h
   .subst e1;rw[R]at T;rw[<-x_ T];exact awake_of (.inl Q)
   .by_cases e2:i=j
    .subst e2;rw[hb]at T;rw[<-x_ T];exact awake_of ((O.status U).elim (λx=>.inl x.1) .inr)
    .exact awake_of ((D.F6 i _ e1 e2 T).status.elim .inl λx=>.inr (.inr x))
  obtain⟨i,g,d,DJ,p,o,BI⟩:=crowd_pick (P:=P) (w:=w) (sl:=sl) haw ⟨h,a,R,Q⟩;have Bv:i<gs.size:=(y_.1 p).1;by_cases e1:i=h
  .subst e1;obtain rfl:g=a:=(by rw[R]at p;exact(x_ p).symm);obtain⟨a',w',es,B',X,W,FW,Y,C,hK⟩:=Kw (w.at d) (BZ.at w d);have S:=runT_crowd_go (P:=P) (sl:=DJ) (i:=i) p X;have hjl:j<gs.size:=(y_.1 hb).1;refine⟨1,(gs.map (woken P g a' w')).setIfInBounds i a',a',w',DJ,t++MemOp.ofEvents i g.frame.fn g.frame.place es,q,n,B',by simp only[runNT,BI,S],by simp,by simp[Bv],hK,W,⟨D.ne,D.zero,D.mem,⟨b,?_,O.calm w' _ U Y (E8 D.ne FW)⟩,λk x L E l=>?_,λk u=>?_,(D.tr.mono W).own FW,C⟩⟩
   .rw[z_ D.ne,Array.getElem?_map,hb];simp only[Option.map_some,Option.some.injEq];exact woken_of_again (O.again U w' Y)
   .rw[z_ (Ne.symm L),Array.getElem?_map]at l;obtain⟨y,hy,rfl⟩:=Option.map_eq_some_iff.1 l;have A:=D.F6 k y L E hy;rw[woken_quitsD A,Deaf_other t (Ne.symm L) _ ofEvents_g];exact A
   .rw[Deaf_other t (g':=i) (by simp at u;omega) _ ofEvents_g];exact D.above k (by simpa using u)
  .exfalso;by_cases e2:i=j
   .subst e2;obtain rfl:g=b:=(by rw[hb]at p;exact(x_ p).symm);obtain⟨_,hn⟩|h1|h1:=O.status U
    .omega
    .rw[h1]at o;cases o
    .rw[h1]at o;cases o
   .have A:=D.F6 i g e1 e2 p;have hz:q i=0:=by
     have hs:sumTo gs.size (upd q i 0)+q i=sumTo gs.size q+0:=by
      have:=sumTo_upd q 0 id Bv
      simpa using this
     omega
    rw[hz]at A;rw[A.1]at o;cases o
 |succ M ih=>
  intro n gs a w sl t q B hM R Q D Kw
  obtain⟨b,hb,U⟩:=D.idle
  have haw:∀g∈gs,awake g:=by
   intro g o
   obtain⟨i,p,rfl⟩:=Array.mem_iff_getElem.1 o
   have T:=v_ p
   by_cases e1:i=h
   .subst e1;rw[R]at T;rw[<-x_ T];exact awake_of (.inl Q)
   .by_cases e2:i=j
    .subst e2;rw[hb]at T;rw[<-x_ T];exact awake_of ((O.status U).elim (λx=>.inl x.1) .inr)
    .exact awake_of ((D.F6 i _ e1 e2 T).status.elim .inl λx=>.inr (.inr x))
  obtain⟨i,g,d,DJ,p,o,BI⟩:=crowd_pick (P:=P) (w:=w) (sl:=sl) haw ⟨h,a,R,Q⟩;have Bv:i<gs.size:=(y_.1 p).1;by_cases e1:i=h
  .subst e1;obtain rfl:g=a:=(by rw[R]at p;exact(x_ p).symm);obtain⟨a',w',es,B',X,W,FW,Y,C,hK⟩:=Kw (w.at d) (BZ.at w d);have S:=runT_crowd_go (P:=P) (sl:=DJ) (i:=i) p X;refine⟨1,(gs.map (woken P g a' w')).setIfInBounds i a',a',w',DJ,t++MemOp.ofEvents i g.frame.fn g.frame.place es,q,n,B',by simp only[runNT,BI,S],by simp,by simp[Bv],hK,W,⟨D.ne,D.zero,D.mem,⟨b,?_,O.calm w' _ U Y (E8 D.ne FW)⟩,λk x L E l=>?_,λk u=>?_,(D.tr.mono W).own FW,C⟩⟩
   .rw[z_ D.ne,Array.getElem?_map,hb];simp only[Option.map_some,Option.some.injEq];exact woken_of_again (O.again U w' Y)
   .rw[z_ (Ne.symm L),Array.getElem?_map]at l;obtain⟨y,hy,rfl⟩:=Option.map_eq_some_iff.1 l;have A:=D.F6 k y L E hy;rw[woken_quitsD A,Deaf_other t (Ne.symm L) _ ofEvents_g];exact A
   .rw[Deaf_other t (g':=i) (by simp at u;omega) _ ofEvents_g];exact D.above k (by simpa using u)
  .by_cases e2:i=j
   .subst e2;obtain rfl:g=b:=(by rw[hb]at p;exact(x_ p).symm);have ug:∀k y,k≠i->gs[k]?=some y->y.status≠.blocked:=by
     intro k y u hy
     by_cases e3:k=h
     .subst e3;rw[R]at hy;rw[<-x_ hy,Q];simp
     .have:=(D.F6 k y e3 u hy).status;obtain h1|h1:=this<;>rw[h1]<;>simp
    obtain⟨n',g',w',es,hn,X,hoff,⟨Bu,hBu,hsu,IU⟩,V⟩|⟨n',f,cases,shape,es,hn,Ip,v,IU,V⟩|⟨n',f,cases,shape,es,k,c,z,cap,s,r,tm,hn,Ip,u,hcl,v,IU,V⟩:=O.step U o D.tr D.size d
    .have S:=runT_crowd_go (P:=P) (sl:=DJ) (i:=i) p X;have C:((gs.map (woken P g g' w')).setIfInBounds i g').size=gs.size:=(by simp);obtain⟨N,A7,F,KY,Ir,t',q',K,B',hr,Hw,G,hS,I,D'⟩:=ih n' ((gs.map (woken P g g' w')).setIfInBounds i g') a w' DJ (t++MemOp.ofEvents i g.frame.fn g.frame.place es) q Bu (by rw[C];omega)
      (by rw[z_ e1,Array.getElem?_map,R];simp[woken_run Q]) Q
      ⟨D.ne,D.zero,D.mem,⟨g',by simp[Bv],V⟩,λk x L E l=>by
       rw[z_ (Ne.symm E),Array.getElem?_map]at l
       obtain⟨y,hy,rfl⟩:=Option.map_eq_some_iff.1 l
       have A:=D.F6 k y L E hy
       rw[woken_quitsD A,Deaf_other t (Ne.symm E) _ ofEvents_g]
       exact A,λk u=>by
       rw[Deaf_other t (g':=i) (by simp at u;omega) _ ofEvents_g]
       exact D.above k (by simpa using u),IU,hsu⟩
      (λw1 J=>by
       obtain⟨a',w2,es2,B2,k1,k2,k3,k4,k5,k6⟩:=Kw w1 (hoff.trans J)
       exact⟨a',w2,es2,max B2 Bu,k1,Nat.le_max_right ..,λe he=>(k3 e he).mono (Nat.le_max_left ..),k4,Nat.le_trans k5 (Nat.le_max_left ..),k6⟩);exact⟨N+1,A7,F,KY,Ir,t',q',K,B',by simp only[runNT,BI,S];exact hr,Hw.trans C,G,hS,Nat.le_trans hBu I,D'⟩
    .have S:=crowd_waits (P:=P) (sl:=DJ) (i:=i) p Ip (λcc Es=>by
      obtain⟨c,z,k,rfl,hc⟩:=v cc Es
      exact ways_recv_none (show(w.at d).heap[c]?=_ from hc) (Fq ug));have C:(gs.setIfInBounds i (parked f cases shape)).size=gs.size:=(by simp);obtain⟨N,A7,F,KY,Ir,t',q',K,B',hr,Hw,G,hS,I,D'⟩:=ih n' (gs.setIfInBounds i (parked f cases shape)) a (w.at d) DJ (t++MemOp.ofEvents i g.frame.fn g.frame.place es) q B (by rw[C];omega)
      (by rw[z_ e1];exact R) Q
      ⟨D.ne,D.zero,D.mem,⟨_,by simp[Bv],V⟩,λk x L E l=>by
       rw[z_ (Ne.symm E)]at l
       rw[Deaf_other t (Ne.symm E) _ ofEvents_g]
       exact D.F6 k x L E l,λk u=>by
       rw[Deaf_other t (g':=i) (by simp at u;omega) _ ofEvents_g]
       exact D.above k (by simpa using u),IU,D.size⟩
      (λw1 J=>Kw w1 ((BZ.at w d).trans J));exact⟨N+1,A7,F,KY,Ir,t',q',K,B',by simp only[runNT,BI,S];exact hr,Hw.trans C,G,hS,I,D'⟩
    .have S:=crowd_sel_recv_closed (P:=P) (sl:=DJ) (i:=i) p Ip u (λm cc hm Es=>by
      obtain⟨c',z',k',rfl,hc⟩:=v m cc hm Es
      exact ways_recv_none (show(w.at d).heap[c']?=_ from hc) (Fq ug)) (show(w.at d).heap[c]?=_ from hcl) (Fq ug);have C:(gs.setIfInBounds i (Conc.served f (commResult cases shape k z false))).size=gs.size:=(by simp);have hg1:∀op∈MemOp.ofEvents i g.frame.fn g.frame.place es++#[{ g:=i,fn:=f.frame.fn,pos:=f.frame.place,act:=.recvClosed c }],op.g=i:=by
      intro op v
      obtain v|v:=Array.mem_append.1 v
      .exact ofEvents_g op v
      .simp at v;subst v;rfl
     obtain⟨N,A7,F,KY,Ir,t',q',K,B',hr,Hw,G,hS,I,D'⟩:=ih n' (gs.setIfInBounds i (Conc.served f (commResult cases shape k z false))) a (w.at d) DJ (t++(MemOp.ofEvents i g.frame.fn g.frame.place es++#[{ g:=i,fn:=f.frame.fn,pos:=f.frame.place,act:=.recvClosed c }])) q B (by rw[C];omega)
      (by rw[z_ e1];exact R) Q
      ⟨D.ne,D.zero,D.mem,⟨_,by simp[Bv],V⟩,λk x L E l=>by
       rw[z_ (Ne.symm E)]at l
       rw[Deaf_other t (Ne.symm E) _ hg1]
       exact D.F6 k x L E l,λk u=>by
       rw[Deaf_other t (g':=i) (by simp at u;omega) _ hg1]
       exact D.above k (by simpa using u),IU,D.size⟩
      (λw1 J=>Kw w1 ((BZ.at w d).trans J));exact⟨N+1,A7,F,KY,Ir,t',q',K,B',by simp only[runNT,BI,S];exact hr,Hw.trans C,G,hS,I,D'⟩
   .have IY:i≠0:=by obtain e|e:=D.zero<;>omega
    have A:=D.F6 i g e1 e2 p;have hi0:(i==0)=false:=(by simp;omega);cases hqi:q i with
    |zero=>rw[hqi]at A;rw[A.1]at o;cases o
    |succ k=>
     rw[hqi]at A
     obtain⟨hf,_⟩|⟨_,g',es,hm,hstp,hq'⟩:=A
     .rw[hf]at o;cases o
     have S:=runT_crowd_go (P:=P) (sl:=DJ) (i:=i) p (by rw[hi0];exact hstp (w.at d));have C:((gs.map (woken P g g' (w.at d))).setIfInBounds i g').size=gs.size:=(by simp);have hsum:sumTo gs.size (upd q i k)+(k+1)=sumTo gs.size q+k:=by
      have:=sumTo_upd q k id Bv
      simpa [hqi]using this
     have hmute:∀op∈MemOp.ofEvents i g.frame.fn g.frame.place es,op.act.touch?=none:=λop v=>by obtain⟨e,he,rfl⟩:=Go.Conc.mem_ofEvents v;exact touch_mute (hm e he)
     have IU:PX Ac Still Mem Ai B h (t++MemOp.ofEvents i g.frame.fn g.frame.place es):=by
      refine(D.tr.fewer (Ko:=λg=>Mem g/\g≠i) λg o=>o.1).appMute ofEvents_g hmute (λx=>(x.2 rfl).elim) (λop v=>by obtain⟨e,he,rfl⟩:=Go.Conc.mem_ofEvents v;exact low_mute (hm e he) B) |> λH=>⟨H.clean,H.known,λx y l hw hS g o=>?_,λg o=>?_,H.seen⟩
      .obtain⟨op,v,aq3⟩:=touch_of l;obtain⟨_,Gn⟩|⟨_,Jh⟩:=getElem?_append_cases v
       .exact(D.tr.wrote x y (by rw[touchAt_of Gn];exact aq3) hw hS g o).app _
       .rw[hmute op Jh]at aq3;cases aq3
      .by_cases e3:g=i
       .subst e3;exact((D.mem g o).elim e1 e2).elim
       .rw[Deaf_other t (Ne.symm e3) _ ofEvents_g];exact D.tr.hears g o
     obtain⟨N,A7,F,KY,Ir,t',q',K,B',hr,Hw,G,hS,I,D'⟩:=ih n ((gs.map (woken P g g' (w.at d))).setIfInBounds i g') a (w.at d) DJ (t++MemOp.ofEvents i g.frame.fn g.frame.place es) (upd q i k) B (by rw[C];omega)
      (by rw[z_ e1,Array.getElem?_map,R];simp[woken_run Q]) Q
      ⟨D.ne,D.zero,D.mem,⟨b,by
       rw[z_ e2,Array.getElem?_map,hb]
       simp only[Option.map_some,Option.some.injEq]
       exact woken_of_again (O.again U (w.at d) λ_ _=>rfl),O.calm (w.at d) _ U (λ_ _=>rfl) (Oq e2 IY hm)⟩,λx y J4 JE l=>by
       by_cases e3:i=x
       .subst e3;rw[Array.getElem?_setIfInBounds_self_of_lt (by simpa using Bv)]at l;obtain rfl:=x_ l;rw[upd_same,Deaf_own];exact hq'
       .rw[z_ e3,Array.getElem?_map]at l;obtain⟨z,hz,rfl⟩:=Option.map_eq_some_iff.1 l;have hqj:=D.F6 x z J4 JE hz;rw[woken_quitsD hqj,upd_ne q k (Ne.symm e3),Deaf_other t e3 _ ofEvents_g];exact hqj,λx l=>by
       rw[Deaf_other t (g':=i) (by simp at l;omega) _ ofEvents_g];exact D.above x (by simpa using l),IU,D.size⟩
      (λw1 J=>Kw w1 ((BZ.at w d).trans J))
     exact⟨N+1,A7,F,KY,Ir,t',q',K,B',by simp only[runNT,BI,S];exact hr,Hw.trans C,G,hS,I,D'⟩
end
section
variable {P:l_} {Z:Nat->Prop} {Ac Still:Loc->Prop} {Mem Ai:Nat->Prop} {h j:Nat} {By:Nat->m_->o_->Trace->Prop}
theorem ai8 (hu:FT Ac Z) (hs:FT Still Z) {n B:Nat} (hn:n<=B) {e:Event} (he:Ϭ Z n e):Yr Ac Still B e:=by
 have c:=ZO hu hn he;have k:=ZO hs hn he;refine⟨λx b=>⟨λg=>?_,λd=>c.1 x b d⟩,c.2.1,c.2.2.1,c.2.2.2,λa h=>?_⟩
 case refine_2=>
  obtain⟨a,e1,_⟩|⟨r,e1,_⟩|e1|⟨f,e1⟩:=he<;>rw[e1]at h<;>cases h
 exfalso;obtain⟨i,wr,j⟩:=e;obtain⟨a,e1,e2,_⟩|⟨r,e1,e2,_⟩|e1|⟨f,e1⟩:=he
 .simp only at e1;subst e1;simp only[MemAct.ofEvent,MemAct.touch?]at b;obtain rfl:=x_ b;exact e2 (hs.1 _ g)
 .simp only at e1;subst e1;cases wr<;>cases j<;>simp only[MemAct.ofEvent,MemAct.touch?]at b<;>first
   | (obtain rfl:=x_ b
      exact e2 (hs.2 _ g))
   |(cases b;done)
 all_goals
  simp only at e1;subst e1
  simp[MemAct.ofEvent,MemAct.touch?]at b
def AA (P:l_) (gs:Array m_) (w:o_) (sl:d_ (W_)) (t:Trace) (Q:Array m_->o_->Trace->Prop):Prop:=
 ∃N A7 w' DJ t',runNT P N (crowd gs w sl) t=(.next (crowd A7 w' DJ),t')/\A7.size=gs.size/\Q A7 w' t'
theorem AA.now {gs:Array m_} {w:o_} {sl:d_ (W_)} {t:Trace} {Q:Array m_->o_->Trace->Prop} (hq:Q gs w t):AA P gs w sl t Q:=⟨0,gs,w,sl,t,rfl,rfl,hq⟩
theorem AA.bind {gs:Array m_} {w:o_} {sl:d_ (W_)} {t:Trace} {Q Q':Array m_->o_->Trace->Prop} (hq:AA P gs w sl t Q) (hk:∀A7 w' DJ t',A7.size=gs.size->Q A7 w' t'->AA P A7 w' DJ t' Q'):AA P gs w sl t Q':=by
 obtain⟨N,a,w1,g,l,k,f,i⟩:=hq;obtain⟨h,b,w2,e,m,c,d,j⟩:=hk a w1 g l f i;refine⟨N+h,b,w2,e,m,?_,d.trans f,j⟩;rw[runNT_add,k];exact c
theorem AA.mono {gs:Array m_} {w:o_} {sl:d_ (W_)} {t:Trace} {Q Q':Array m_->o_->Trace->Prop} (hq:AA P gs w sl t Q) (hk:∀A7 w' t',Q A7 w' t'->Q' A7 w' t'):AA P gs w sl t Q':=by
 obtain⟨N,a,w1,b,f,d,e,c⟩:=hq;exact⟨N,a,w1,b,f,d,e,hk _ _ _ c⟩
end
/-! ### a seat -/
def EvR (Still:Loc->Prop) (e:Event):Prop:=∃a,e=⟨.cell a,false,false⟩/\Still (.cell a)
def Gs (P:l_) (main:Bool) (K:o_->Prop) (Still:Loc->Prop) (cases:Array CommCase) (shape:CommShape) (home:m_->Prop):Nat->m_->Prop
 |0,g=>∃g₂ es,home g₂/\g₂.status=.running/\(∀e∈es,EvR Still e)/\∀w,K w->stepG P main g w=.comm g₂ cases true shape w es
 |k+1,g=>∃g' es,(g'.status=.running)/\(∀e∈es,EvR Still e)/\(∀w,K w->stepG P main g w=.go g' w es)/\Gs P main K Still cases shape home k g'
structure QP (Z:Nat->Prop) (Still:Loc->Prop) (K:o_->Prop):Prop where
 keep:∀w w',I5 Z w w'->K w->K w'
 still:∀w a,K w->Still (.cell a)->a.block<w.heap.size
structure YD (Ac Still:Loc->Prop) (j:Nat) (TT:Trace->Prop):Prop where
 ss:∀l,Still l->¬Ac l
 calm:∀t u,TT t->Meek Ac Still j u->TT (t++u)
 reads:∀t u,TT t->(∀op∈u,∀b,op.act.touch?=some b->b.write=false/\Still b.loc)->TT (t++u)
def NT (P:l_) (main:Bool) (K K1:o_->Prop) (TT:Trace->Prop) (Still:Loc->Prop) (cases:Array CommCase) (shape:CommShape) (home:m_->Prop) (n:Nat) (g:m_) (w:o_) (t:Trace):Prop:=
 (K1 w/\TT t)/\(∀cc∈cases,FY w cc)/\((n=0/\∃g₂,g=parked g₂ cases shape/\home g₂/\g₂.status=.running)\/(∃k,n=k+1/\g.status=.running/\Gs P main K Still cases shape home k g))
section
variable {P:l_} {Z:Nat->Prop} {Ac Still:Loc->Prop} {Mem Ai:Nat->Prop} {h j:Nat} {K K1:o_->Prop} {TT:Trace->Prop} {cases:Array CommCase} {shape:CommShape} {home:m_->Prop}
theorem U8 {w w':o_} (hz:∀cc∈cases,∀c z,cc=rcase c z->Z c) (hk:I5 Z w w') (ho:∀cc∈cases,FY w cc):∀cc∈cases,FY w' cc:=λcc a=>by
 obtain⟨c,z,k,e,b⟩:=ho cc a;exact⟨c,z,k,e,by rw[hk c (hz cc a c z e)];exact b⟩
theorem GY {B i:Nat} {fn:h_} {pos:String} {es:Array Event} {w:o_} (L:QP Z Still K) (hK:K w) (hB:w.heap.size<=B) (Fv:∀e∈es,EvR Still e):
  (∀op∈MemOp.ofEvents i fn pos es,∀b,op.act.touch?=some b->b.write=false/\Still b.loc)/\(∀t,Deaf (t++MemOp.ofEvents i fn pos es) i=Deaf t i)/\(∀op∈MemOp.ofEvents i fn pos es,op.act.low B):=by
 refine⟨λop d b g=>?_,λt=>?_,λop d=>?_⟩
 .obtain⟨e,c,rfl⟩:=Go.Conc.mem_ofEvents d;obtain⟨a,rfl,f⟩:=Fv e c;simp only[MemAct.ofEvent,MemAct.touch?]at g;obtain rfl:=x_ g;exact⟨rfl,f⟩
 .rw[Deaf_own];exact deafBehind_still (λe c=>by obtain⟨a,rfl,_⟩:=Fv e c;exact⟨by simp,by simp⟩) _
 .obtain⟨e,c,rfl⟩:=Go.Conc.mem_ofEvents d;obtain⟨a,rfl,f⟩:=Fv e c;have:=L.still w a hK f;simp only[MemAct.ofEvent,MemAct.low,Loc.low];omega
theorem VB (L:QP Z Still K1) (hK1:∀w,K1 w->K w) (hT:YD Ac Still j TT) (hz:∀cc∈cases,∀c z,cc=rcase c z->Z c) (hM:Mem j) (hL:Ai j):
  Gp P Z Ac Still (λB t=>PX Ac Still Mem Ai B h t) j (NT P (j==0) K K1 TT Still cases shape home) where
 status:=by
  rintro n g w t ⟨_,_,⟨rfl,a,rfl,_⟩|⟨k,rfl,f,_⟩⟩
  .exact .inr (.inl rfl)
  .exact .inl ⟨f,by omega⟩
 again:=by
  rintro n g w t ⟨_,b,⟨rfl,a,rfl,_⟩|⟨k,rfl,f,_⟩⟩ G q
  .refine again_all_open λcc I=>?_
   obtain⟨c,z,k,e,M⟩:=U8 hz q b cc I;exact⟨c,z,0,#[],k,k,false,e,M⟩
  .exact again_running _ (.inl f)
 calm:=by
  rintro n g w t G u ⟨⟨l,p⟩,b,f⟩ q O
  exact⟨⟨L.keep w G q l,hT.calm t u p O⟩,U8 hz q b,f⟩
 step:=by
  rintro n g w t B ⟨⟨l,p⟩,b,⟨rfl,a,rfl,_⟩|⟨k,rfl,f,F⟩⟩ H E x d
  .cases H
  .have o:K1 (w.at d):=L.keep w (w.at d) (λ_ _=>rfl) l;cases k with
   |zero=>
    obtain⟨a,v,N,y,s,r⟩:=F
    obtain⟨m,C,D⟩:=GY (B:=B) (i:=j) (fn:=g.frame.fn) (pos:=g.frame.place) L l x s
    exact .inr (.inl ⟨0,a,cases,shape,v,by omega,r _ (hK1 _ o),b,PX.appRead hT.ss E hM hL ofEvents_g m (C t) D,⟨o,hT.reads t _ p m⟩,b,.inl ⟨rfl,a,rfl,N,y⟩⟩)
   |succ k=>
    obtain⟨J,v,y,s,r,A⟩:=F
    obtain⟨m,C,D⟩:=GY (B:=B) (i:=j) (fn:=g.frame.fn) (pos:=g.frame.place) L l x s
    exact .inl ⟨k+1,J,w.at d,v,by omega,r _ (hK1 _ o),BZ.at w d,⟨B,w_ _,x,PX.appRead hT.ss E hM hL ofEvents_g m (C t) D⟩,⟨o,hT.reads t _ p m⟩,b,.inr ⟨k,rfl,y,A⟩⟩
end
end Go.Fxa
