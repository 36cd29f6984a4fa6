/- What is held of the trace whil -/
import Derived.Test.YtmhplpfpcnjekaaGreatA01
import Derived.Conc.TokenTrace
import Derived.Conc.Token
import Derived.Conc.CrowdSel
namespace Go.Fxa
open Go.Conc
variable {i g j c q x y d b:Nat} {a:f_} {Lt:Loc->Prop} {u:Unsupported} {op:BinOp} {k:IntKind} {s:FloatKind} {n:Int} {t:j_}
structure PX (Ad Still:Loc->Prop) (Mem Am:Nat->Prop) (B h:Nat) (t:Trace):Prop where
 clean:∀said,¬Race said t
 known:∀i a,touchAt t i=some a->a.loc.isMemory=true->Knows t h i\/((a.write=false\/Ad a.loc)/\Still a.loc/\∃g,t.g? i=some g/\Am g)\/(Ad a.loc/\(a.kind=.atomic/\¬Still a.loc)/\¬t.heard i)
 wrote:∀i a,touchAt t i=some a->a.write=true->(Still a.loc/\¬Ad a.loc)->∀g,Mem g->Knows t g i
 hears:∀g,Mem g->Deaf t g=0
 seen:∀op∈t,op.act.low B
theorem heard_old {t u:Trace} (h:i<t.size):(t++u).heard i ↔ t.heard i:=by
 unfold Trace.heard;rw[g?_old h];constructor
 .rintro⟨g,b,a⟩;exact⟨g,b,by rw[deaf_old (Nat.le_of_lt h)]at a;exact a⟩
 .rintro⟨g,b,a⟩;exact⟨g,b,by rw[deaf_old (Nat.le_of_lt h)];exact a⟩
section
variable {Ad Still:Loc->Prop} {Mem Am:Nat->Prop} {B h:Nat} {t u:Trace}
theorem PX.mono {e:Nat} (H:PX Ad Still Mem Am B h t) (f:B<=e):PX Ad Still Mem Am e h t:=⟨H.clean,H.known,H.wrote,H.hears,λop a=>MemAct.low_mono f (H.seen op a)⟩
theorem PX.fewer {LV:Nat->Prop} (H:PX Ad Still Mem Am B h t) (f:∀g,LV g->Mem g):PX Ad Still LV Am B h t:=⟨H.clean,H.known,λi a d e c g b=>H.wrote i a d e c g (f g b),λg b=>H.hears g (f g b),H.seen⟩
theorem PX.loosen {Loose':Nat->Prop} (H:PX Ad Still Mem Am B h t) (f:∀g,Am g->Loose' g):PX Ad Still Mem Loose' B h t:=
 ⟨H.clean,λi a b e=>(H.known i a b e).imp id (.imp (λ⟨x,y,g,c,d⟩=>⟨x,y,g,c,f g d⟩) id),H.wrote,H.hears,H.seen⟩
theorem PX.old (H:PX Ad Still Mem Am B h t) {a:Touch} {x:MemOp} (f:t[i]?=some x) (l:x.act.touch?=some a) (m:a.loc.isMemory=true):
  Knows (t++u) h i\/((a.write=false\/Ad a.loc)/\Still a.loc/\∃g,(t++u).g? i=some g/\Am g)\/(Ad a.loc/\(a.kind=.atomic/\¬Still a.loc)/\¬(t++u).heard i):=by
 have b:=lt_size_of_getElem? f;obtain d|⟨p,q,g,c,e⟩|⟨p,q,r⟩:=H.known i a (by rw[touchAt_of f];exact l) m
 .exact .inl (d.app u)
 .exact .inr (.inl ⟨p,q,g,by rw[g?_old b];exact c,e⟩)
 .exact .inr (.inr ⟨p,q,by rw[heard_old b];exact r⟩)
theorem PX.O5 (H:PX Ad Still Mem Am B h t) (l:∀op∈u,op.g=g) (f:Mem g->Deaf (t++u) g=Deaf t g):∀g',Mem g'->Deaf (t++u) g'=0:=λg' a=>by
 by_cases e:g'=g
 .subst e;exact(f a).trans (H.hears g' a)
 .exact(Deaf_other t (λx=>e x.symm) u l).trans (H.hears g' a)
theorem PX.appMute (H:PX Ad Still Mem Am B h t) (v:∀op∈u,op.g=g) (o:∀op∈u,op.act.touch?=none) (p:Mem g->Deaf (t++u) g=Deaf t g) (r:∀op∈u,op.act.low B):PX Ad Still Mem Am B h (t++u):=by
 refine⟨λsaid=>noRace_appendMute (H.clean said) o,λi a e m=>?_,λi a e n l k f=>?_,H.O5 v p,seen_app H.seen r⟩
 .obtain⟨x,j,b⟩:=touch_of e;obtain⟨_,c⟩|⟨_,d⟩:=getElem?_append_cases j
  .exact H.old c b m
  .rw[o x d]at b;cases b
 .obtain⟨x,j,b⟩:=touch_of e;obtain⟨_,c⟩|⟨_,d⟩:=getElem?_append_cases j
  .exact(H.wrote i a (by rw[touchAt_of c];exact b) n l k f).app u
  .rw[o x d]at b;cases b
theorem PX.appRead (A:∀l,Still l->¬Ad l) (H:PX Ad Still Mem Am B h t) (F:Mem g) (D:Am g) (C:∀op∈u,op.g=g) (z:∀op∈u,∀b,op.act.touch?=some b->b.write=false/\Still b.loc) (E:Deaf (t++u) g=Deaf t g)
  (G:∀op∈u,op.act.low B):PX Ad Still Mem Am B h (t++u):=by
 refine⟨λsaid=>noRace_append (H.clean said) C λi a e op q b v n=>?_,λi a e w=>?_,λi a e p s r o=>?_,H.O5 C (λ_=>E),seen_app H.seen G⟩
 .obtain⟨m,f⟩:=z op q b v;obtain x|x:=n.2.2.1
  .exact H.wrote i a e x ⟨n.1 ▸ f,A _ (n.1 ▸ f)⟩ g F
  .rw[m]at x;cases x
 .obtain⟨x,j,c⟩:=touch_of e;obtain⟨_,k⟩|⟨_,d⟩:=getElem?_append_cases j
  .exact H.old k c w
  .exact .inr (.inl ⟨.inl (z x d a c).1,(z x d a c).2,g,by rw[g?_of j,C x d],D⟩)
 .obtain⟨x,j,c⟩:=touch_of e;obtain⟨_,k⟩|⟨_,d⟩:=getElem?_append_cases j
  .exact(H.wrote i a (by rw[touchAt_of k];exact c) p s r o).app u
  .rw[(z x d a c).1]at p;cases p
theorem PX.appH (H:PX Ad Still Mem Am B h t) (C:∀op∈u,op.g=h) (A:∀op∈u,∀b,op.act.touch?=some b->(Still b.loc->b.write=false/\¬Ad b.loc)/\(Ad b.loc->b.kind≠.plain)) (D:Mem h->Deaf (t++u) h=Deaf t h) (E:∀op∈u,op.act.low B):
  PX Ad Still Mem Am B h (t++u):=by
 refine⟨λsaid=>noRace_append (H.clean said) C λi a j op s b v f=>?_,λi a j z=>?_,λi a j d e g w=>?_,H.O5 C D,seen_app H.seen E⟩
 .obtain y|⟨d,e,_⟩|⟨e,⟨o,_⟩,_⟩:=H.known i a j f.2.1
  .exact y
  .obtain⟨p,q⟩:=(A op s b v).1 (f.1 ▸ e);have d:=d.resolve_right (λh=>q (f.1 ▸ h));obtain x|x:=f.2.2.1
   .rw[d]at x;cases x
   .rw[p]at x;cases x
  .have r:=(A op s b v).2 (f.1 ▸ e);obtain⟨_,_,_,c⟩:=f;rw[o]at c;obtain x|x|⟨_,x,_⟩:=c
   .cases x
   .exact ql x r
   .cases x
 .obtain⟨x,l,k⟩:=touch_of j;obtain⟨_,m⟩|⟨_,n⟩:=getElem?_append_cases l
  .exact H.old m k z
  .have:=knows_own l;rw[C x n]at this;exact .inl this
 .obtain⟨x,l,k⟩:=touch_of j;obtain⟨_,m⟩|⟨_,n⟩:=getElem?_append_cases l
  .exact(H.wrote i a (by rw[touchAt_of m];exact k) d e g w).app u
  .rw[((A x n a k).1 e.1).1]at d;cases d
theorem PX.bg7 {W:Loc->Prop} (H:PX Ad Still Mem Am B h t) (G:∀l,W l->Ad l/\¬Still l) (I:∀i a,touchAt t i=some a->W a.loc->a.kind=.plain->Knows t g i) (M:¬Mem g) (K:∀op∈u,op.g=g)
  (J:∀op∈u,∀b,op.act.touch?=some b->W b.loc/\b.kind=.atomic) (L:∀k,k<u.size->(t++u).deaf g (t.size+k)≠0) (N:∀op∈u,op.act.low B):PX Ad Still Mem Am B h (t++u):=by
 refine⟨λsaid=>noRace_append (H.clean said) K λi a f op v b A C=>?_,λi a f E=>?_,λi a f F s r d=>?_,H.O5 K (λx=>(M x).elim),seen_app H.seen N⟩
 .obtain⟨p,q⟩:=J op v b A;obtain⟨n,_,_,c⟩:=C;rw[q]at c;obtain x|x|⟨_,_,x⟩:=c
  .exact I i a f (n ▸ p) x
  .cases x
  .cases x
 .obtain⟨x,j,e⟩:=touch_of f;obtain⟨_,o⟩|⟨D,m⟩:=getElem?_append_cases j
  .exact H.old o e E
  .obtain⟨n,z⟩:=J x m a e;refine .inr (.inr ⟨(G _ n).1,⟨z,(G _ n).2⟩,?_⟩);rintro⟨r,d,y⟩;have w:=lt_size_of_getElem? j;rw[Array.size_append]at w;rw[g?_of j,K x m]at d;obtain rfl:=x_ d;have:=L (i-t.size) zD;rw[show t.size+(i-t.size)=i from by omega]at this;exact this y
 .obtain⟨x,j,e⟩:=touch_of f;obtain⟨_,o⟩|⟨_,m⟩:=getElem?_append_cases j
  .exact(H.wrote i a (by rw[touchAt_of o];exact e) F s r d).app u
  .exact((G _ (J x m a e).1).2 s.1).elim
theorem PX.give (H:PX Ad Still Mem Am B h t) (K:Mem h) (L:Mem j) (F:h_) (ph:String) (G:h_) (I:String) (k cap:Nat) (J:c<B):
  PX Ad Still Mem (λg=>Am g/\g≠j) B j (t++met h j F ph G I c k cap):=by
 have u:=met_mute h j F ph G I c k cap;have y:=met_quiet h j F ph G I c k cap;have o:(t++met h j F ph G I c k cap)[t.size]?=some { g:=h,fn:=F,pos:=ph,act:=.send c k }:=by simp[met]
 have e3:(t++met h j F ph G I c k cap)[t.size+3]?=some { g:=j,fn:=G,pos:=I,act:=.recvDone c k }:=by simp[met]
 have f:HappensBefore (t++met h j F ph G I c k cap) t.size (t.size+3):=
  Relation.TransGen.single (.inr ⟨.handOver (act?_of o) (act?_of e3),⟨h,g?_of o,by rw[deaf_old (w_ _)];exact H.hears h K⟩,⟨j,g?_of e3,by rw[deaf_quiet (y j) 3 (by simp[met])];exact H.hears j L⟩⟩);refine⟨λsaid=>noRace_appendMute (H.clean said) u,λi a s D=>?_,λi a s E z g d=>?_,λg d=>(Deaf_quiet (y g)).trans (H.hears g d),seen_app H.seen λop v=>?_⟩
 .obtain⟨x,m,b⟩:=touch_of s;obtain⟨w,l⟩|⟨_,n⟩:=getElem?_append_cases m
  .obtain A|⟨p,q,g,d,C⟩|⟨p,q,r⟩:=H.known i a (by rw[touchAt_of l];exact b) D
   .exact .inl ⟨t.size+3,_,e3,rfl,.inr ((A.hb_new (w_ _) o rfl).trans f)⟩
   .by_cases e:g=j
    .subst e;have:=knows_own m;rw[show x.g=g from by have:=g?_of l;rw[d]at this;exact(x_ this).symm]at this;exact .inl this
    .exact .inr (.inl ⟨p,q,g,by rw[g?_old w];exact d,C,e⟩)
   .exact .inr (.inr ⟨p,q,by rw[heard_old w];exact r⟩)
  .rw[u x n]at b;cases b
 .obtain⟨x,m,b⟩:=touch_of s;obtain⟨_,l⟩|⟨_,n⟩:=getElem?_append_cases m
  .exact(H.wrote i a (by rw[touchAt_of l];exact b) E z g d).app _
  .rw[u x n]at b;cases b
 .simp only[met,gI,r_,p_,or_false]at v;obtain rfl|rfl|rfl|rfl:=v<;>exact J
theorem PX.born (H:PX Ad Still Mem Am B h t) (L:Mem h) (I:Deaf t c=0) (K:h_) (ph:String) (J:h_):
  PX Ad Still (λg=>Mem g\/g=c) Am B c (t++#[{ g:=h,fn:=K,pos:=ph,act:=.go c },{ g:=c,fn:=J,pos:=ph,act:=.start }]):=by
 generalize m:(#[{ g:=h,fn:=K,pos:=ph,act:=.go c },{ g:=c,fn:=J,pos:=ph,act:=.start }]:Trace)=u;have w:∀op∈u,op.act.touch?=none:=by
  intro op b;subst m
  simp only[gI,r_,p_,or_false]at b
  obtain rfl|rfl:=b<;>rfl
 have A:∀g,∀op∈u,∀d,deafStep g d op=d:=by
  intro g op b d;subst m
  simp only[gI,r_,p_,or_false]at b
  obtain rfl|rfl:=b<;>rfl
 have n:(t++u)[t.size]?=some { g:=h,fn:=K,pos:=ph,act:=.go c }:=by subst m;simp
 have e1:(t++u)[t.size+1]?=some { g:=c,fn:=J,pos:=ph,act:=.start }:=by subst m;simp
 have f:HappensBefore (t++u) t.size (t.size+1):=
  Relation.TransGen.single (.inr ⟨.spawn (act?_of n) (act?_of e1) (g?_of e1),⟨h,g?_of n,by rw[deaf_old (w_ _)];exact H.hears h L⟩,⟨c,g?_of e1,by rw[deaf_quiet (A c) 1 (by subst m;simp)];exact I⟩⟩);refine⟨λsaid=>noRace_appendMute (H.clean said) w,λi a v F=>?_,λi a v G C g l=>?_,λg l=>(Deaf_quiet (A g)).trans (l.elim (H.hears g) λe=>e ▸ I),seen_app H.seen λop b=>?_⟩
 .obtain⟨x,y,k⟩:=touch_of v;obtain⟨z,o⟩|⟨_,s⟩:=getElem?_append_cases y
  .obtain D|⟨p,q,g,l,E⟩|⟨p,q,r⟩:=H.known i a (by rw[touchAt_of o];exact k) F
   .exact .inl ⟨t.size+1,_,e1,rfl,.inr ((D.hb_new (w_ _) n rfl).trans f)⟩
   .exact .inr (.inl ⟨p,q,g,by rw[g?_old z];exact l,E⟩)
   .exact .inr (.inr ⟨p,q,by rw[heard_old z];exact r⟩)
  .rw[w x s]at k;cases k
 .obtain⟨x,y,k⟩:=touch_of v;obtain⟨_,o⟩|⟨_,s⟩:=getElem?_append_cases y
  .have j:=H.wrote i a (by rw[touchAt_of o];exact k) G C;obtain l|rfl:=l
   .exact(j g l).app u
   .exact⟨t.size+1,_,e1,rfl,.inr (((j h L).hb_new (w_ _) n rfl).trans f)⟩
  .rw[w x s]at k;cases k
 .subst m;simp only[gI,r_,p_,or_false]at b;obtain rfl|rfl:=b<;>trivial
theorem PX.acquire {m:Nat} {op:MemOp} (H:PX Ad Still Mem Am B h t) (W:Deaf t h=0) (S:t[m]?=some op) (P:op.g=c) (Q:op.act=.mark (.releaseMerge a)) (V:t.deaf c m=0)
  (T:∀i b,touchAt t i=some b->t.g? i=some c->(b.write=false\/Ad b.loc)->Still b.loc->Am c->i<m\/(Ad b.loc/\(b.kind=.atomic/\¬Still b.loc)/\¬t.heard i)) (R:∀k,m<k->t.act? k≠some (.mark (.release a)))
  (fn:h_) (pos:String) (U:a.block<B):PX Ad Still Mem (λg=>Am g/\g≠c) B h (t++#[{ g:=h,fn:=fn,pos:=pos,act:=.mark (.acquire a) }]):=by
 generalize w:(#[{ g:=h,fn:=fn,pos:=pos,act:=.mark (.acquire a) }]:Trace)=u;have F:∀op∈u,op.act.touch?=none:=by
  intro op f;subst w
  simp only[gI,r_,p_,or_false]at f
  subst f;rfl
 have N:∀g,∀op∈u,∀d,deafStep g d op=d:=by
  intro g op f d;subst w
  simp only[gI,r_,p_,or_false]at f
  subst f;rfl
 have y:=lt_size_of_getElem? S;have A:(t++u)[t.size]?=some { g:=h,fn:=fn,pos:=pos,act:=.mark (.acquire a) }:=by subst w;simp
 have C:(t++u)[m]?=some op:=by rw[getElem?_append_old y];exact S
 have o:HappensBefore (t++u) m t.size:=by
  refine Relation.TransGen.single (.inr ⟨.marked (a:=a) y (.inr (by rw[act?_of C,Q])) (act?_of A) (λk J K=>?_),⟨c,by rw[g?_of C,P],by rw[deaf_old (Nat.le_of_lt y)];exact V⟩,⟨h,g?_of A,by rw[deaf_old (w_ _)];exact W⟩⟩)
  rw[act?_old K];exact R k J
 refine⟨λsaid=>noRace_appendMute (H.clean said) F,λi b D s=>?_,λi b D O L g P=>?_,λg P=>(Deaf_quiet (N g)).trans (H.hears g P),seen_app H.seen λop f=>?_⟩
 .obtain⟨x,G,j⟩:=touch_of D;obtain⟨v,n⟩|⟨_,z⟩:=getElem?_append_cases G
  .obtain M|⟨p,q,g,l,I⟩|⟨p,q,r⟩:=H.known i b (by rw[touchAt_of n];exact j) s
   .exact .inl (M.app u)
   .by_cases e:g=c
    .subst e;obtain E|⟨p,q,r⟩:=T i b (by rw[touchAt_of n];exact j) l p q I
     .refine .inl ⟨t.size,_,A,rfl,.inr ((hb_po E (by rw[getElem?_append_old v];exact n) C ?_).trans o)⟩;have:=g?_of n;rw[l]at this;rw[P];exact(x_ this).symm
     .exact .inr (.inr ⟨p,q,by rw[heard_old v];exact r⟩)
    .exact .inr (.inl ⟨p,q,g,by rw[g?_old v];exact l,I,e⟩)
   .exact .inr (.inr ⟨p,q,by rw[heard_old v];exact r⟩)
  .rw[F x z]at j;cases j
 .obtain⟨x,G,j⟩:=touch_of D;obtain⟨_,n⟩|⟨_,z⟩:=getElem?_append_cases G
  .exact(H.wrote i b (by rw[touchAt_of n];exact j) O L g P).app u
  .rw[F x z]at j;cases j
 .subst w;simp only[gI,r_,p_,or_false]at f;subst f;exact U
theorem PX.ofPast (H:Past Ad B t) (w:∀l,Still l->l.isMemory=true) (v:∀l,Still l->¬Ad l):PX Ad Still (λg=>g=0) (λ_=>False) B 0 t:=by
 refine⟨H.clean,λi a b n=>?_,λi a b _ c _ d=>d ▸ (H.known i a b (w _ c.1)).elim id (λx=>(v _ c.1 x.1).elim),λ_ d=>d ▸ H.hears,H.seen⟩;obtain r|⟨k,o⟩:=H.known i a b n
 .exact .inl r
 .by_cases m:t.heard i
  .obtain⟨op,f,s⟩:=touch_of b;by_cases h:op.g=0
   .have:=knows_own f;rw[h]at this;exact .inl this
   .obtain⟨j,q,p⟩:=H.over i op.g (g?_of f) h ⟨a,b,n,.inr m⟩;obtain⟨z,u,e⟩:=jb.1 (show(t[j]?).map (·.g)=some 0 from q);exact .inl ⟨j,z,u,e,.inr p⟩
  .exact .inr (.inr ⟨k,⟨o,λc=>v _ c k⟩,m⟩)
theorem PX.toPast {v:Loc->Prop} (H:PX Ad Still Mem Am B 0 t) (w:Deaf t 0=0) (A:∀g,¬Am g) (C:∀l,Ad l->¬Still l->v l):Past v B t:=by
 have k:∀i a,touchAt t i=some a->a.loc.isMemory=true->Knows t 0 i\/(v a.loc/\a.kind=.atomic/\¬t.heard i):=λi a f c=>
  (H.known i a f c).imp id λx=>x.elim (λ⟨_,_,g,_,r⟩=>(A g r).elim) λ⟨p,d,e⟩=>⟨C _ p d.2,d.1,e⟩
 refine⟨H.clean,λi a f c=>(k i a f c).imp id λx=>⟨x.1,x.2.1⟩,λi g j o ⟨x,s,c,b⟩=>?_,w,H.seen⟩;obtain⟨q,z,m,n,h⟩|⟨_,d,e⟩:=k i x s c
 .obtain rfl|h:=h
  .rw[g?_of m,n]at j;exact ql (x_ j).symm o
  .exact⟨q,by rw[g?_of m,n],h⟩
 .obtain b|b:=b
  .exact(b d).elim
  .exact(e b).elim
theorem PX.ar6 (H:PX Ad Still Mem Am B h t) (p:∀op∈u,op.act.touch?=none) (r:∀g,Deaf (t++u) g=Deaf t g) (v:∀op∈u,op.act.low B):PX Ad Still Mem Am B h (t++u):=by
 refine⟨λsaid=>noRace_appendMute (H.clean said) p,λi a e n=>?_,λi a e o l k f=>?_,λg m=>(r g).trans (H.hears g m),seen_app H.seen v⟩
 .obtain⟨x,j,b⟩:=touch_of e;obtain⟨_,c⟩|⟨_,d⟩:=getElem?_append_cases j
  .exact H.old c b n
  .rw[p x d]at b;cases b
 .obtain⟨x,j,b⟩:=touch_of e;obtain⟨_,c⟩|⟨_,d⟩:=getElem?_append_cases j
  .exact(H.wrote i a (by rw[touchAt_of c];exact b) o l k f).app u
  .rw[p x d]at b;cases b
theorem PX.yR (H:PX Ad Still Mem Am B h t) (e:h_) (ph:String) (f:h_) (l:String) (k cap:Nat) (m:c<B):PX Ad Still Mem Am B h (t++met h j e ph f l c k cap):=
 H.ar6 (met_mute h j e ph f l c k cap) (λg=>Deaf_quiet (met_quiet h j e ph f l c k cap g)) λop a=>by
  simp only[met,gI,r_,p_,or_false]at a
  obtain rfl|rfl|rfl|rfl:=a<;>exact m
def KnL (Ad Still:Loc->Prop) (g:Nat) (t:Trace):Prop:=∀i a,touchAt t i=some a->Still a.loc->Ad a.loc->Knows t g i
theorem KnL.app (H:KnL Ad Still g t) (l:∀op∈u,∀b,op.act.touch?=some b->Still b.loc->Ad b.loc->op.g=g):KnL Ad Still g (t++u):=by
 intro i a k e c;obtain⟨x,f,d⟩:=touch_of k;obtain⟨_,h⟩|⟨_,j⟩:=getElem?_append_cases f
 .exact(H i a (by rw[touchAt_of h];exact d) e c).app u
 .have:=knows_own f;rw[l x j a d e c]at this;exact this
theorem PX.bg6 (H:PX Ad Still Mem Am B h t) (C:¬Mem g) (A:Am g) (D:KnL Ad Still g t) (z:∀op∈u,op.g=g) (w:∀op∈u,∀b,op.act.touch?=some b->Still b.loc/\Ad b.loc) (E:∀op∈u,op.act.low B):PX Ad Still Mem Am B h (t++u):=by
 refine⟨λsaid=>noRace_append (H.clean said) z λi a e op n b r m=>?_,λi a e s=>?_,λi a e v l o k=>?_,H.O5 z (λx=>(C x).elim),seen_app H.seen E⟩
 .obtain⟨p,q⟩:=w op n b r;exact D i a e (m.1 ▸ p) (m.1 ▸ q)
 .obtain⟨x,f,c⟩:=touch_of e;obtain⟨_,j⟩|⟨_,d⟩:=getElem?_append_cases f
  .exact H.old j c s
  .exact .inr (.inl ⟨.inr (w x d a c).2,(w x d a c).1,g,by rw[g?_of f,z x d],A⟩)
 .obtain⟨x,f,c⟩:=touch_of e;obtain⟨_,j⟩|⟨_,d⟩:=getElem?_append_cases f
  .exact(H.wrote i a (by rw[touchAt_of j];exact c) v l o k).app u
  .exact(l.2 (w x d a c).2).elim
theorem PX.cj8 (H:PX Ad Still Mem Am B h t) (m:∀l,Lt l->¬Ad l):PX (λl=>Ad l\/Lt l) (λl=>Still l\/Lt l) Mem Am B h t:=by
 refine⟨H.clean,λi a b e=>?_,λi a b f c=>H.wrote i a b f ⟨c.1.resolve_right λh=>c.2 (.inr h),λh=>c.2 (.inl h)⟩,H.hears,H.seen⟩;obtain d|⟨x,y,z⟩|⟨x,⟨y,z⟩,k⟩:=H.known i a b e
 .exact .inl d
 .exact .inr (.inl ⟨x.imp id .inl,.inl y,z⟩)
 .exact .inr (.inr ⟨.inl x,⟨y,λh=>h.elim z λh=>m _ h x⟩,k⟩)
theorem PX.knL (H:PX Ad Still Mem Am B h t) (r:∀l,Lt l->l.isMemory=true) (m:∀l,Lt l->¬Ad l) (o:∀l,Lt l->¬Still l) (p:∀l,Still l->¬Ad l):KnL (λl=>Ad l\/Lt l) (λl=>Still l\/Lt l) h t:=by
 intro i a e b d;have c:Lt a.loc:=by
  obtain b|b:=b
  .exact d.resolve_left (p _ b)
  .exact b
 obtain f|⟨_,y,_⟩|⟨x,_⟩:=H.known i a e (r _ c)
 .exact f
 .exact(o _ c y).elim
 .exact(m _ c x).elim
end
section
variable {P:l_} {α β:Type} {r:Nat} {K:α->Prop}
theorem IV {s:String}:ET P r (stuck s:Sem α):=λw c a d b _ _ h=>by simp[stuck]at h
theorem Dy:ET P r (unsupported u:Sem α):=λw c a d b _ _ h=>by simp[unsupported]at h
theorem PS {f:d_ (j_×Nat)->Sem α} (h:ET P r (f none)):ET P r (shape r>>= f):=λw c a i b k g j=>by
 have d:(f (w.shape? r)).runT P w c=(.ok a i,b):=j;have e:w.shape? r=none:=by unfold World.shape?;rw[g];rfl
 rw[e]at d;exact h w c a i b k g d
theorem KP {f:Obj->Sem α} (h:ET P r (f DL)):ET P r (getObj r>>= f):=λw d a c b j e i=>by
 have g:(f DL).runT P w (d.push ⟨.obj r,false,DL.isChan⟩)=(.ok a c,b):=by
  have:(Sem.getObj r f).runT P w d=(.ok a c,b):=i
  simp only[Sem.runT,e]at this
  exact this
 exact h w _ a c b j e g
theorem oq {f:d_ (j_×Nat)->Sem α} (h:∀s,ET P r (f s)):ET P r (shape q>>= f):=λw c a i b g d e=>h _ w c a i b g d e
theorem jc {f:Obj->Sem α} (h:∀o,ET P r (f o)):ET P r (getObj q>>= f):=λw d a c b i e g=>by
 have:(Sem.getObj q f).runT P w d=(.ok a c,b):=g;simp only[Sem.runT]at this;split at this
 .simp at this
 .exact h _ w _ a c b i e this
 .simp at this
theorem bJ {e:Sem β} {f:β->Sem α} (h:ET P r e):ET P r (e>>= f):=h.bind
theorem Yn {c:Prop} [Decidable c] {x y:Sem α} (e:c->ET P r x) (f:¬c->ET P r y):ET P r (if c then x else y):=by
 split
 .exact e ‹_›
 .exact f ‹_›
theorem DU {e:Sem α} (h:e.Ar P λ_=>False):ET P r e:=λw g a i f d _ b=>by
 obtain⟨_,_,c,_⟩:=Uu (Od:=Nv) (Z:=λ_=>False) (w:=w) h (@au.mk Nv _ _ _ rfl (λ_ _ _=>rfl) (λ_ h=>h.elim) d rfl rfl (λ_ h=>False.elim h) (λ_ h=>False.elim h) (λ_ h=>False.elim h)) (λ_ h=>h.elim) b (λ_ _ _=>rfl);exact c
theorem EW (h:∀g,u≠.initOrder g):(unsupported u:Sem α).Ar P K:=by
 cases u<;>first|rfl|exact(h _ rfl).elim
theorem oh {f:d_ (f_×j_)->Sem α} (h:ET P r (f (some (⟨0,0,some 0⟩,0)))):ET P r (viewAt r>>= f):=
 PS (f:=λs=>(if s.isSome then pure none else getObj r>>= λo=>match o with | .view a t=>pure (some (a,t))|_=>pure none)>>= f) (KP (f:=λo=>(match o with | .view a t=>pure (some (a,t))|_=>pure none)>>= f) h)
theorem ar9 {f:d_ (f_×Bool)->Sem α} (h:ET P r (f none)):ET P r (numberAt r>>= f):=
 PS (f:=λs=>(if s.isSome then pure none else getObj r>>= λo=>match o with | .number a l=>pure (some (a,l))|_=>pure none)>>= f) (KP (f:=λo=>(match o with | .number a l=>pure (some (a,l))|_=>pure none)>>= f) h)
theorem V4 {f:d_ (f_×j_)->Sem α} (h:∀x,(f x).Ar P K) (e:ET P r (f (some (⟨0,0,some 0⟩,0)))):(viewAt r>>= f).Ar P K:=by
 refine⟨λs=>?_,?_⟩
 .cases s with
  |some x=>exact h none
  |none=>exact⟨λo _=>by cases o<;>exact h _,e⟩
 .exact KP (f:=λo=>(match o with | .view a t=>pure (some (a,t))|_=>pure none)>>= f) e
theorem ZL {f:d_ (f_×Bool)->Sem α} (h:∀x,(f x).Ar P K) (e:ET P r (f none)):(numberAt r>>= f).Ar P K:=by
 refine⟨λs=>?_,?_⟩
 .cases s with
  |some x=>exact h none
  |none=>exact⟨λo _=>by cases o<;>exact h _,e⟩
 .exact KP (f:=λo=>(match o with | .number a l=>pure (some (a,l))|_=>pure none)>>= f) e
end
section
variable {P:l_}
theorem Qc {k:FloatKind}:(Op.floatArith op k x y).Ar P λ_=>True:=by
 unfold Op.floatArith;have jp:∀r:d_ Nat,(match r with
   |some r=>pure (Value.float k r)
   |none=>do pure (Value.float k (<-choose (.nanBits k x y))):Sem n_).Ar P λ_=>True:=λr=>by
  cases r with
  |none=>exact Aa FH λ_=>trivial
  |some _=>trivial
 cases op<;>first|exact jp _|exact Ak
theorem J3 {k:FloatKind}:(Op.floatCmp op k x y).Ar P λ_=>True:=by
 unfold Op.floatCmp;cases op<;>first|trivial|rfl
theorem G6 {k:FloatKind}:(Op.Complex.arith op k x y).Ar P λ_=>True:=by
 unfold Op.Complex.arith;refine Aa Qc λv=>?_
 cases v<;>first|trivial|rfl
theorem Qw {k:FloatKind}:(Op.Complex.cmp op k x y).Ar P λ_=>True:=Aa J3 λ_=>Ot
theorem U5 {d:FloatKind}:(Conv.floatToFloat s b d).Ar P λ_=>True:=by
 unfold Conv.floatToFloat
 repeat' first|exact eu|exact rfl|refine Aa FH λ_=>?_|refine AO (λ_=>?_) λ_=>?_|split
theorem I7 {d:FloatKind}:(Op.Complex.conv s x d).Ar P λ_=>True:=by
 unfold Op.Complex.conv;refine AO (λ_=>trivial) λ_=>Aa U5 λv=>?_
 cases v<;>first|trivial|rfl
theorem iK {a:Nat}:(Op.Complex.product a b c d).Ar P λ_=>True:=by
 unfold Op.Complex.product
 repeat' first|exact eu|refine Aa G6 λ_=>?_
theorem QS {s a:Nat}:(Op.Complex.corrected s a b c d).Ar P λ_=>True:=by
 unfold Op.Complex.corrected
 repeat' first|exact eu|refine Aa G6 λ_=>?_
theorem Q7:(Op.Complex.add x y).Ar P λ_=>True:=G6
theorem aZ:(Op.Complex.sub x y).Ar P λ_=>True:=G6
theorem I8:(Op.Complex.mul x y).Ar P λ_=>True:=G6
theorem MQ:(Op.Complex.quo x y).Ar P λ_=>True:=G6
theorem ZK {a:Nat}:(Op.Complex.quotient a b c d).Ar P λ_=>True:=by
 unfold Op.Complex.quotient;refine Aa Qw λt=>?_
 extract_lets jp
 have g:∀x,(jp x).Ar P λ_=>True:=λ⟨e,f⟩=>by
  refine Aa Qw λu=>Aa Qw λh=>?_
  refine AO (λ_=>Ae trivial) λ_=>AO (λ_=>Aa I8 λ_=>Aa I8 λ_=>Ae trivial) λ_=>AO (λ_=>QS) λ_=>AO (λ_=>QS) λ_=>Ae trivial
 clear_value jp
 refine AO (λ_=>?_) λ_=>?_
 .exact Aa MQ λ_=>Aa I8 λ_=>Aa Q7 λ_=>Aa I8 λ_=>Aa Q7 λ_=>Aa MQ λ_=>Aa I8 λ_=>Aa aZ λ_=>Aa MQ λ_=>Aa (Ae trivial) λ_=>g _
 .exact Aa MQ λ_=>Aa I8 λ_=>Aa Q7 λ_=>Aa I8 λ_=>Aa Q7 λ_=>Aa MQ λ_=>Aa I8 λ_=>Aa aZ λ_=>Aa MQ λ_=>Aa (Ae trivial) λ_=>g _
theorem NP {k:FloatKind} {a:Nat}:(Op.complexOp op k a b c d).Ar P λ_=>True:=by
 unfold Op.complexOp;cases op<;>first
  |exact rfl
  |exact Aa G6 λ_=>Aa G6 λ_=>trivial
  |exact Aa Qw λ_=>Aa Qw λ_=>trivial
  | (refine Aa I7 fun _=>Aa I7 fun _=>Aa I7 fun _=>Aa I7 fun _=>?_
     first
      |exact Aa iK λ_=>Aa I7 λ_=>Aa I7 λ_=>trivial
      |exact Aa ZK λ_=>Aa I7 λ_=>Aa I7 λ_=>trivial)
theorem IE {x y:ByteArray}:(Op.stringOp op x y).Ar P λ_=>True:=by
 unfold Op.stringOp;cases op<;>first|trivial|rfl|exact AO (λ_=>rfl) λ_=>trivial
theorem YG {e:IntKind} {x y:Int}:(Op.shift op k x e y).Ar P λ_=>True:=by
 unfold Op.shift;refine AO (λ_=>Bf) λ_=>?_
 cases op<;>first|trivial|rfl
theorem Sv {x y:Int}:(Op.intArith op k x y).Ar P λ_=>True:=by
 unfold Op.intArith;cases op<;>first|trivial|rfl
theorem mQ {x y:Int}:(Op.intDiv op k x y).Ar P λ_=>True:=by
 unfold Op.intDiv;refine AO (λ_=>Bf) λ_=>?_
 cases op<;>first|trivial|rfl
theorem UQ {x y:Int}:(Op.intBits op k x y).Ar P λ_=>True:=by
 unfold Op.intBits;cases op<;>first|trivial|rfl
theorem QI {x y:Int}:(Op.intCmp op x y).Ar P λ_=>True:=by
 unfold Op.intCmp;cases op<;>first|trivial|rfl
theorem tK {op:UnOp} {x:n_}:(Op.unary op x).Ar P λ_=>True:=by
 unfold Op.unary;split<;>first|exact Sv|exact UQ|trivial|rfl
/-! ### pointers where numbers are asked for -/
theorem QK:(byteOf a).Ar P λ_=>True:=by
 unfold byteOf;cases hs:a.spot with
 |some s=>trivial
 |none=>
  refine Aa (A7 Dx) λp=>?_
  have b:(noView a).Ar P λ_=>True:=V4 (r:=a.block) (λx=>by
   cases x with
   |none=>exact Ae trivial
   |some y=>exact rfl) Dy
  refine Aa b λ_=>⟨λs=>?_,IV⟩
  cases s with
  |none=>exact Ak
  |some x=>
   obtain⟨e,n⟩:=x
   refine AO (λ_=>Ae trivial) λ_=>?_
   split
   .exact Ae trivial
   .exact Ak
end
section
variable {P:l_} {α:Type} {r:Nat} {K:α->Prop}
theorem Di {n:f_} {f:f_×Bool->Sem α} (h:∀x,(f x).Ar P K) (e:ET P n.block (f (n,false))):(behindNumber n>>= f).Ar P K:=by
 refine⟨λs=>?_,?_⟩
 .cases s with
  |some x=>exact h _
  |none=>exact⟨λo _=>by cases o<;>exact h _,e⟩
 .exact KP (f:=λo=>((match o with | .number a l=>pure (some (a,l))|_=>pure none)>>= λx=>pure (x.getD (n,false)))>>= f) e
theorem Ig {n:f_} {f:f_×Bool->Sem α} (h:∀x,ET P r (f x)):ET P r (behindNumber n>>= f):=
 oq (f:=λs=>((if s.isSome then pure none else getObj n.block>>= λo=>match o with | .number a l=>pure (some (a,l))|_=>pure none)>>= λx=>pure (x.getD (n,false)))>>= f) λs=>by
  cases s with
  |some x=>exact h _
  |none=>exact jc (f:=λo=>((match o with | .number a l=>pure (some (a,l))|_=>pure none)>>= λx=>pure (x.getD (n,false)))>>= f) λo=>by cases o<;>exact h _
end
section
variable {P:l_}
theorem QQ (e:P.globals.size=0) {b:f_}:(Op.twoPlaces a b).Ar P λ_=>False:=by
 unfold Op.twoPlaces;refine Eg Dx λp c=>?_
 subst c;have:(a.block !=b.block || decide (a.block≥p.globals.size))=true:=by simp[e]
 rw[rC this];exact rfl
theorem PW (e:P.globals.size=0) {b:f_}:(Op.addrSub k a b).Ar P λ_=>False:=Eg (QQ e) λ_ h=>h.elim
theorem DR (e:P.globals.size=0) {b:f_}:(Op.addrCmp op a b).Ar P λ_=>False:=Eg (QQ e) λ_ h=>h.elim
theorem PY:(Op.addrMod k a n).Ar P λ_=>True:=by
 refine⟨λs=>?_,Dy⟩;cases s with
 |none=>exact rfl
 |some x=>
  obtain⟨e,m⟩:=x
  refine Eg (e:=Sem.pure (some (e,m))) (K:=λx=>x=some (e,m)) rfl λx b=>?_
  subst b
  exact Aa (A7 IB) λi=>AO (λ_=>rfl) λ_=>Aa QK λ_=>Ae trivial
theorem P6:ET P a.block (Op.addrMod k a n):=PS (f:=λ_=>_) Dy
theorem Jy {x y:n_}:(Builtin.unsafeAdd_ #[] t #[x,y]).Ar P λ_=>True:=by
 unfold Builtin.unsafeAdd_;cases x with
 |pointer ptr=>
  refine Aa NJ λn=>AO (λ_=>?_) λ_=>?_
  .cases ptr with
   |none=>exact rfl
   |some a=>
    refine V4 (λx=>?_) Dy
    cases x with
    |none=>exact Ae trivial
    |some y=>exact rfl
  .refine AO (λ_=>rfl) λ_=>?_
   cases ptr with
   |none=>exact rfl
   |some a=>
    refine⟨λs=>?_,Dy⟩
    cases s with
    |none=>exact rfl
    |some x=>
     obtain⟨e,m⟩:=x
     refine Eg (e:=Sem.pure (some (e,m))) (K:=λx=>x=some (e,m)) rfl λx b=>?_
     subst b
     refine Aa (A7 Dx) λp=>?_
     split
     .exact Ae trivial
     .exact rfl
 |_=>exact rfl
theorem QT {y:n_}:ET P a.block (Builtin.unsafeAdd_ #[] t #[.pointer (some a),y]):=by
 unfold Builtin.unsafeAdd_;cases y with
 |int k n=>
  refine Yn (λ_=>?_) λ_=>Yn (λ_=>Dy) λ_=>?_
  .exact oh Dy
  .exact PS (f:=λ_=>_) Dy
 |pointer a=>cases a<;>first|exact IV|exact Dy
 |_=>exact IV
theorem ZQ {l:Bool}:(asNumber a l).Ar P λ_=>True:=Aa (Oq rfl) λ_=>Ae trivial
theorem JX {x y:n_}:(movedNumber t x y).Ar P λ_=>True:=by
 unfold movedNumber;refine Aa (A7 AB) λd=>?_
 have key:∀(x:n_),(match x with
   |.pointer (some n)=>do
    let (a,lost)<-behindNumber n
    match<-Builtin.unsafeAdd_ #[] t #[.pointer (some a),y]with
    |.pointer (some b)=>asNumber b lost
    |v=>pure v
   |_=>Builtin.unsafeAdd_ #[] t #[x,y]:Sem n_).Ar P λ_=>True:=λx=>by
  split
  .refine Di (λz=>?_) (bJ QT);refine Aa Jy λv=>?_
   split
   .exact ZQ
   .exact Ae trivial
  .exact Jy
 refine AO (λ_=>rfl) λ_=>key x
theorem U4 {x y:n_}:(movedPointer t x y).Ar P λ_=>True:=by
 unfold movedPointer;split
 .refine ZL (λz=>?_) (Yn (λh=>by cases h) λ_=>QT);refine AO (λ_=>rfl) λ_=>Jy
 .exact Jy
theorem ui (e:P.globals.size=0) (f:op≠.eql) (h:op≠.neq) {x y:n_}:(binOp op t x y).Ar P λ_=>True:=by
 unfold binOp;split
 .exact YG
 .exact YG
 .refine AO (λ_=>rfl) λ_=>?_
  cases op<;>first|exact Sv|exact mQ|exact UQ|exact QI
 .refine AO (λ_=>rfl) λ_=>?_
  cases op<;>first|exact Qc|exact J3
 .exact AO (λ_=>rfl) λ_=>NP
 .exact IE
 .exact(f rfl).elim
 .exact(h rfl).elim
 .exact Aa (A7 AB) λd=>AO (λ_=>U4) λ_=>JX
 .exact JX
 .exact JX
 .exact Di (λz=>Di (λz=>A7 (PW e)) (DU (PW e))) (Ig λz=>DU (PW e))
 .exact Di (λz=>Di (λz=>A7 (DR e)) (DU (DR e))) (Ig λz=>DU (DR e))
 .exact Di (λz=>Di (λz=>A7 (DR e)) (DU (DR e))) (Ig λz=>DU (DR e))
 .exact Di (λz=>Di (λz=>A7 (DR e)) (DU (DR e))) (Ig λz=>DU (DR e))
 .exact Di (λz=>Di (λz=>A7 (DR e)) (DU (DR e))) (Ig λz=>DU (DR e))
 .exact Di (λz=>PY) P6
 .exact Di (λz=>PY) P6
 .exact Di (λz=>PY) P6
 .exact rfl
 .exact rfl
 .exact rfl
end
section
variable {P:l_} {gs:Array m_} {w w₁:o_} {sl:d_ (W_)} {i j:Nat} {g g₂ gj:m_} {es:Array Event} {cases cj:Array CommCase} {shape shj:CommShape} {k kj c cap s r:Nat} {buf:X_} {tm:Bool} {v z zj:n_} {blocking:Bool}
theorem Ze (C:gs[i]?=some g) (h:stepG P (i==0) g w=.comm g₂ cases blocking shape w₁ es) (A:cases[k]?=some (scase c v z))
  (B:∀(m:Nat) (p:CommCase),m≠k->cases[m]?=some p->NoWays w₁ (gs.setIfInBounds i ph) p)
  (f:w₁.heap[c]?=some (.chan cap buf false s r tm)) (l:j≠i) (D:gs[j]?=some (parked gj cj shj)) (o:cj[kj]?=some (rcase c zj)) (E:partners (gs.setIfInBounds i ph) c false=[(j,kj)]):
  runT P (crowd gs w sl) i=(.next (crowd ((gs.setIfInBounds j (Conc.served gj (commResult cj shj kj v true))).setIfInBounds i (Conc.served g₂ (commResult cases shape k undef false))) (w₁.setChan c cap buf false (s+1) (r+1) tm) sl),
   MemOp.ofEvents i g.frame.fn g.frame.place es++#[{ g:=i,fn:=g₂.frame.fn,pos:=g₂.frame.place,act:=.send c s },{ g:=j,fn:=gj.frame.fn,pos:=gj.frame.place,act:=.recv c r cap },
    { g:=i,fn:=g₂.frame.fn,pos:=g₂.frame.place,act:=.sendDone c s },{ g:=j,fn:=gj.frame.fn,pos:=gj.frame.place,act:=.recvDone c r }]):=by
 have e:ways w₁ (gs.setIfInBounds i ph) (scase c v z)=[.partner j kj]:=by simp[ways,scase,f,E]
 have a:=stand_get (i:=i) l D;have b:=finishPartner_at P (gs.setIfInBounds i ph) a (cs:=cj) (sh:=shj) rfl kj v;have d:(gs.setIfInBounds i ph).getD j default=parked gj cj shj:=by rw[g_,a];rfl
 rw[runT_crowd_comm C h];unfold communicate;simp only[ready_one A (by rw[e];simp) B,e];rw[ru]
 .simp[choose,Sem.run,Question.forced,bind,Sem.bind,pure,scase,crowd,f,b,d,set_stand2,o,rcase,parked,World.setChan]
  rfl
 .rw[Bool.not_eq_true];exact any_ill (made_of_one A (made_send v z f) B)
theorem Zg (D:gs[i]?=some g) (h:stepG P (i==0) g w=.comm g₂ cases blocking shape w₁ es) (B:cases[k]?=some (rcase c z))
  (C:∀(m:Nat) (A:CommCase),m≠k->cases[m]?=some A->NoWays w₁ (gs.setIfInBounds i ph) A)
  (o:w₁.heap[c]?=some (.chan cap #[] false s r tm)) (p:j≠i) (E:gs[j]?=some (parked gj cj shj)) (l:cj[kj]?=some (scase c v zj)) (F:partners (gs.setIfInBounds i ph) c true=[(j,kj)]):
  runT P (crowd gs w sl) i=(.next (crowd ((gs.setIfInBounds j (Conc.served gj (commResult cj shj kj undef false))).setIfInBounds i (Conc.served g₂ (commResult cases shape k v true))) (w₁.setChan c cap #[] false (s+1) (r+1) tm) sl),
   MemOp.ofEvents i g.frame.fn g.frame.place es++#[{ g:=j,fn:=gj.frame.fn,pos:=gj.frame.place,act:=.send c s },{ g:=i,fn:=g₂.frame.fn,pos:=g₂.frame.place,act:=.recv c r cap },
    { g:=j,fn:=gj.frame.fn,pos:=gj.frame.place,act:=.sendDone c s },{ g:=i,fn:=g₂.frame.fn,pos:=g₂.frame.place,act:=.recvDone c r }]):=by
 have f:ways w₁ (gs.setIfInBounds i ph) (rcase c z)=[.partner j kj]:=by simp[ways,rcase,o,F]
 have a:=stand_get (i:=i) p E;have b:=finishPartner_at P (gs.setIfInBounds i ph) a (cs:=cj) (sh:=shj) rfl kj undef;have d:(gs.setIfInBounds i ph).getD j default=parked gj cj shj:=by rw[g_,a];rfl
 have e:offeredValue (gs.setIfInBounds i ph) j kj=v:=by simp[offeredValue,a,parked,l,scase]
 rw[runT_crowd_comm D h];unfold communicate;simp only[ready_one B (by rw[f];simp) C,f];rw[ru]
 .simp[choose,Sem.run,Question.forced,bind,Sem.bind,pure,rcase,crowd,o,b,d,e,set_stand2,l,scase,parked,World.setChan]
  rfl
 .rw[Bool.not_eq_true];exact any_ill (made_of_one B (made_recv z o) C)
end
end Go.Fxa
