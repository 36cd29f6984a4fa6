/- What is held of -/
import Derived.Test.YtmhplpfpcnjekaaGreatA01
import Derived.Conc.TokenTrace
import Derived.Conc.Token
import Derived.Conc.CrowdSel
namespace Go.Fxa
open Go.Conc
variable {i g j c q x y d b:Nat}{a:f_}{Lt:Loc->Prop}{u:Unsupported}{op:BinOp}{k:IntKind}{s:FloatKind}{n:Int}{t:j_}
structure PX (Ad Still:Loc->Prop)(Mem Am:Nat->Prop)(B h:Nat)(t:Trace):Prop where
 clean:∀said,¬Race said t
 known:∀i a,touchAt t i=some a->a.loc.isMemory=true->Knows t h i\/((a.write=false\/Ad a.loc)/\Still a.loc/\∃g,t.g? i=some g/\Am g)\/(Ad a.loc/\(a.kind=.atomic/\¬Still a.loc)/\¬t.heard i)
 wrote:∀i a,touchAt t i=some a->a.write=true->(Still a.loc/\¬Ad a.loc)->∀g,Mem g->Knows t g i
 hears:∀g,Mem g->Deaf t g=0
 seen:∀op∈t,op.act.low B
theorem heard_old {t u:Trace}(h:i<t.size):(t++u).heard i ↔ t.heard i:=by
 unfold Trace.heard;rw[g?_old h];constructor
 .rintro⟨g,b,a⟩;exact⟨g,b,by rw[deaf_old (Nat.le_of_lt h)]at a;exact a⟩
 .rintro⟨g,b,a⟩;exact⟨g,b,by rw[deaf_old (Nat.le_of_lt h)];exact a⟩
section
variable {Ad Still:Loc->Prop}{Mem Am:Nat->Prop}{B h:Nat}{t u:Trace}
theorem PX.mono {e:Nat}(H:PX Ad Still Mem Am B h t)(hB:B<=e):PX Ad Still Mem Am e h t:=⟨H.clean,H.known,H.wrote,H.hears,λop a=>MemAct.low_mono hB (H.seen op a)⟩
theorem PX.fewer {Me:Nat->Prop}(H:PX Ad Still Mem Am B h t)(f:∀g,Me g->Mem g):PX Ad Still Me Am B h t:=⟨H.clean,H.known,λi a d e c g b=>H.wrote i a d e c g (f g b),λg b=>H.hears g (f g b),H.seen⟩
theorem PX.loosen {Loose':Nat->Prop}(H:PX Ad Still Mem Am B h t)(hL:∀g,Am g->Loose' g):PX Ad Still Mem Loose' B h t:=
 ⟨H.clean,λi a b e=>(H.known i a b e).imp id (.imp (λ⟨x,y,g,c,d⟩=>⟨x,y,g,c,hL g d⟩) id),H.wrote,H.hears,H.seen⟩
theorem PX.old (H:PX Ad Still Mem Am B h t){a:Touch}{x:MemOp}(f:t[i]?=some x)(l:x.act.touch?=some a)(m:a.loc.isMemory=true):
  Knows (t++u) h i\/((a.write=false\/Ad a.loc)/\Still a.loc/\∃g,(t++u).g? i=some g/\Am g)\/(Ad a.loc/\(a.kind=.atomic/\¬Still a.loc)/\¬(t++u).heard i):=by
 have b:=lt_size_of_getElem? f;obtain d|⟨p,q,g,c,e⟩|⟨p,q,r⟩:=H.known i a (by rw[touchAt_of f];exact l) m
 .exact .inl (d.app u)
 .exact .inr (.inl ⟨p,q,g,by rw[g?_old b];exact c,e⟩)
 .exact .inr (.inr ⟨p,q,by rw[heard_old b];exact r⟩)
theorem PX.Pv (H:PX Ad Still Mem Am B h t)(l:∀op∈u,op.g=g)(f:Mem g->Deaf (t++u) g=Deaf t g):∀g',Mem g'->Deaf (t++u) g'=0:=λg' a=>by
 by_cases e:g'=g
 .subst e;exact(f a).trans (H.hears g' a)
 .exact(Deaf_other t (λx=>e x.symm) u l).trans (H.hears g' a)
theorem PX.appMute (H:PX Ad Still Mem Am B h t)(v:∀op∈u,op.g=g)(o:∀op∈u,op.act.touch?=none)(p:Mem g->Deaf (t++u) g=Deaf t g)(r:∀op∈u,op.act.low B):PX Ad Still Mem Am B h (t++u):=by
 refine⟨λsaid=>noRace_appendMute (H.clean said) o,λi a e m=>?_,λi a e n l k f=>?_,H.Pv v p,seen_app H.seen r⟩
 .obtain⟨x,j,b⟩:=touch_of e;obtain⟨_,c⟩|⟨_,d⟩:=getElem?_append_cases j
  .exact H.old c b m
  .rw[o x d]at b;cases b
 .obtain⟨x,j,b⟩:=touch_of e;obtain⟨_,c⟩|⟨_,d⟩:=getElem?_append_cases j
  .exact(H.wrote i a (by rw[touchAt_of c];exact b) n l k f).app u
  .rw[o x d]at b;cases b
theorem PX.appRead (z:∀l,Still l->¬Ad l)(H:PX Ad Still Mem Am B h t)(D:Mem g)(hL:Am g)(A:∀op∈u,op.g=g)(w:∀op∈u,∀b,op.act.touch?=some b->b.write=false/\Still b.loc)(C:Deaf (t++u) g=Deaf t g)
  (E:∀op∈u,op.act.low B):PX Ad Still Mem Am B h (t++u):=by
 refine⟨λsaid=>noRace_append (H.clean said) A λi a e op q b hb n=>?_,λi a e v=>?_,λi a e p s r o=>?_,H.Pv A (λ_=>C),seen_app H.seen E⟩
 .obtain⟨m,f⟩:=w op q b hb;obtain x|x:=n.2.2.1
  .exact H.wrote i a e x ⟨n.1 ▸ f,z _ (n.1 ▸ f)⟩ g D
  .rw[m]at x;cases x
 .obtain⟨x,j,c⟩:=touch_of e;obtain⟨_,k⟩|⟨_,d⟩:=getElem?_append_cases j
  .exact H.old k c v
  .exact .inr (.inl ⟨.inl (w x d a c).1,(w x d a c).2,g,by rw[g?_of j,A x d],hL⟩)
 .obtain⟨x,j,c⟩:=touch_of e;obtain⟨_,k⟩|⟨_,d⟩:=getElem?_append_cases j
  .exact(H.wrote i a (by rw[touchAt_of k];exact c) p s r o).app u
  .rw[(w x d a c).1]at p;cases p
theorem PX.appH (H:PX Ad Still Mem Am B h t)(A:∀op∈u,op.g=h)(z:∀op∈u,∀b,op.act.touch?=some b->(Still b.loc->b.write=false/\¬Ad b.loc)/\(Ad b.loc->b.kind≠.plain))(C:Mem h->Deaf (t++u) h=Deaf t h)(D:∀op∈u,op.act.low B):
  PX Ad Still Mem Am B h (t++u):=by
 refine⟨λsaid=>noRace_append (H.clean said) A λi a j op s b hb f=>?_,λi a j y=>?_,λi a j d e g v=>?_,H.Pv A C,seen_app H.seen D⟩
 .obtain w|⟨d,e,_⟩|⟨e,⟨o,_⟩,_⟩:=H.known i a j f.2.1
  .exact w
  .obtain⟨p,q⟩:=(z op s b hb).1 (f.1 ▸ e);have d:=d.resolve_right (λh=>q (f.1 ▸ h));obtain x|x:=f.2.2.1
   .rw[d]at x;cases x
   .rw[p]at x;cases x
  .have r:=(z op s b hb).2 (f.1 ▸ e);obtain⟨_,_,_,c⟩:=f;rw[o]at c;obtain x|x|⟨_,x,_⟩:=c
   .cases x
   .exact qx x r
   .cases x
 .obtain⟨x,l,k⟩:=touch_of j;obtain⟨_,m⟩|⟨_,n⟩:=getElem?_append_cases l
  .exact H.old m k y
  .have:=knows_own l;rw[A x n]at this;exact .inl this
 .obtain⟨x,l,k⟩:=touch_of j;obtain⟨_,m⟩|⟨_,n⟩:=getElem?_append_cases l
  .exact(H.wrote i a (by rw[touchAt_of m];exact k) d e g v).app u
  .rw[((z x n a k).1 e.1).1]at d;cases d
theorem PX.bm8 {W:Loc->Prop}(H:PX Ad Still Mem Am B h t)(F:∀l,W l->Ad l/\¬Still l)(G:∀i a,touchAt t i=some a->W a.loc->a.kind=.plain->Knows t g i)(L:¬Mem g)(J:∀op∈u,op.g=g)
  (I:∀op∈u,∀b,op.act.touch?=some b->W b.loc/\b.kind=.atomic) (K:∀k,k<u.size->(t++u).deaf g (t.size+k)≠0) (M:∀op∈u,op.act.low B):PX Ad Still Mem Am B h (t++u):=by
 refine⟨λsaid=>noRace_append (H.clean said) J λi a f op v b hb A=>?_,λi a f D=>?_,λi a f E s r d=>?_,H.Pv J (λx=>(L x).elim),seen_app H.seen M⟩
 .obtain⟨p,q⟩:=I op v b hb;obtain⟨n,_,_,c⟩:=A;rw[q]at c;obtain x|x|⟨_,_,x⟩:=c
  .exact G i a f (n ▸ p) x
  .cases x
  .cases x
 .obtain⟨x,j,e⟩:=touch_of f;obtain⟨_,o⟩|⟨C,m⟩:=getElem?_append_cases j
  .exact H.old o e D
  .obtain⟨n,z⟩:=I x m a e;refine .inr (.inr ⟨(F _ n).1,⟨z,(F _ n).2⟩,?_⟩);rintro⟨r,d,y⟩;have w:=lt_size_of_getElem? j;rw[Array.size_append]at w;rw[g?_of j,J x m]at d;obtain rfl:=x_ d;have:=K (i-t.size) wB;rw[show t.size+(i-t.size)=i from by omega]at this;exact this y
 .obtain⟨x,j,e⟩:=touch_of f;obtain⟨_,o⟩|⟨_,m⟩:=getElem?_append_cases j
  .exact(H.wrote i a (by rw[touchAt_of o];exact e) E s r d).app u
  .exact((F _ (I x m a e).1).2 s.1).elim
theorem PX.give (H:PX Ad Still Mem Am B h t)(I:Mem h)(J:Mem j)(D:h_)(ph:String)(E:h_)(F:String)(k cap:Nat)(G:c<B):
  PX Ad Still Mem (λg=>Am g/\g≠j) B j (t++met h j D ph E F c k cap):=by
 have u:=met_mute h j D ph E F c k cap;have hq:=met_quiet h j D ph E F c k cap;have o:(t++met h j D ph E F c k cap)[t.size]?=some { g:=h,fn:=D,pos:=ph,act:=.send c k}:=by simp[met]
 have e3:(t++met h j D ph E F c k cap)[t.size+3]?=some { g:=j,fn:=E,pos:=F,act:=.recvDone c k}:=by simp[met]
 have f:HappensBefore (t++met h j D ph E F c k cap) t.size (t.size+3):=
  Relation.TransGen.single (.inr ⟨.handOver (act?_of o) (act?_of e3),⟨h,g?_of o,by rw[deaf_old w_];exact H.hears h I⟩,⟨j,g?_of e3,by rw[deaf_quiet (hq j) 3 (by simp[met])];exact H.hears j J⟩⟩);refine⟨λsaid=>noRace_appendMute (H.clean said) u,λi a s A=>?_,λi a s C w g d=>?_,λg d=>(Deaf_quiet (hq g)).trans (H.hears g d),seen_app H.seen λop v=>?_⟩
 .obtain⟨x,m,b⟩:=touch_of s;obtain⟨hi,l⟩|⟨_,n⟩:=getElem?_append_cases m
  .obtain y|⟨p,q,g,d,z⟩|⟨p,q,r⟩:=H.known i a (by rw[touchAt_of l];exact b) A
   .exact .inl ⟨t.size+3,_,e3,rfl,.inr ((y.hb_new w_ o rfl).trans f)⟩
   .by_cases e:g=j
    .subst e;have:=knows_own m;rw[show x.g=g from by have:=g?_of l;rw[d]at this;exact(x_ this).symm]at this;exact .inl this
    .exact .inr (.inl ⟨p,q,g,by rw[g?_old hi];exact d,z,e⟩)
   .exact .inr (.inr ⟨p,q,by rw[heard_old hi];exact r⟩)
  .rw[u x n]at b;cases b
 .obtain⟨x,m,b⟩:=touch_of s;obtain⟨_,l⟩|⟨_,n⟩:=getElem?_append_cases m
  .exact(H.wrote i a (by rw[touchAt_of l];exact b) C w g d).app _
  .rw[u x n]at b;cases b
 .simp only[met,eu,r_,lG,or_false]at v;obtain rfl|rfl|rfl|rfl:=v<;>exact G
theorem PX.born (H:PX Ad Still Mem Am B h t)(J:Mem h)(F:Deaf t c=0)(I:h_)(ph:String)(G:h_):
  PX Ad Still (λg=>Mem g\/g=c) Am B c (t++#[{ g:=h,fn:=I,pos:=ph,act:=.go c},{ g:=c,fn:=G,pos:=ph,act:=.start}]):=by
 generalize m:(#[{ g:=h,fn:=I,pos:=ph,act:=.go c},{ g:=c,fn:=G,pos:=ph,act:=.start}]:Trace)=u;have w:∀op∈u,op.act.touch?=none:=by
  intro op b;subst m
  simp only[eu,r_,lG,or_false]at b
  obtain rfl|rfl:=b<;>rfl
 have hq:∀g,∀op∈u,∀d,deafStep g d op=d:=by
  intro g op b d;subst m
  simp only[eu,r_,lG,or_false]at b
  obtain rfl|rfl:=b<;>rfl
 have n:(t++u)[t.size]?=some { g:=h,fn:=I,pos:=ph,act:=.go c}:=by subst m;simp
 have e1:(t++u)[t.size+1]?=some { g:=c,fn:=G,pos:=ph,act:=.start}:=by subst m;simp
 have f:HappensBefore (t++u) t.size (t.size+1):=
  Relation.TransGen.single (.inr ⟨.spawn (act?_of n) (act?_of e1) (g?_of e1),⟨h,g?_of n,by rw[deaf_old w_];exact H.hears h J⟩,⟨c,g?_of e1,by rw[deaf_quiet (hq c) 1 (by subst m;simp)];exact F⟩⟩);refine⟨λsaid=>noRace_appendMute (H.clean said) w,λi a v D=>?_,λi a v E z g l=>?_,λg l=>(Deaf_quiet (hq g)).trans (l.elim (H.hears g) λe=>e ▸ F),seen_app H.seen λop b=>?_⟩
 .obtain⟨x,y,k⟩:=touch_of v;obtain⟨hi,o⟩|⟨_,s⟩:=getElem?_append_cases y
  .obtain A|⟨p,q,g,l,C⟩|⟨p,q,r⟩:=H.known i a (by rw[touchAt_of o];exact k) D
   .exact .inl ⟨t.size+1,_,e1,rfl,.inr ((A.hb_new w_ n rfl).trans f)⟩
   .exact .inr (.inl ⟨p,q,g,by rw[g?_old hi];exact l,C⟩)
   .exact .inr (.inr ⟨p,q,by rw[heard_old hi];exact r⟩)
  .rw[w x s]at k;cases k
 .obtain⟨x,y,k⟩:=touch_of v;obtain⟨_,o⟩|⟨_,s⟩:=getElem?_append_cases y
  .have j:=H.wrote i a (by rw[touchAt_of o];exact k) E z;obtain l|rfl:=l
   .exact(j g l).app u
   .exact⟨t.size+1,_,e1,rfl,.inr (((j h J).hb_new w_ n rfl).trans f)⟩
  .rw[w x s]at k;cases k
 .subst m;simp only[eu,r_,lG,or_false]at b;obtain rfl|rfl:=b<;>trivial
theorem PX.acquire {m:Nat}{op:MemOp}(H:PX Ad Still Mem Am B h t)(U:Deaf t h=0)(Q:t[m]?=some op)(N:op.g=c)(O:op.act=.mark (.releaseMerge a))(T:t.deaf c m=0)
  (R:∀i b,touchAt t i=some b->t.g? i=some c->(b.write=false\/Ad b.loc)->Still b.loc->Am c->i<m\/(Ad b.loc/\(b.kind=.atomic/\¬Still b.loc)/\¬t.heard i)) (P:∀k,m<k->t.act? k≠some (.mark (.release a)))
  (fn:h_) (pos:String) (S:a.block<B):PX Ad Still Mem (λg=>Am g/\g≠c) B h (t++#[{ g:=h,fn:=fn,pos:=pos,act:=.mark (.acquire a)}]):=by
 generalize w:(#[{ g:=h,fn:=fn,pos:=pos,act:=.mark (.acquire a)}]:Trace)=u;have E:∀op∈u,op.act.touch?=none:=by
  intro op f;subst w
  simp only[eu,r_,lG,or_false]at f
  subst f;rfl
 have hq:∀g,∀op∈u,∀d,deafStep g d op=d:=by
  intro g op f d;subst w
  simp only[eu,r_,lG,or_false]at f
  subst f;rfl
 have y:=lt_size_of_getElem? Q;have A:(t++u)[t.size]?=some { g:=h,fn:=fn,pos:=pos,act:=.mark (.acquire a)}:=by subst w;simp
 have C:(t++u)[m]?=some op:=by rw[getElem?_append_old y];exact Q
 have o:HappensBefore (t++u) m t.size:=by
  refine Relation.TransGen.single (.inr ⟨.marked (a:=a) y (.inr (by rw[act?_of C,O])) (act?_of A) (λk I J=>?_),⟨c,by rw[g?_of C,N],by rw[deaf_old (Nat.le_of_lt y)];exact T⟩,⟨h,g?_of A,by rw[deaf_old w_];exact U⟩⟩)
  rw[act?_old J];exact P k I
 refine⟨λsaid=>noRace_appendMute (H.clean said) E,λi b hi s=>?_,λi b hi M K g N=>?_,λg N=>(Deaf_quiet (hq g)).trans (H.hears g N),seen_app H.seen λop f=>?_⟩
 .obtain⟨x,F,j⟩:=touch_of hi;obtain⟨v,n⟩|⟨_,z⟩:=getElem?_append_cases F
  .obtain L|⟨p,q,g,l,G⟩|⟨p,q,r⟩:=H.known i b (by rw[touchAt_of n];exact j) s
   .exact .inl (L.app u)
   .by_cases e:g=c
    .subst e;obtain D|⟨p,q,r⟩:=R i b (by rw[touchAt_of n];exact j) l p q G
     .refine .inl ⟨t.size,_,A,rfl,.inr ((hb_po D (by rw[getElem?_append_old v];exact n) C ?_).trans o)⟩;have:=g?_of n;rw[l]at this;rw[N];exact(x_ this).symm
     .exact .inr (.inr ⟨p,q,by rw[heard_old v];exact r⟩)
    .exact .inr (.inl ⟨p,q,g,by rw[g?_old v];exact l,G,e⟩)
   .exact .inr (.inr ⟨p,q,by rw[heard_old v];exact r⟩)
  .rw[E x z]at j;cases j
 .obtain⟨x,F,j⟩:=touch_of hi;obtain⟨_,n⟩|⟨_,z⟩:=getElem?_append_cases F
  .exact(H.wrote i b (by rw[touchAt_of n];exact j) M K g N).app u
  .rw[E x z]at j;cases j
 .subst w;simp only[eu,r_,lG,or_false]at f;subst f;exact S
theorem PX.ofPast (H:Past Ad B t)(w:∀l,Still l->l.isMemory=true)(v:∀l,Still l->¬Ad l):PX Ad Still (λg=>g=0) (λ_=>False) B 0 t:=by
 refine⟨H.clean,λi a b n=>?_,λi a b _ c _ d=>d ▸ (H.known i a b (w _ c.1)).elim id (λx=>(v _ c.1 x.1).elim),λ_ d=>d ▸ H.hears,H.seen⟩;obtain q|⟨k,o⟩:=H.known i a b n
 .exact .inl q
 .by_cases m:t.heard i
  .obtain⟨op,f,r⟩:=touch_of b;by_cases h:op.g=0
   .have:=knows_own f;rw[h]at this;exact .inl this
   .obtain⟨j,p,hb⟩:=H.over i op.g (g?_of f) h ⟨a,b,n,.inr m⟩;obtain⟨z,s,e⟩:=lT.1 (show(t[j]?).map (·.g)=some 0 from p);exact .inl ⟨j,z,s,e,.inr hb⟩
  .exact .inr (.inr ⟨k,⟨o,λc=>v _ c k⟩,m⟩)
theorem PX.toPast {r:Loc->Prop}(H:PX Ad Still Mem Am B 0 t)(v:Deaf t 0=0)(hL:∀g,¬Am g)(w:∀l,Ad l->¬Still l->r l):Past r B t:=by
 have j:∀i a,touchAt t i=some a->a.loc.isMemory=true->Knows t 0 i\/(r a.loc/\a.kind=.atomic/\¬t.heard i):=λi a f c=>
  (H.known i a f c).imp id λx=>x.elim (λ⟨_,_,g,_,o⟩=>(hL g o).elim) λ⟨n,d,e⟩=>⟨w _ n d.2,d.1,e⟩
 refine⟨H.clean,λi a f c=>(j i a f c).imp id λx=>⟨x.1,x.2.1⟩,λi g h m ⟨x,p,c,b⟩=>?_,v,H.seen⟩;obtain⟨q,z,hq,k,hb⟩|⟨_,d,e⟩:=j i x p c
 .obtain rfl|hb:=hb
  .rw[g?_of hq,k]at h;exact qx (x_ h).symm m
  .exact⟨q,by rw[g?_of hq,k],hb⟩
 .obtain b|b:=b
  .exact(b d).elim
  .exact(e b).elim
theorem PX.aw2 (H:PX Ad Still Mem Am B h t)(p:∀op∈u,op.act.touch?=none)(r:∀g,Deaf (t++u) g=Deaf t g)(v:∀op∈u,op.act.low B):PX Ad Still Mem Am B h (t++u):=by
 refine⟨λsaid=>noRace_appendMute (H.clean said) p,λi a e n=>?_,λi a e o l k f=>?_,λg m=>(r g).trans (H.hears g m),seen_app H.seen v⟩
 .obtain⟨x,j,b⟩:=touch_of e;obtain⟨_,c⟩|⟨_,d⟩:=getElem?_append_cases j
  .exact H.old c b n
  .rw[p x d]at b;cases b
 .obtain⟨x,j,b⟩:=touch_of e;obtain⟨_,c⟩|⟨_,d⟩:=getElem?_append_cases j
  .exact(H.wrote i a (by rw[touchAt_of c];exact b) o l k f).app u
  .rw[p x d]at b;cases b
theorem PX.Δ (H:PX Ad Still Mem Am B h t)(e:h_)(ph:String)(f:h_)(l:String)(k cap:Nat)(m:c<B):PX Ad Still Mem Am B h (t++met h j e ph f l c k cap):=
 H.aw2 (met_mute h j e ph f l c k cap) (λg=>Deaf_quiet (met_quiet h j e ph f l c k cap g)) λop a=>by
  simp only[met,eu,r_,lG,or_false]at a
  obtain rfl|rfl|rfl|rfl:=a<;>exact m
def KnL (Ad Still:Loc->Prop)(g:Nat)(t:Trace):Prop:=∀i a,touchAt t i=some a->Still a.loc->Ad a.loc->Knows t g i
theorem KnL.app (H:KnL Ad Still g t)(l:∀op∈u,∀b,op.act.touch?=some b->Still b.loc->Ad b.loc->op.g=g):KnL Ad Still g (t++u):=by
 intro i a k e c;obtain⟨x,f,d⟩:=touch_of k;obtain⟨_,h⟩|⟨_,j⟩:=getElem?_append_cases f
 .exact(H i a (by rw[touchAt_of h];exact d) e c).app u
 .have:=knows_own f;rw[l x j a d e c]at this;exact this
theorem PX.bm7 (H:PX Ad Still Mem Am B h t)(z:¬Mem g)(hL:Am g)(A:KnL Ad Still g t)(w:∀op∈u,op.g=g)(v:∀op∈u,∀b,op.act.touch?=some b->Still b.loc/\Ad b.loc)(C:∀op∈u,op.act.low B):PX Ad Still Mem Am B h (t++u):=by
 refine⟨λsaid=>noRace_append (H.clean said) w λi a e op n b hb m=>?_,λi a e r=>?_,λi a e s l o k=>?_,H.Pv w (λx=>(z x).elim),seen_app H.seen C⟩
 .obtain⟨p,q⟩:=v op n b hb;exact A i a e (m.1 ▸ p) (m.1 ▸ q)
 .obtain⟨x,f,c⟩:=touch_of e;obtain⟨_,j⟩|⟨_,d⟩:=getElem?_append_cases f
  .exact H.old j c r
  .exact .inr (.inl ⟨.inr (v x d a c).2,(v x d a c).1,g,by rw[g?_of f,w x d],hL⟩)
 .obtain⟨x,f,c⟩:=touch_of e;obtain⟨_,j⟩|⟨_,d⟩:=getElem?_append_cases f
  .exact(H.wrote i a (by rw[touchAt_of j];exact c) s l o k).app u
  .exact(l.2 (v x d a c).2).elim
theorem PX.cw2 (H:PX Ad Still Mem Am B h t)(m:∀l,Lt l->¬Ad l):PX (λl=>Ad l\/Lt l) (λl=>Still l\/Lt l) Mem Am B h t:=by
 refine⟨H.clean,λi a b e=>?_,λi a b f c=>H.wrote i a b f ⟨c.1.resolve_right λh=>c.2 (.inr h),λh=>c.2 (.inl h)⟩,H.hears,H.seen⟩;obtain d|⟨x,y,z⟩|⟨x,⟨y,z⟩,k⟩:=H.known i a b e
 .exact .inl d
 .exact .inr (.inl ⟨x.imp id .inl,.inl y,z⟩)
 .exact .inr (.inr ⟨.inl x,⟨y,λh=>h.elim z λh=>m _ h x⟩,k⟩)
theorem PX.knL (H:PX Ad Still Mem Am B h t)(p:∀l,Lt l->l.isMemory=true)(f:∀l,Lt l->¬Ad l)(m:∀l,Lt l->¬Still l)(o:∀l,Still l->¬Ad l):KnL (λl=>Ad l\/Lt l) (λl=>Still l\/Lt l) h t:=by
 intro i a d b c;have hL:Lt a.loc:=by
  obtain b|b:=b
  .exact c.resolve_left (o _ b)
  .exact b
 obtain e|⟨_,y,_⟩|⟨x,_⟩:=H.known i a d (p _ hL)
 .exact e
 .exact(m _ hL y).elim
 .exact(f _ hL x).elim
end
section
variable {P:l_}{α β:Type}{r:Nat}{K:α->Prop}
theorem I4 {s:String}:EZ P r (stuck s:Sem α):=λw c a d b _ _ h=>by simp[stuck]at h
theorem DC:EZ P r (unsupported u:Sem α):=λw c a d b _ _ h=>by simp[unsupported]at h
theorem Qi {f:d_ (j_×Nat)->Sem α}(h:EZ P r (f none)):EZ P r (shape r>>= f):=λw c a i b k g j=>by
 have d:(f (w.shape? r)).runT P w c=(.ok a i,b):=j;have e:w.shape? r=none:=by unfold World.shape?;rw[g];rfl
 rw[e]at d;exact h w c a i b k g d
theorem Lp {f:Obj->Sem α}(h:EZ P r (f DV)):EZ P r (getObj r>>= f):=λw d a c b j e i=>by
 have g:(f DV).runT P w (d.push ⟨.obj r,false,DV.isChan⟩)=(.ok a c,b):=by
  have:(Sem.getObj r f).runT P w d=(.ok a c,b):=i
  simp only[Sem.runT,e]at this
  exact this
 exact h w _ a c b j e g
theorem qE {f:d_ (j_×Nat)->Sem α}(h:∀s,EZ P r (f s)):EZ P r (shape q>>= f):=λw c a i b g d e=>h _ w c a i b g d e
theorem kP {f:Obj->Sem α}(h:∀o,EZ P r (f o)):EZ P r (getObj q>>= f):=λw d a c b i e g=>by
 have:(Sem.getObj q f).runT P w d=(.ok a c,b):=g;simp only[Sem.runT]at this;split at this
 .simp at this
 .exact h _ w _ a c b i e this
 .simp at this
theorem fO {e:Sem β}{f:β->Sem α}(h:EZ P r e):EZ P r (e>>= f):=h.bind
theorem Y6 {c:Prop} [Decidable c] {x y:Sem α} (e:c->EZ P r x) (f:¬c->EZ P r y):EZ P r (if c then x else y):=by
 split
 .exact e ‹_›
 .exact f ‹_›
theorem DZ {e:Sem α}(h:e.Au P λ_=>False):EZ P r e:=λw g a i f d _ b=>by
 obtain⟨_,_,c,_⟩:=U8 (Od:=ND) (Z:=λ_=>False) (w:=w) h (@Yr.mk ND _ _ _ rfl (λ_ _ _=>rfl) (λ_ h=>h.elim) d rfl rfl (λ_ h=>False.elim h) (λ_ h=>False.elim h) (λ_ h=>False.elim h)) (λ_ h=>h.elim) b (λ_ _ _=>rfl);exact c
theorem E8 (h:∀g,u≠.initOrder g):(unsupported u:Sem α).Au P K:=by
 cases u<;>first|rfl|exact(h _ rfl).elim
theorem qC {f:d_ (f_×j_)->Sem α}(h:EZ P r (f (some (⟨0,0,some 0⟩,0)))):EZ P r (viewAt r>>= f):=
 Qi (f:=λs=>(if s.isSome then pure none else getObj r>>= λo=>match o with | .view a t=>pure (some (a,t))|_=>pure none)>>= f) (Lp (f:=λo=>(match o with | .view a t=>pure (some (a,t))|_=>pure none)>>= f) h)
theorem aw5 {f:d_ (f_×Bool)->Sem α}(h:EZ P r (f none)):EZ P r (numberAt r>>= f):=
 Qi (f:=λs=>(if s.isSome then pure none else getObj r>>= λo=>match o with | .number a l=>pure (some (a,l))|_=>pure none)>>= f) (Lp (f:=λo=>(match o with | .number a l=>pure (some (a,l))|_=>pure none)>>= f) h)
theorem WV {f:d_ (f_×j_)->Sem α}(h:∀x,(f x).Au P K)(e:EZ P r (f (some (⟨0,0,some 0⟩,0)))):(viewAt r>>= f).Au P K:=by
 refine⟨λs=>?_,?_⟩
 .cases s with
  |some x=>exact h none
  |none=>exact⟨λo _=>by cases o<;>exact h _,e⟩
 .exact Lp (f:=λo=>(match o with | .view a t=>pure (some (a,t))|_=>pure none)>>= f) e
theorem bg {f:d_ (f_×Bool)->Sem α}(h:∀x,(f x).Au P K)(e:EZ P r (f none)):(numberAt r>>= f).Au P K:=by
 refine⟨λs=>?_,?_⟩
 .cases s with
  |some x=>exact h none
  |none=>exact⟨λo _=>by cases o<;>exact h _,e⟩
 .exact Lp (f:=λo=>(match o with | .number a l=>pure (some (a,l))|_=>pure none)>>= f) e
end
section
variable {P:l_}
theorem Qw {k:FloatKind}:(Op.floatArith op k x y).Au P λ_=>True:=by
 unfold Op.floatArith;have jp:∀r:d_ Nat,(match r with
   |some r=>pure (Value.float k r)
   |none=>do pure (Value.float k (<-choose (.nanBits k x y))):Sem n_).Au P λ_=>True:=λr=>by
  cases r with
  |none=>exact Ac FT λ_=>trivial
  |some _=>trivial
 cases op<;>first|exact jp _|exact Ak
theorem Kq {k:FloatKind}:(Op.floatCmp op k x y).Au P λ_=>True:=by
 unfold Op.floatCmp;cases op<;>first|trivial|rfl
theorem Hq {k:FloatKind}:(Op.Complex.arith op k x y).Au P λ_=>True:=by
 unfold Op.Complex.arith;refine Ac Qw λv=>?_
 cases v<;>first|trivial|rfl
theorem QR {k:FloatKind}:(Op.Complex.cmp op k x y).Au P λ_=>True:=Ac Kq λ_=>OE
theorem VG {d:FloatKind}:(Conv.floatToFloat s b d).Au P λ_=>True:=by
 unfold Conv.floatToFloat
 repeat' first|exact dE|exact rfl|refine Ac FT λ_=>?_|refine AO (λ_=>?_) λ_=>?_|split
theorem Jb {d:FloatKind}:(Op.Complex.conv s x d).Au P λ_=>True:=by
 unfold Op.Complex.conv;refine AO (λ_=>trivial) λ_=>Ac VG λv=>?_
 cases v<;>first|trivial|rfl
theorem jV {a:Nat}:(Op.Complex.product a b c d).Au P λ_=>True:=by
 unfold Op.Complex.product
 repeat' first|exact dE|refine Ac Hq λ_=>?_
theorem Ro {s a:Nat}:(Op.Complex.corrected s a b c d).Au P λ_=>True:=by
 unfold Op.Complex.corrected
 repeat' first|exact dE|refine Ac Hq λ_=>?_
theorem RN:(Op.Complex.add x y).Au P λ_=>True:=Hq
theorem eX:(Op.Complex.sub x y).Au P λ_=>True:=Hq
theorem Jc:(Op.Complex.mul x y).Au P λ_=>True:=Hq
theorem Nb:(Op.Complex.quo x y).Au P λ_=>True:=Hq
theorem bf {a:Nat}:(Op.Complex.quotient a b c d).Au P λ_=>True:=by
 unfold Op.Complex.quotient;refine Ac QR λt=>?_
 extract_lets jp
 have g:∀x,(jp x).Au P λ_=>True:=λ⟨e,f⟩=>by
  refine Ac QR λu=>Ac QR λh=>?_
  refine AO (λ_=>Ae trivial) λ_=>AO (λ_=>Ac Jc λ_=>Ac Jc λ_=>Ae trivial) λ_=>AO (λ_=>Ro) λ_=>AO (λ_=>Ro) λ_=>Ae trivial
 clear_value jp
 refine AO (λ_=>?_) λ_=>?_
 .exact Ac Nb λ_=>Ac Jc λ_=>Ac RN λ_=>Ac Jc λ_=>Ac RN λ_=>Ac Nb λ_=>Ac Jc λ_=>Ac eX λ_=>Ac Nb λ_=>Ac (Ae trivial) λ_=>g _
 .exact Ac Nb λ_=>Ac Jc λ_=>Ac RN λ_=>Ac Jc λ_=>Ac RN λ_=>Ac Nb λ_=>Ac Jc λ_=>Ac eX λ_=>Ac Nb λ_=>Ac (Ae trivial) λ_=>g _
theorem NV {k:FloatKind}{a:Nat}:(Op.complexOp op k a b c d).Au P λ_=>True:=by
 unfold Op.complexOp;cases op<;>first
  |exact rfl
  |exact Ac Hq λ_=>Ac Hq λ_=>trivial
  |exact Ac QR λ_=>Ac QR λ_=>trivial
  | (refine Ac Jb fun _=>Ac Jb fun _=>Ac Jb fun _=>Ac Jb fun _=>?_
     first
      |exact Ac jV λ_=>Ac Jb λ_=>Ac Jb λ_=>trivial
      |exact Ac bf λ_=>Ac Jb λ_=>Ac Jb λ_=>trivial)
theorem IM {x y:ByteArray}:(Op.stringOp op x y).Au P λ_=>True:=by
 unfold Op.stringOp;cases op<;>first|trivial|rfl|exact AO (λ_=>rfl) λ_=>trivial
theorem Zp {e:IntKind}{x y:Int}:(Op.shift op k x e y).Au P λ_=>True:=by
 unfold Op.shift;refine AO (λ_=>Bg) λ_=>?_
 cases op<;>first|trivial|rfl
theorem TD {x y:Int}:(Op.intArith op k x y).Au P λ_=>True:=by
 unfold Op.intArith;cases op<;>first|trivial|rfl
theorem pz {x y:Int}:(Op.intDiv op k x y).Au P λ_=>True:=by
 unfold Op.intDiv;refine AO (λ_=>Bg) λ_=>?_
 cases op<;>first|trivial|rfl
theorem Vs {x y:Int}:(Op.intBits op k x y).Au P λ_=>True:=by
 unfold Op.intBits;cases op<;>first|trivial|rfl
theorem Q4 {x y:Int}:(Op.intCmp op x y).Au P λ_=>True:=by
 unfold Op.intCmp;cases op<;>first|trivial|rfl
theorem vT {op:UnOp}{x:n_}:(Op.unary op x).Au P λ_=>True:=by
 unfold Op.unary;split<;>first|exact TD|exact Vs|trivial|rfl
theorem Q7:(byteOf a).Au P λ_=>True:=by
 unfold byteOf;cases hs:a.spot with
 |some s=>trivial
 |none=>
  refine Ac (Bf Dz) λp=>?_
  have b:(noView a).Au P λ_=>True:=WV (r:=a.block) (λx=>by
   cases x with
   |none=>exact Ae trivial
   |some y=>exact rfl) DC
  refine Ac b λ_=>⟨λs=>?_,I4⟩
  cases s with
  |none=>exact Ak
  |some x=>
   obtain⟨e,n⟩:=x
   refine AO (λ_=>Ae trivial) λ_=>?_
   split
   .exact Ae trivial
   .exact Ak
end
section
variable {P:l_}{α:Type}{r:Nat}{K:α->Prop}
theorem Dk {n:f_}{f:f_×Bool->Sem α}(h:∀x,(f x).Au P K)(e:EZ P n.block (f (n,false))):(behindNumber n>>= f).Au P K:=by
 refine⟨λs=>?_,?_⟩
 .cases s with
  |some x=>exact h _
  |none=>exact⟨λo _=>by cases o<;>exact h _,e⟩
 .exact Lp (f:=λo=>((match o with | .number a l=>pure (some (a,l))|_=>pure none)>>= λx=>pure (x.getD (n,false)))>>= f) e
theorem Io {n:f_}{f:f_×Bool->Sem α}(h:∀x,EZ P r (f x)):EZ P r (behindNumber n>>= f):=
 qE (f:=λs=>((if s.isSome then pure none else getObj n.block>>= λo=>match o with | .number a l=>pure (some (a,l))|_=>pure none)>>= λx=>pure (x.getD (n,false)))>>= f) λs=>by
  cases s with
  |some x=>exact h _
  |none=>exact kP (f:=λo=>((match o with | .number a l=>pure (some (a,l))|_=>pure none)>>= λx=>pure (x.getD (n,false)))>>= f) λo=>by cases o<;>exact h _
end
section
variable {P:l_}
theorem Rl (e:P.globals.size=0){b:f_}:(Op.twoPlaces a b).Au P λ_=>False:=by
 unfold Op.twoPlaces;refine Ej Dz λp c=>?_
 subst c;have:(a.block !=b.block || decide (a.block≥p.globals.size))=true:=by simp[e]
 rw[rW this];exact rfl
theorem Qm (e:P.globals.size=0){b:f_}:(Op.addrSub k a b).Au P λ_=>False:=Ej (Rl e) λ_ h=>h.elim
theorem DX (e:P.globals.size=0){b:f_}:(Op.addrCmp op a b).Au P λ_=>False:=Ej (Rl e) λ_ h=>h.elim
theorem Qn:(Op.addrMod k a n).Au P λ_=>True:=by
 refine⟨λs=>?_,DC⟩;cases s with
 |none=>exact rfl
 |some x=>
  obtain⟨e,m⟩:=x
  refine Ej (e:=Sem.pure (some (e,m))) (K:=λx=>x=some (e,m)) rfl λx b=>?_
  subst b
  exact Ac (Bf IK) λi=>AO (λ_=>rfl) λ_=>Ac Q7 λ_=>Ae trivial
theorem Qq:EZ P a.block (Op.addrMod k a n):=Qi (f:=λ_=>_) DC
theorem JK {x y:n_}:(Builtin.unsafeAdd_ #[] t #[x,y]).Au P λ_=>True:=by
 unfold Builtin.unsafeAdd_;cases x with
 |pointer ptr=>
  refine Ac NQ λn=>AO (λ_=>?_) λ_=>?_
  .cases ptr with
   |none=>exact rfl
   |some a=>
    refine WV (λx=>?_) DC
    cases x with
    |none=>exact Ae trivial
    |some y=>exact rfl
  .refine AO (λ_=>rfl) λ_=>?_
   cases ptr with
   |none=>exact rfl
   |some a=>
    refine⟨λs=>?_,DC⟩
    cases s with
    |none=>exact rfl
    |some x=>
     obtain⟨e,m⟩:=x
     refine Ej (e:=Sem.pure (some (e,m))) (K:=λx=>x=some (e,m)) rfl λx b=>?_
     subst b
     refine Ac (Bf Dz) λp=>?_
     split
     .exact Ae trivial
     .exact rfl
 |_=>exact rfl
theorem Rq {y:n_}:EZ P a.block (Builtin.unsafeAdd_ #[] t #[.pointer (some a),y]):=by
 unfold Builtin.unsafeAdd_;cases y with
 |int k n=>
  refine Y6 (λ_=>?_) λ_=>Y6 (λ_=>DC) λ_=>?_
  .exact qC DC
  .exact Qi (f:=λ_=>_) DC
 |pointer a=>cases a<;>first|exact I4|exact DC
 |_=>exact I4
theorem bG {l:Bool}:(asNumber a l).Au P λ_=>True:=Ac (OA rfl) λ_=>Ae trivial
theorem J7 {x y:n_}:(movedNumber t x y).Au P λ_=>True:=by
 unfold movedNumber;refine Ac (Bf AB) λd=>?_
 have key:∀(x:n_),(match x with
   |.pointer (some n)=>do
    let (a,lost)<-behindNumber n
    match<-Builtin.unsafeAdd_ #[] t #[.pointer (some a),y]with
    |.pointer (some b)=>asNumber b lost
    |v=>pure v
   |_=>Builtin.unsafeAdd_ #[] t #[x,y]:Sem n_).Au P λ_=>True:=λx=>by
  split
  .refine Dk (λz=>?_) (fO Rq);refine Ac JK λv=>?_
   split
   .exact bG
   .exact Ae trivial
  .exact JK
 refine AO (λ_=>rfl) λ_=>key x
theorem VF {x y:n_}:(movedPointer t x y).Au P λ_=>True:=by
 unfold movedPointer;split
 .refine bg (λz=>?_) (Y6 (λh=>by cases h) λ_=>Rq);refine AO (λ_=>rfl) λ_=>JK
 .exact JK
theorem wC (e:P.globals.size=0)(f:op≠.eql)(h:op≠.neq){x y:n_}:(binOp op t x y).Au P λ_=>True:=by
 unfold binOp;split
 .exact Zp
 .exact Zp
 .refine AO (λ_=>rfl) λ_=>?_
  cases op<;>first|exact TD|exact pz|exact Vs|exact Q4
 .refine AO (λ_=>rfl) λ_=>?_
  cases op<;>first|exact Qw|exact Kq
 .exact AO (λ_=>rfl) λ_=>NV
 .exact IM
 .exact(f rfl).elim
 .exact(h rfl).elim
 .exact Ac (Bf AB) λd=>AO (λ_=>VF) λ_=>J7
 .exact J7
 .exact J7
 .exact Dk (λz=>Dk (λz=>Bf (Qm e)) (DZ (Qm e))) (Io λz=>DZ (Qm e))
 .exact Dk (λz=>Dk (λz=>Bf (DX e)) (DZ (DX e))) (Io λz=>DZ (DX e))
 .exact Dk (λz=>Dk (λz=>Bf (DX e)) (DZ (DX e))) (Io λz=>DZ (DX e))
 .exact Dk (λz=>Dk (λz=>Bf (DX e)) (DZ (DX e))) (Io λz=>DZ (DX e))
 .exact Dk (λz=>Dk (λz=>Bf (DX e)) (DZ (DX e))) (Io λz=>DZ (DX e))
 .exact Dk (λz=>Qn) Qq
 .exact Dk (λz=>Qn) Qq
 .exact Dk (λz=>Qn) Qq
 .exact rfl
 .exact rfl
 .exact rfl
end
section
variable {P:l_}{gs:Array m_}{w w₁:o_}{sl:d_ (W_)}{i j:Nat}{g g₂ gj:m_}{es:Array Event}{cases cj:Array CommCase}{shape shj:CommShape}{k kj c cap s r:Nat}{buf:X_}{tm:Bool}{v z zj:n_}{blocking:Bool}
theorem ZZ (hi:gs[i]?=some g)(h:stepG P (i==0) g w=.comm g₂ cases blocking shape w₁ es)(A:cases[k]?=some (scase c v z))
  (B:∀(m:Nat)(p:CommCase),m≠k->cases[m]?=some p->NoWays w₁ (gs.setIfInBounds i ph) p)
  (f:w₁.heap[c]?=some (.chan cap buf false s r tm)) (l:j≠i) (C:gs[j]?=some (parked gj cj shj)) (o:cj[kj]?=some (rcase c zj)) (D:partners (gs.setIfInBounds i ph) c false=[(j,kj)]):
  runT P (crowd gs w sl) i=(.next (crowd ((gs.setIfInBounds j (Conc.served gj (commResult cj shj kj v true))).setIfInBounds i (Conc.served g₂ (commResult cases shape k undef false))) (w₁.setChan c cap buf false (s+1) (r+1) tm) sl),
   MemOp.ofEvents i g.frame.fn g.frame.place es++#[{ g:=i,fn:=g₂.frame.fn,pos:=g₂.frame.place,act:=.send c s},{ g:=j,fn:=gj.frame.fn,pos:=gj.frame.place,act:=.recv c r cap},
    { g:=i,fn:=g₂.frame.fn,pos:=g₂.frame.place,act:=.sendDone c s},{ g:=j,fn:=gj.frame.fn,pos:=gj.frame.place,act:=.recvDone c r}]):=by
 have e:ways w₁ (gs.setIfInBounds i ph) (scase c v z)=[.partner j kj]:=by simp[ways,scase,f,D]
 have a:=stand_get (i:=i) l C;have b:=finishPartner_at P (gs.setIfInBounds i ph) a (cs:=cj) (sh:=shj) rfl kj v;have d:(gs.setIfInBounds i ph).getD j default=parked gj cj shj:=by rw[ed,a];rfl
 rw[runT_crowd_comm hi h];unfold communicate;simp only[ready_one A (by rw[e];simp) B,e];rw[ru]
 .simp[choose,Sem.run,Question.forced,bind,Sem.bind,pure,scase,crowd,f,b,d,set_stand2,o,rcase,parked,World.setChan]
  rfl
 .rw[Bool.not_eq_true];exact any_ill (made_of_one A (made_send v z f) B)
theorem Z4 (hi:gs[i]?=some g)(h:stepG P (i==0) g w=.comm g₂ cases blocking shape w₁ es)(B:cases[k]?=some (rcase c z))
  (C:∀(m:Nat)(A:CommCase),m≠k->cases[m]?=some A->NoWays w₁ (gs.setIfInBounds i ph) A)
  (o:w₁.heap[c]?=some (.chan cap #[] false s r tm)) (p:j≠i) (D:gs[j]?=some (parked gj cj shj)) (l:cj[kj]?=some (scase c v zj)) (E:partners (gs.setIfInBounds i ph) c true=[(j,kj)]):
  runT P (crowd gs w sl) i=(.next (crowd ((gs.setIfInBounds j (Conc.served gj (commResult cj shj kj undef false))).setIfInBounds i (Conc.served g₂ (commResult cases shape k v true))) (w₁.setChan c cap #[] false (s+1) (r+1) tm) sl),
   MemOp.ofEvents i g.frame.fn g.frame.place es++#[{ g:=j,fn:=gj.frame.fn,pos:=gj.frame.place,act:=.send c s},{ g:=i,fn:=g₂.frame.fn,pos:=g₂.frame.place,act:=.recv c r cap},
    { g:=j,fn:=gj.frame.fn,pos:=gj.frame.place,act:=.sendDone c s},{ g:=i,fn:=g₂.frame.fn,pos:=g₂.frame.place,act:=.recvDone c r}]):=by
 have f:ways w₁ (gs.setIfInBounds i ph) (rcase c z)=[.partner j kj]:=by simp[ways,rcase,o,E]
 have a:=stand_get (i:=i) p D;have b:=finishPartner_at P (gs.setIfInBounds i ph) a (cs:=cj) (sh:=shj) rfl kj undef;have d:(gs.setIfInBounds i ph).getD j default=parked gj cj shj:=by rw[ed,a];rfl
 have e:offeredValue (gs.setIfInBounds i ph) j kj=v:=by simp[offeredValue,a,parked,l,scase]
 rw[runT_crowd_comm hi h];unfold communicate;simp only[ready_one B (by rw[f];simp) C,f];rw[ru]
 .simp[choose,Sem.run,Question.forced,bind,Sem.bind,pure,rcase,crowd,o,b,d,e,set_stand2,l,scase,parked,World.setChan]
  rfl
 .rw[Bool.not_eq_true];exact any_ill (made_of_one B (made_recv z o) C)
end
end Go.Fxa
