/- What is held of the trace whil -/
import Derived.Test.YtmhplpfpcnjekaaGreatA01
import Derived.Conc.TokenTrace
import Derived.Conc.Token
import Derived.Conc.CrowdSel
namespace Go.Fxa
open Go.Conc
structure PX (Ac Still:Loc->Prop) (Mem Ai:Nat->Prop) (B h:Nat) (t:Trace):Prop where
 clean:∀said,¬Race said t
 known:∀i a,touchAt t i=some a->a.loc.isMemory=true->Knows t h i\/((a.write=false\/Ac a.loc)/\Still a.loc/\∃g,t.g? i=some g/\Ai g)\/(Ac a.loc/\(a.kind=.atomic/\¬Still a.loc)/\¬t.heard i)
 wrote:∀i a,touchAt t i=some a->a.write=true->(Still a.loc/\¬Ac a.loc)->∀g,Mem g->Knows t g i
 hears:∀g,Mem g->Deaf t g=0
 seen:∀op∈t,op.act.low B
theorem heard_old {t u:Trace} {i:Nat} (h:i<t.size):(t++u).heard i ↔ t.heard i:=by
 unfold Trace.heard;rw[g?_old h];constructor
 .rintro⟨g,b,a⟩;exact⟨g,b,by rw[deaf_old (Nat.le_of_lt h)]at a;exact a⟩
 .rintro⟨g,b,a⟩;exact⟨g,b,by rw[deaf_old (Nat.le_of_lt h)];exact a⟩
section
variable {Ac Still:Loc->Prop} {Mem Ai:Nat->Prop} {B h:Nat} {t u:Trace}
theorem PX.mono {B':Nat} (H:PX Ac Still Mem Ai B h t) (hB:B<=B'):PX Ac Still Mem Ai B' h t:=⟨H.clean,H.known,H.wrote,H.hears,λop a=>MemAct.low_mono hB (H.seen op a)⟩
theorem PX.fewer {Ko:Nat->Prop} (H:PX Ac Still Mem Ai B h t) (hM:∀g,Ko g->Mem g):PX Ac Still Ko Ai B h t:=⟨H.clean,H.known,λi a d e c g b=>H.wrote i a d e c g (hM g b),λg b=>H.hears g (hM g b),H.seen⟩
theorem PX.loosen {Loose':Nat->Prop} (H:PX Ac Still Mem Ai B h t) (hL:∀g,Ai g->Loose' g):PX Ac Still Mem Loose' B h t:=
 ⟨H.clean,λi a b e=>(H.known i a b e).imp id (.imp (λ⟨x,y,g,c,d⟩=>⟨x,y,g,c,hL g d⟩) id),H.wrote,H.hears,H.seen⟩
theorem PX.old (H:PX Ac Still Mem Ai B h t) {i:Nat} {a:Touch} {x:MemOp} (Gn:t[i]?=some x) (EP:x.act.touch?=some a) (hm:a.loc.isMemory=true):
  Knows (t++u) h i\/((a.write=false\/Ac a.loc)/\Still a.loc/\∃g,(t++u).g? i=some g/\Ai g)\/(Ac a.loc/\(a.kind=.atomic/\¬Still a.loc)/\¬(t++u).heard i):=by
 have b:=lt_size_of_getElem? Gn;obtain d|⟨p,q,g,c,e⟩|⟨p,q,r⟩:=H.known i a (by rw[touchAt_of Gn];exact EP) hm
 .exact .inl (d.app u)
 .exact .inr (.inl ⟨p,q,g,by rw[g?_old b];exact c,e⟩)
 .exact .inr (.inr ⟨p,q,by rw[heard_old b];exact r⟩)
theorem PX.Og {g:Nat} (H:PX Ac Still Mem Ai B h t) (hu:∀op∈u,op.g=g) (hd:Mem g->Deaf (t++u) g=Deaf t g):∀g',Mem g'->Deaf (t++u) g'=0:=λg' a=>by
 by_cases e:g'=g
 .subst e;exact(hd a).trans (H.hears g' a)
 .exact(Deaf_other t (λx=>e x.symm) u hu).trans (H.hears g' a)
theorem PX.appMute {g:Nat} (H:PX Ac Still Mem Ai B h t) (hu:∀op∈u,op.g=g) (hn:∀op∈u,op.act.touch?=none) (hd:Mem g->Deaf (t++u) g=Deaf t g) (hl:∀op∈u,op.act.low B):PX Ac Still Mem Ai B h (t++u):=by
 refine⟨λsaid=>noRace_appendMute (H.clean said) hn,λi a e m=>?_,λi a e n l k f=>?_,H.Og hu hd,seen_app H.seen hl⟩
 .obtain⟨x,j,b⟩:=touch_of e;obtain⟨_,c⟩|⟨_,d⟩:=getElem?_append_cases j
  .exact H.old c b m
  .rw[hn x d]at b;cases b
 .obtain⟨x,j,b⟩:=touch_of e;obtain⟨_,c⟩|⟨_,d⟩:=getElem?_append_cases j
  .exact(H.wrote i a (by rw[touchAt_of c];exact b) n l k f).app u
  .rw[hn x d]at b;cases b
theorem PX.appRead {g:Nat} (hSS:∀l,Still l->¬Ac l) (H:PX Ac Still Mem Ai B h t) (hg:Mem g) (hL:Ai g) (hu:∀op∈u,op.g=g) (hr:∀op∈u,∀b,op.act.touch?=some b->b.write=false/\Still b.loc) (hd:Deaf (t++u) g=Deaf t g)
  (hl:∀op∈u,op.act.low B):PX Ac Still Mem Ai B h (t++u):=by
 refine⟨λsaid=>noRace_append (H.clean said) hu λi a e op q b v n=>?_,λi a e w=>?_,λi a e p s r o=>?_,H.Og hu (λ_=>hd),seen_app H.seen hl⟩
 .obtain⟨m,f⟩:=hr op q b v;obtain x|x:=n.2.2.1
  .exact H.wrote i a e x ⟨n.1 ▸ f,hSS _ (n.1 ▸ f)⟩ g hg
  .rw[m]at x;cases x
 .obtain⟨x,j,c⟩:=touch_of e;obtain⟨_,k⟩|⟨_,d⟩:=getElem?_append_cases j
  .exact H.old k c w
  .exact .inr (.inl ⟨.inl (hr x d a c).1,(hr x d a c).2,g,by rw[g?_of j,hu x d],hL⟩)
 .obtain⟨x,j,c⟩:=touch_of e;obtain⟨_,k⟩|⟨_,d⟩:=getElem?_append_cases j
  .exact(H.wrote i a (by rw[touchAt_of k];exact c) p s r o).app u
  .rw[(hr x d a c).1]at p;cases p
theorem PX.appH (H:PX Ac Still Mem Ai B h t) (hu:∀op∈u,op.g=h) (hs:∀op∈u,∀b,op.act.touch?=some b->(Still b.loc->b.write=false/\¬Ac b.loc)/\(Ac b.loc->b.kind≠.plain)) (hd:Mem h->Deaf (t++u) h=Deaf t h) (hl:∀op∈u,op.act.low B):
  PX Ac Still Mem Ai B h (t++u):=by
 refine⟨λsaid=>noRace_append (H.clean said) hu λi a j op s b v f=>?_,λi a j z=>?_,λi a j d e g w=>?_,H.Og hu hd,seen_app H.seen hl⟩
 .obtain y|⟨d,e,_⟩|⟨e,⟨o,_⟩,_⟩:=H.known i a j f.2.1
  .exact y
  .obtain⟨p,q⟩:=(hs op s b v).1 (f.1 ▸ e);have d:=d.resolve_right (λh=>q (f.1 ▸ h));obtain x|x:=f.2.2.1
   .rw[d]at x;cases x
   .rw[p]at x;cases x
  .have r:=(hs op s b v).2 (f.1 ▸ e);obtain⟨_,_,_,c⟩:=f;rw[o]at c;obtain x|x|⟨_,x,_⟩:=c
   .cases x
   .exact absurd x r
   .cases x
 .obtain⟨x,l,k⟩:=touch_of j;obtain⟨_,m⟩|⟨_,n⟩:=getElem?_append_cases l
  .exact H.old m k z
  .have:=knows_own l;rw[hu x n]at this;exact .inl this
 .obtain⟨x,l,k⟩:=touch_of j;obtain⟨_,m⟩|⟨_,n⟩:=getElem?_append_cases l
  .exact(H.wrote i a (by rw[touchAt_of m];exact k) d e g w).app u
  .rw[((hs x n a k).1 e.1).1]at d;cases d
theorem PX.al6 {W:Loc->Prop} {g:Nat} (H:PX Ac Still Mem Ai B h t) (hW:∀l,W l->Ac l/\¬Still l) (hpl:∀i a,touchAt t i=some a->W a.loc->a.kind=.plain->Knows t g i) (hg:¬Mem g) (hu:∀op∈u,op.g=g)
  (hs:∀op∈u,∀b,op.act.touch?=some b->W b.loc/\b.kind=.atomic) (hd:∀k,k<u.size->(t++u).deaf g (t.size+k)≠0) (hl:∀op∈u,op.act.low B):PX Ac Still Mem Ai B h (t++u):=by
 refine⟨λsaid=>noRace_append (H.clean said) hu λi a f op v b A C=>?_,λi a f E=>?_,λi a f F s r d=>?_,H.Og hu (λx=>(hg x).elim),seen_app H.seen hl⟩
 .obtain⟨p,q⟩:=hs op v b A;obtain⟨n,_,_,c⟩:=C;rw[q]at c;obtain x|x|⟨_,_,x⟩:=c
  .exact hpl i a f (n ▸ p) x
  .cases x
  .cases x
 .obtain⟨x,j,e⟩:=touch_of f;obtain⟨_,o⟩|⟨D,m⟩:=getElem?_append_cases j
  .exact H.old o e E
  .obtain⟨n,z⟩:=hs x m a e;refine .inr (.inr ⟨(hW _ n).1,⟨z,(hW _ n).2⟩,?_⟩);rintro⟨r,d,y⟩;have w:=lt_size_of_getElem? j;rw[Array.size_append]at w;rw[g?_of j,hu x m]at d;obtain rfl:=x_ d;have:=hd (i-t.size) (by omega);rw[show t.size+(i-t.size)=i from by omega]at this;exact this y
 .obtain⟨x,j,e⟩:=touch_of f;obtain⟨_,o⟩|⟨_,m⟩:=getElem?_append_cases j
  .exact(H.wrote i a (by rw[touchAt_of o];exact e) F s r d).app u
  .exact((hW _ (hs x m a e).1).2 s.1).elim
theorem PX.give {j:Nat} (H:PX Ac Still Mem Ai B h t) (hh:Mem h) (hj:Mem j) (fh:h_) (ph:String) (fj:h_) (pj:String) {c:Nat} (k cap:Nat) (hc:c<B):
  PX Ac Still Mem (λg=>Ai g/\g≠j) B j (t++met h j fh ph fj pj c k cap):=by
 have u:=met_mute h j fh ph fj pj c k cap;have y:=met_quiet h j fh ph fj pj c k cap;have o:(t++met h j fh ph fj pj c k cap)[t.size]?=some { g:=h,fn:=fh,pos:=ph,act:=.send c k }:=by simp[met]
 have e3:(t++met h j fh ph fj pj c k cap)[t.size+3]?=some { g:=j,fn:=fj,pos:=pj,act:=.recvDone c k }:=by simp[met]
 have f:HappensBefore (t++met h j fh ph fj pj c k cap) t.size (t.size+3):=
  Relation.TransGen.single (.inr ⟨.handOver (act?_of o) (act?_of e3),⟨h,g?_of o,by rw[deaf_old (w_ _)];exact H.hears h hh⟩,⟨j,g?_of e3,by rw[deaf_quiet (y j) 3 (by simp[met])];exact H.hears j hj⟩⟩);refine⟨λsaid=>noRace_appendMute (H.clean said) u,λi a s D=>?_,λi a s E z g d=>?_,λg d=>(Deaf_quiet (y g)).trans (H.hears g d),seen_app H.seen λop v=>?_⟩
 .obtain⟨x,m,b⟩:=touch_of s;obtain⟨w,l⟩|⟨_,n⟩:=getElem?_append_cases m
  .obtain A|⟨p,q,g,d,C⟩|⟨p,q,r⟩:=H.known i a (by rw[touchAt_of l];exact b) D
   .exact .inl ⟨t.size+3,_,e3,rfl,.inr ((A.hb_new (w_ _) o rfl).trans f)⟩
   .by_cases e:g=j
    .subst e;have:=knows_own m;rw[show x.g=g from by have:=g?_of l;rw[d]at this;exact(x_ this).symm]at this;exact .inl this
    .exact .inr (.inl ⟨p,q,g,by rw[g?_old w];exact d,C,e⟩)
   .exact .inr (.inr ⟨p,q,by rw[heard_old w];exact r⟩)
  .rw[u x n]at b;cases b
 .obtain⟨x,m,b⟩:=touch_of s;obtain⟨_,l⟩|⟨_,n⟩:=getElem?_append_cases m
  .exact(H.wrote i a (by rw[touchAt_of l];exact b) E z g d).app _
  .rw[u x n]at b;cases b
 .simp only[met,List.mem_toArray,r_,List.not_mem_nil,or_false]at v;obtain rfl|rfl|rfl|rfl:=v<;>exact hc
theorem PX.born {c:Nat} (H:PX Ac Still Mem Ai B h t) (hh:Mem h) (hc0:Deaf t c=0) (fh:h_) (ph:String) (fc:h_):
  PX Ac Still (λg=>Mem g\/g=c) Ai B c (t++#[{ g:=h,fn:=fh,pos:=ph,act:=.go c },{ g:=c,fn:=fc,pos:=ph,act:=.start }]):=by
 generalize m:(#[{ g:=h,fn:=fh,pos:=ph,act:=.go c },{ g:=c,fn:=fc,pos:=ph,act:=.start }]:Trace)=u;have w:∀op∈u,op.act.touch?=none:=by
  intro op b;subst m
  simp only[List.mem_toArray,r_,List.not_mem_nil,or_false]at b
  obtain rfl|rfl:=b<;>rfl
 have A:∀g,∀op∈u,∀d,deafStep g d op=d:=by
  intro g op b d;subst m
  simp only[List.mem_toArray,r_,List.not_mem_nil,or_false]at b
  obtain rfl|rfl:=b<;>rfl
 have n:(t++u)[t.size]?=some { g:=h,fn:=fh,pos:=ph,act:=.go c }:=by subst m;simp
 have e1:(t++u)[t.size+1]?=some { g:=c,fn:=fc,pos:=ph,act:=.start }:=by subst m;simp
 have f:HappensBefore (t++u) t.size (t.size+1):=
  Relation.TransGen.single (.inr ⟨.spawn (act?_of n) (act?_of e1) (g?_of e1),⟨h,g?_of n,by rw[deaf_old (w_ _)];exact H.hears h hh⟩,⟨c,g?_of e1,by rw[deaf_quiet (A c) 1 (by subst m;simp)];exact hc0⟩⟩);refine⟨λsaid=>noRace_appendMute (H.clean said) w,λi a v F=>?_,λi a v G C g l=>?_,λg l=>(Deaf_quiet (A g)).trans (l.elim (H.hears g) λe=>e ▸ hc0),seen_app H.seen λop b=>?_⟩
 .obtain⟨x,y,k⟩:=touch_of v;obtain⟨z,o⟩|⟨_,s⟩:=getElem?_append_cases y
  .obtain D|⟨p,q,g,l,E⟩|⟨p,q,r⟩:=H.known i a (by rw[touchAt_of o];exact k) F
   .exact .inl ⟨t.size+1,_,e1,rfl,.inr ((D.hb_new (w_ _) n rfl).trans f)⟩
   .exact .inr (.inl ⟨p,q,g,by rw[g?_old z];exact l,E⟩)
   .exact .inr (.inr ⟨p,q,by rw[heard_old z];exact r⟩)
  .rw[w x s]at k;cases k
 .obtain⟨x,y,k⟩:=touch_of v;obtain⟨_,o⟩|⟨_,s⟩:=getElem?_append_cases y
  .have j:=H.wrote i a (by rw[touchAt_of o];exact k) G C;obtain l|rfl:=l
   .exact(j g l).app u
   .exact⟨t.size+1,_,e1,rfl,.inr (((j h hh).hb_new (w_ _) n rfl).trans f)⟩
  .rw[w x s]at k;cases k
 .subst m;simp only[List.mem_toArray,r_,List.not_mem_nil,or_false]at b;obtain rfl|rfl:=b<;>trivial
theorem PX.acquire {c m:Nat} {a:f_} {op:MemOp} (H:PX Ac Still Mem Ai B h t) (hh:Deaf t h=0) (hm:t[m]?=some op) (hg:op.g=c) (hact:op.act=.mark (.releaseMerge a)) (hd:t.deaf c m=0)
  (NG:∀i b,touchAt t i=some b->t.g? i=some c->(b.write=false\/Ac b.loc)->Still b.loc->Ai c->i<m\/(Ac b.loc/\(b.kind=.atomic/\¬Still b.loc)/\¬t.heard i)) (hno:∀k,m<k->t.act? k≠some (.mark (.release a)))
  (fn:h_) (pos:String) (ha:a.block<B):PX Ac Still Mem (λg=>Ai g/\g≠c) B h (t++#[{ g:=h,fn:=fn,pos:=pos,act:=.mark (.acquire a) }]):=by
 generalize w:(#[{ g:=h,fn:=fn,pos:=pos,act:=.mark (.acquire a) }]:Trace)=u;have F:∀op∈u,op.act.touch?=none:=by
  intro op f;subst w
  simp only[List.mem_toArray,r_,List.not_mem_nil,or_false]at f
  subst f;rfl
 have N:∀g,∀op∈u,∀d,deafStep g d op=d:=by
  intro g op f d;subst w
  simp only[List.mem_toArray,r_,List.not_mem_nil,or_false]at f
  subst f;rfl
 have y:=lt_size_of_getElem? hm;have A:(t++u)[t.size]?=some { g:=h,fn:=fn,pos:=pos,act:=.mark (.acquire a) }:=by subst w;simp
 have C:(t++u)[m]?=some op:=by rw[getElem?_append_old y];exact hm
 have o:HappensBefore (t++u) m t.size:=by
  refine Relation.TransGen.single (.inr ⟨.marked (a:=a) y (.inr (by rw[act?_of C,hact])) (act?_of A) (λk J K=>?_),⟨c,by rw[g?_of C,hg],by rw[deaf_old (Nat.le_of_lt y)];exact hd⟩,⟨h,g?_of A,by rw[deaf_old (w_ _)];exact hh⟩⟩)
  rw[act?_old K];exact hno k J
 refine⟨λsaid=>noRace_appendMute (H.clean said) F,λi b D s=>?_,λi b D O L g hg=>?_,λg hg=>(Deaf_quiet (N g)).trans (H.hears g hg),seen_app H.seen λop f=>?_⟩
 .obtain⟨x,G,j⟩:=touch_of D;obtain⟨v,n⟩|⟨_,z⟩:=getElem?_append_cases G
  .obtain M|⟨p,q,g,l,I⟩|⟨p,q,r⟩:=H.known i b (by rw[touchAt_of n];exact j) s
   .exact .inl (M.app u)
   .by_cases e:g=c
    .subst e;obtain E|⟨p,q,r⟩:=NG i b (by rw[touchAt_of n];exact j) l p q I
     .refine .inl ⟨t.size,_,A,rfl,.inr ((hb_po E (by rw[getElem?_append_old v];exact n) C ?_).trans o)⟩;have:=g?_of n;rw[l]at this;rw[hg];exact(x_ this).symm
     .exact .inr (.inr ⟨p,q,by rw[heard_old v];exact r⟩)
    .exact .inr (.inl ⟨p,q,g,by rw[g?_old v];exact l,I,e⟩)
   .exact .inr (.inr ⟨p,q,by rw[heard_old v];exact r⟩)
  .rw[F x z]at j;cases j
 .obtain⟨x,G,j⟩:=touch_of D;obtain⟨_,n⟩|⟨_,z⟩:=getElem?_append_cases G
  .exact(H.wrote i b (by rw[touchAt_of n];exact j) O L g hg).app u
  .rw[F x z]at j;cases j
 .subst w;simp only[List.mem_toArray,r_,List.not_mem_nil,or_false]at f;subst f;exact ha
theorem PX.ofPast (H:Past Ac B t) (hS:∀l,Still l->l.isMemory=true) (hSS:∀l,Still l->¬Ac l):PX Ac Still (λg=>g=0) (λ_=>False) B 0 t:=by
 refine⟨H.clean,λi a b n=>?_,λi a b _ c _ d=>d ▸ (H.known i a b (hS _ c.1)).elim id (λx=>(hSS _ c.1 x.1).elim),λ_ d=>d ▸ H.hears,H.seen⟩;obtain r|⟨k,o⟩:=H.known i a b n
 .exact .inl r
 .by_cases m:t.heard i
  .obtain⟨op,f,s⟩:=touch_of b;by_cases h:op.g=0
   .have:=knows_own f;rw[h]at this;exact .inl this
   .obtain⟨j,q,p⟩:=H.over i op.g (g?_of f) h ⟨a,b,n,.inr m⟩;obtain⟨z,u,e⟩:=Option.map_eq_some_iff.1 (show(t[j]?).map (·.g)=some 0 from q);exact .inl ⟨j,z,u,e,.inr p⟩
  .exact .inr (.inr ⟨k,⟨o,λc=>hSS _ c k⟩,m⟩)
theorem PX.toPast {Ob:Loc->Prop} (H:PX Ac Still Mem Ai B 0 t) (h0:Deaf t 0=0) (hL:∀g,¬Ai g) (hS:∀l,Ac l->¬Still l->Ob l):Past Ob B t:=by
 have k:∀i a,touchAt t i=some a->a.loc.isMemory=true->Knows t 0 i\/(Ob a.loc/\a.kind=.atomic/\¬t.heard i):=λi a f c=>
  (H.known i a f c).imp id λx=>x.elim (λ⟨_,_,g,_,r⟩=>(hL g r).elim) λ⟨p,d,e⟩=>⟨hS _ p d.2,d.1,e⟩
 refine⟨H.clean,λi a f c=>(k i a f c).imp id λx=>⟨x.1,x.2.1⟩,λi g j o ⟨x,s,c,b⟩=>?_,h0,H.seen⟩;obtain⟨q,z,m,n,h⟩|⟨_,d,e⟩:=k i x s c
 .obtain rfl|h:=h
  .rw[g?_of m,n]at j;exact absurd (x_ j).symm o
  .exact⟨q,by rw[g?_of m,n],h⟩
 .obtain b|b:=b
  .exact(b d).elim
  .exact(e b).elim
theorem PX.ϟ (H:PX Ac Still Mem Ai B h t) (hn:∀op∈u,op.act.touch?=none) (hd:∀g,Deaf (t++u) g=Deaf t g) (hl:∀op∈u,op.act.low B):PX Ac Still Mem Ai B h (t++u):=by
 refine⟨λsaid=>noRace_appendMute (H.clean said) hn,λi a e n=>?_,λi a e o l k f=>?_,λg m=>(hd g).trans (H.hears g m),seen_app H.seen hl⟩
 .obtain⟨x,j,b⟩:=touch_of e;obtain⟨_,c⟩|⟨_,d⟩:=getElem?_append_cases j
  .exact H.old c b n
  .rw[hn x d]at b;cases b
 .obtain⟨x,j,b⟩:=touch_of e;obtain⟨_,c⟩|⟨_,d⟩:=getElem?_append_cases j
  .exact(H.wrote i a (by rw[touchAt_of c];exact b) o l k f).app u
  .rw[hn x d]at b;cases b
theorem PX.ZL {j:Nat} (H:PX Ac Still Mem Ai B h t) (fh:h_) (ph:String) (fj:h_) (pj:String) {c:Nat} (k cap:Nat) (hc:c<B):PX Ac Still Mem Ai B h (t++met h j fh ph fj pj c k cap):=
 H.ϟ (met_mute h j fh ph fj pj c k cap) (λg=>Deaf_quiet (met_quiet h j fh ph fj pj c k cap g)) λop a=>by
  simp only[met,List.mem_toArray,r_,List.not_mem_nil,or_false]at a
  obtain rfl|rfl|rfl|rfl:=a<;>exact hc
def KnL (Ac Still:Loc->Prop) (g:Nat) (t:Trace):Prop:=∀i a,touchAt t i=some a->Still a.loc->Ac a.loc->Knows t g i
theorem KnL.app {g:Nat} (H:KnL Ac Still g t) (hu:∀op∈u,∀b,op.act.touch?=some b->Still b.loc->Ac b.loc->op.g=g):KnL Ac Still g (t++u):=by
 intro i a k e c;obtain⟨x,f,d⟩:=touch_of k;obtain⟨_,h⟩|⟨_,j⟩:=getElem?_append_cases f
 .exact(H i a (by rw[touchAt_of h];exact d) e c).app u
 .have:=knows_own f;rw[hu x j a d e c]at this;exact this
theorem PX.al5 {g:Nat} (H:PX Ac Still Mem Ai B h t) (hM:¬Mem g) (hL:Ai g) (hk:KnL Ac Still g t) (hu:∀op∈u,op.g=g) (hs:∀op∈u,∀b,op.act.touch?=some b->Still b.loc/\Ac b.loc) (hl:∀op∈u,op.act.low B):PX Ac Still Mem Ai B h (t++u):=by
 refine⟨λsaid=>noRace_append (H.clean said) hu λi a e op n b r m=>?_,λi a e s=>?_,λi a e v l o k=>?_,H.Og hu (λx=>(hM x).elim),seen_app H.seen hl⟩
 .obtain⟨p,q⟩:=hs op n b r;exact hk i a e (m.1 ▸ p) (m.1 ▸ q)
 .obtain⟨x,f,c⟩:=touch_of e;obtain⟨_,j⟩|⟨_,d⟩:=getElem?_append_cases f
  .exact H.old j c s
  .exact .inr (.inl ⟨.inr (hs x d a c).2,(hs x d a c).1,g,by rw[g?_of f,hu x d],hL⟩)
 .obtain⟨x,f,c⟩:=touch_of e;obtain⟨_,j⟩|⟨_,d⟩:=getElem?_append_cases f
  .exact(H.wrote i a (by rw[touchAt_of j];exact c) v l o k).app u
  .exact(l.2 (hs x d a c).2).elim
theorem PX.br6 {Lt:Loc->Prop} (H:PX Ac Still Mem Ai B h t) (h1:∀l,Lt l->¬Ac l):PX (λl=>Ac l\/Lt l) (λl=>Still l\/Lt l) Mem Ai B h t:=by
 refine⟨H.clean,λi a b e=>?_,λi a b f c=>H.wrote i a b f ⟨c.1.resolve_right λh=>c.2 (.inr h),λh=>c.2 (.inl h)⟩,H.hears,H.seen⟩;obtain d|⟨x,y,z⟩|⟨x,⟨y,z⟩,k⟩:=H.known i a b e
 .exact .inl d
 .exact .inr (.inl ⟨x.imp id .inl,.inl y,z⟩)
 .exact .inr (.inr ⟨.inl x,⟨y,λh=>h.elim z λh=>h1 _ h x⟩,k⟩)
theorem PX.knL {Lt:Loc->Prop} (H:PX Ac Still Mem Ai B h t) (hm:∀l,Lt l->l.isMemory=true) (h1:∀l,Lt l->¬Ac l) (h2:∀l,Lt l->¬Still l) (h3:∀l,Still l->¬Ac l):KnL (λl=>Ac l\/Lt l) (λl=>Still l\/Lt l) h t:=by
 intro i a e b d;have c:Lt a.loc:=by
  obtain b|b:=b
  .exact d.resolve_left (h3 _ b)
  .exact b
 obtain f|⟨_,y,_⟩|⟨x,_⟩:=H.known i a e (hm _ c)
 .exact f
 .exact(h2 _ c y).elim
 .exact(h1 _ c x).elim
end
section
variable {P:l_} {α β:Type} {r:Nat} {K:α->Prop}
theorem Iz {s:String}:ED P r (stuck s:Sem α):=λw c a d b _ _ h=>by simp[stuck]at h
theorem Di {u:Unsupported}:ED P r (unsupported u:Sem α):=λw c a d b _ _ h=>by simp[unsupported]at h
theorem OM {f:d_ (j_×Nat)->Sem α} (h:ED P r (f none)):ED P r (shape r>>= f):=λw c a i b k g j=>by
 have d:(f (w.shape? r)).runT P w c=(.ok a i,b):=j;have e:w.shape? r=none:=by unfold World.shape?;rw[g];rfl
 rw[e]at d;exact h w c a i b k g d
theorem J3 {f:Obj->Sem α} (h:ED P r (f Dw)):ED P r (getObj r>>= f):=λw d a c b j e i=>by
 have g:(f Dw).runT P w (d.push ⟨.obj r,false,Dw.isChan⟩)=(.ok a c,b):=by
  have:(Sem.getObj r f).runT P w d=(.ok a c,b):=i
  simp only[Sem.runT,e]at this
  exact this
 exact h w _ a c b j e g
theorem iK {q:Nat} {f:d_ (j_×Nat)->Sem α} (h:∀s,ED P r (f s)):ED P r (shape q>>= f):=λw c a i b g d e=>h _ w c a i b g d e
theorem aF {q:Nat} {f:Obj->Sem α} (h:∀o,ED P r (f o)):ED P r (getObj q>>= f):=λw d a c b i e g=>by
 have:(Sem.getObj q f).runT P w d=(.ok a c,b):=g;simp only[Sem.runT]at this;split at this
 .simp at this
 .exact h _ w _ a c b i e this
 .simp at this
theorem YU {e:Sem β} {f:β->Sem α} (h:ED P r e):ED P r (e>>= f):=h.bind
theorem Wy {c:Prop} [Decidable c] {x y:Sem α} (h1:c->ED P r x) (h2:¬c->ED P r y):ED P r (if c then x else y):=by
 split
 .exact h1 ‹_›
 .exact h2 ‹_›
theorem DD {e:Sem α} (h:e.Ap P λ_=>False):ED P r e:=λw g a i f d _ b=>by
 obtain⟨_,_,c,_⟩:=Sz (Od:=LU) (Z:=λ_=>False) (w:=w) h (@Twin.mk LU _ _ _ rfl (λ_ _ _=>rfl) (λ_ h=>h.elim) d rfl rfl (λ_ h=>False.elim h) (λ_ h=>False.elim h) (λ_ h=>False.elim h)) (λ_ h=>h.elim) b (λ_ _ _=>rfl);exact c
theorem EG {u:Unsupported} (h:∀g,u≠.initOrder g):(unsupported u:Sem α).Ap P K:=by
 cases u<;>first|rfl|exact(h _ rfl).elim
theorem iJ {f:d_ (f_×j_)->Sem α} (h:ED P r (f (some (⟨0,0,some 0⟩,0)))):ED P r (viewAt r>>= f):=
 OM (f:=λs=>(if s.isSome then pure none else getObj r>>= λo=>match o with | .view a t=>pure (some (a,t))|_=>pure none)>>= f) (J3 (f:=λo=>(match o with | .view a t=>pure (some (a,t))|_=>pure none)>>= f) h)
theorem ϭ {f:d_ (f_×Bool)->Sem α} (h:ED P r (f none)):ED P r (numberAt r>>= f):=
 OM (f:=λs=>(if s.isSome then pure none else getObj r>>= λo=>match o with | .number a l=>pure (some (a,l))|_=>pure none)>>= f) (J3 (f:=λo=>(match o with | .number a l=>pure (some (a,l))|_=>pure none)>>= f) h)
theorem UX {f:d_ (f_×j_)->Sem α} (h:∀x,(f x).Ap P K) (hd:ED P r (f (some (⟨0,0,some 0⟩,0)))):(viewAt r>>= f).Ap P K:=by
 refine⟨λs=>?_,?_⟩
 .cases s with
  |some x=>exact h none
  |none=>exact⟨λo _=>by cases o<;>exact h _,hd⟩
 .exact J3 (f:=λo=>(match o with | .view a t=>pure (some (a,t))|_=>pure none)>>= f) hd
theorem XX {f:d_ (f_×Bool)->Sem α} (h:∀x,(f x).Ap P K) (hd:ED P r (f none)):(numberAt r>>= f).Ap P K:=by
 refine⟨λs=>?_,?_⟩
 .cases s with
  |some x=>exact h none
  |none=>exact⟨λo _=>by cases o<;>exact h _,hd⟩
 .exact J3 (f:=λo=>(match o with | .number a l=>pure (some (a,l))|_=>pure none)>>= f) hd
end
section
variable {P:l_}
theorem Pg {op:BinOp} {k:FloatKind} {x y:Nat}:(Op.floatArith op k x y).Ap P λ_=>True:=by
 unfold Op.floatArith;have jp:∀r:d_ Nat,(match r with
   |some r=>pure (Value.float k r)
   |none=>do pure (Value.float k (<-choose (.nanBits k x y))):Sem n_).Ap P λ_=>True:=λr=>by
  cases r with
  |none=>exact Aa Fa λ_=>trivial
  |some _=>trivial
 cases op<;>first|exact jp _|exact Ag
theorem JH {op:BinOp} {k:FloatKind} {x y:Nat}:(Op.floatCmp op k x y).Ap P λ_=>True:=by
 unfold Op.floatCmp;cases op<;>first|trivial|rfl
theorem Gt {op:BinOp} {k:FloatKind} {x y:Nat}:(Op.Complex.arith op k x y).Ap P λ_=>True:=by
 unfold Op.Complex.arith;refine Aa Pg λv=>?_
 cases v<;>first|trivial|rfl
theorem PM {op:BinOp} {k:FloatKind} {x y:Nat}:(Op.Complex.cmp op k x y).Ap P λ_=>True:=Aa JH λ_=>Nv
theorem TI {s d:FloatKind} {b:Nat}:(Conv.floatToFloat s b d).Ap P λ_=>True:=by
 unfold Conv.floatToFloat
 repeat' first|exact trivial|exact rfl|refine Aa Fa λ_=>?_|refine Au (λ_=>?_) λ_=>?_|split
theorem II {s d:FloatKind} {x:Nat}:(Op.Complex.conv s x d).Ap P λ_=>True:=by
 unfold Op.Complex.conv;refine Au (λ_=>trivial) λ_=>Aa TI λv=>?_
 cases v<;>first|trivial|rfl
theorem Z5 {a b c d:Nat}:(Op.Complex.product a b c d).Ap P λ_=>True:=by
 unfold Op.Complex.product
 repeat' first|exact trivial|refine Aa Gt λ_=>?_
theorem Qg {s a b c d:Nat}:(Op.Complex.corrected s a b c d).Ap P λ_=>True:=by
 unfold Op.Complex.corrected
 repeat' first|exact trivial|refine Aa Gt λ_=>?_
theorem Qp {x y:Nat}:(Op.Complex.add x y).Ap P λ_=>True:=Gt
theorem YK {x y:Nat}:(Op.Complex.sub x y).Ap P λ_=>True:=Gt
theorem IJ {x y:Nat}:(Op.Complex.mul x y).Ap P λ_=>True:=Gt
theorem Lm {x y:Nat}:(Op.Complex.quo x y).Ap P λ_=>True:=Gt
theorem XW {a b c d:Nat}:(Op.Complex.quotient a b c d).Ap P λ_=>True:=by
 unfold Op.Complex.quotient;refine Aa PM λt=>?_
 extract_lets jp
 have g:∀x,(jp x).Ap P λ_=>True:=λ⟨e,f⟩=>by
  refine Aa PM λu=>Aa PM λh=>?_
  refine Au (λ_=>Ad trivial) λ_=>Au (λ_=>Aa IJ λ_=>Aa IJ λ_=>Ad trivial) λ_=>Au (λ_=>Qg) λ_=>Au (λ_=>Qg) λ_=>Ad trivial
 clear_value jp
 refine Au (λ_=>?_) λ_=>?_
 .exact Aa Lm λ_=>Aa IJ λ_=>Aa Qp λ_=>Aa IJ λ_=>Aa Qp λ_=>Aa Lm λ_=>Aa IJ λ_=>Aa YK λ_=>Aa Lm λ_=>Aa (Ad trivial) λ_=>g _
 .exact Aa Lm λ_=>Aa IJ λ_=>Aa Qp λ_=>Aa IJ λ_=>Aa Qp λ_=>Aa Lm λ_=>Aa IJ λ_=>Aa YK λ_=>Aa Lm λ_=>Aa (Ad trivial) λ_=>g _
theorem ML {op:BinOp} {k:FloatKind} {a b c d:Nat}:(Op.complexOp op k a b c d).Ap P λ_=>True:=by
 unfold Op.complexOp;cases op<;>first
  |exact rfl
  |exact Aa Gt λ_=>Aa Gt λ_=>trivial
  |exact Aa PM λ_=>Aa PM λ_=>trivial
  | (refine Aa II fun _=>Aa II fun _=>Aa II fun _=>Aa II fun _=>?_
     first
      |exact Aa Z5 λ_=>Aa II λ_=>Aa II λ_=>trivial
      |exact Aa XW λ_=>Aa II λ_=>Aa II λ_=>trivial)
theorem Ij {op:BinOp} {x y:ByteArray}:(Op.stringOp op x y).Ap P λ_=>True:=by
 unfold Op.stringOp;cases op<;>first|trivial|rfl|exact Au (λ_=>rfl) λ_=>trivial
theorem WM {op:BinOp} {k yk:IntKind} {x y:Int}:(Op.shift op k x yk y).Ap P λ_=>True:=by
 unfold Op.shift;refine Au (λ_=>AY) λ_=>?_
 cases op<;>first|trivial|rfl
theorem QT {op:BinOp} {k:IntKind} {x y:Int}:(Op.intArith op k x y).Ap P λ_=>True:=by
 unfold Op.intArith;cases op<;>first|trivial|rfl
theorem fV {op:BinOp} {k:IntKind} {x y:Int}:(Op.intDiv op k x y).Ap P λ_=>True:=by
 unfold Op.intDiv;refine Au (λ_=>AY) λ_=>?_
 cases op<;>first|trivial|rfl
theorem Tt {op:BinOp} {k:IntKind} {x y:Int}:(Op.intBits op k x y).Ap P λ_=>True:=by
 unfold Op.intBits;cases op<;>first|trivial|rfl
theorem P5 {op:BinOp} {x y:Int}:(Op.intCmp op x y).Ap P λ_=>True:=by
 unfold Op.intCmp;cases op<;>first|trivial|rfl
theorem lY {op:UnOp} {x:n_}:(Op.unary op x).Ap P λ_=>True:=by
 unfold Op.unary;split<;>first|exact QT|exact Tt|trivial|rfl
/-! ### pointers where numbers are asked for -/
theorem P7 {a:f_}:(byteOf a).Ap P λ_=>True:=by
 unfold byteOf;cases hs:a.spot with
 |some s=>trivial
 |none=>
  refine Aa (AX Dh) λp=>?_
  have b:(noView a).Ap P λ_=>True:=UX (r:=a.block) (λx=>by
   cases x with
   |none=>exact Ad trivial
   |some y=>exact rfl) Di
  refine Aa b λ_=>⟨λs=>?_,Iz⟩
  cases s with
  |none=>exact Ag
  |some x=>
   obtain⟨e,n⟩:=x
   refine Au (λ_=>Ad trivial) λ_=>?_
   split
   .exact Ad trivial
   .exact Ag
end
section
variable {P:l_} {α:Type} {r:Nat} {K:α->Prop}
theorem CW {n:f_} {f:f_×Bool->Sem α} (h:∀x,(f x).Ap P K) (hd:ED P n.block (f (n,false))):(behindNumber n>>= f).Ap P K:=by
 refine⟨λs=>?_,?_⟩
 .cases s with
  |some x=>exact h _
  |none=>exact⟨λo _=>by cases o<;>exact h _,hd⟩
 .exact J3 (f:=λo=>((match o with | .number a l=>pure (some (a,l))|_=>pure none)>>= λx=>pure (x.getD (n,false)))>>= f) hd
theorem G8 {n:f_} {f:f_×Bool->Sem α} (h:∀x,ED P r (f x)):ED P r (behindNumber n>>= f):=
 iK (f:=λs=>((if s.isSome then pure none else getObj n.block>>= λo=>match o with | .number a l=>pure (some (a,l))|_=>pure none)>>= λx=>pure (x.getD (n,false)))>>= f) λs=>by
  cases s with
  |some x=>exact h _
  |none=>exact aF (f:=λo=>((match o with | .number a l=>pure (some (a,l))|_=>pure none)>>= λx=>pure (x.getD (n,false)))>>= f) λo=>by cases o<;>exact h _
end
section
variable {P:l_}
theorem Qd (hG:P.globals.size=0) {a b:f_}:(Op.twoPlaces a b).Ap P λ_=>False:=by
 unfold Op.twoPlaces;refine DW Dh λp c=>?_
 subst c;have:(a.block !=b.block || decide (a.block≥p.globals.size))=true:=by simp[hG]
 rw[if_pos this];exact rfl
theorem OU (hG:P.globals.size=0) {k:IntKind} {a b:f_}:(Op.addrSub k a b).Ap P λ_=>False:=DW (Qd hG) λ_ h=>h.elim
theorem Dz (hG:P.globals.size=0) {op:BinOp} {a b:f_}:(Op.addrCmp op a b).Ap P λ_=>False:=DW (Qd hG) λ_ h=>h.elim
theorem OV {k:IntKind} {a:f_} {n:Int}:(Op.addrMod k a n).Ap P λ_=>True:=by
 refine⟨λs=>?_,Di⟩;cases s with
 |none=>exact rfl
 |some x=>
  obtain⟨e,m⟩:=x
  refine DW (e:=Sem.pure (some (e,m))) (K:=λx=>x=some (e,m)) rfl λx b=>?_
  subst b
  exact Aa (AX Ih) λi=>Au (λ_=>rfl) λ_=>Aa P7 λ_=>Ad trivial
theorem OY {k:IntKind} {a:f_} {n:Int}:ED P a.block (Op.addrMod k a n):=OM (f:=λ_=>_) Di
theorem Jf {t:j_} {x y:n_}:(Builtin.unsafeAdd_ #[] t #[x,y]).Ap P λ_=>True:=by
 unfold Builtin.unsafeAdd_;cases x with
 |pointer ptr=>
  refine Aa MH λn=>Au (λ_=>?_) λ_=>?_
  .cases ptr with
   |none=>exact rfl
   |some a=>
    refine UX (λx=>?_) Di
    cases x with
    |none=>exact Ad trivial
    |some y=>exact rfl
  .refine Au (λ_=>rfl) λ_=>?_
   cases ptr with
   |none=>exact rfl
   |some a=>
    refine⟨λs=>?_,Di⟩
    cases s with
    |none=>exact rfl
    |some x=>
     obtain⟨e,m⟩:=x
     refine DW (e:=Sem.pure (some (e,m))) (K:=λx=>x=some (e,m)) rfl λx b=>?_
     subst b
     refine Aa (AX Dh) λp=>?_
     split
     .exact Ad trivial
     .exact rfl
 |_=>exact rfl
theorem Qi {t:j_} {a:f_} {y:n_}:ED P a.block (Builtin.unsafeAdd_ #[] t #[.pointer (some a),y]):=by
 unfold Builtin.unsafeAdd_;cases y with
 |int k n=>
  refine Wy (λ_=>?_) λ_=>Wy (λ_=>Di) λ_=>?_
  .exact iJ Di
  .exact OM (f:=λ_=>_) Di
 |pointer a=>cases a<;>first|exact Iz|exact Di
 |_=>exact Iz
theorem Yb {a:f_} {l:Bool}:(asNumber a l).Ap P λ_=>True:=Aa (Nu rfl) λ_=>Ad trivial
theorem JA {t:j_} {x y:n_}:(movedNumber t x y).Ap P λ_=>True:=by
 unfold movedNumber;refine Aa (AX Aq) λd=>?_
 have key:∀(x:n_),(match x with
   |.pointer (some n)=>do
    let (a,lost)<-behindNumber n
    match<-Builtin.unsafeAdd_ #[] t #[.pointer (some a),y]with
    |.pointer (some b)=>asNumber b lost
    |v=>pure v
   |_=>Builtin.unsafeAdd_ #[] t #[x,y]:Sem n_).Ap P λ_=>True:=λx=>by
  split
  .refine CW (λz=>?_) (YU Qi);refine Aa Jf λv=>?_
   split
   .exact Yb
   .exact Ad trivial
  .exact Jf
 refine Au (λ_=>rfl) λ_=>key x
theorem TG {t:j_} {x y:n_}:(movedPointer t x y).Ap P λ_=>True:=by
 unfold movedPointer;split
 .refine XX (λz=>?_) (Wy (λh=>by cases h) λ_=>Qi);refine Au (λ_=>rfl) λ_=>Jf
 .exact Jf
theorem mJ (hG:P.globals.size=0) {op:BinOp} (h1:op≠.eql) (h2:op≠.neq) {t:j_} {x y:n_}:(binOp op t x y).Ap P λ_=>True:=by
 unfold binOp;split
 .exact WM
 .exact WM
 .refine Au (λ_=>rfl) λ_=>?_
  cases op<;>first|exact QT|exact fV|exact Tt|exact P5
 .refine Au (λ_=>rfl) λ_=>?_
  cases op<;>first|exact Pg|exact JH
 .exact Au (λ_=>rfl) λ_=>ML
 .exact Ij
 .exact(h1 rfl).elim
 .exact(h2 rfl).elim
 .exact Aa (AX Aq) λd=>Au (λ_=>TG) λ_=>JA
 .exact JA
 .exact JA
 .exact CW (λz=>CW (λz=>AX (OU hG)) (DD (OU hG))) (G8 λz=>DD (OU hG))
 .exact CW (λz=>CW (λz=>AX (Dz hG)) (DD (Dz hG))) (G8 λz=>DD (Dz hG))
 .exact CW (λz=>CW (λz=>AX (Dz hG)) (DD (Dz hG))) (G8 λz=>DD (Dz hG))
 .exact CW (λz=>CW (λz=>AX (Dz hG)) (DD (Dz hG))) (G8 λz=>DD (Dz hG))
 .exact CW (λz=>CW (λz=>AX (Dz hG)) (DD (Dz hG))) (G8 λz=>DD (Dz hG))
 .exact CW (λz=>OV) OY
 .exact CW (λz=>OV) OY
 .exact CW (λz=>OV) OY
 .exact rfl
 .exact rfl
 .exact rfl
end
section
variable {P:l_} {gs:Array m_} {w w₁:o_} {sl:d_ (W_)} {i j:Nat} {g g₂ gj:m_} {es:Array Event} {cases cj:Array CommCase} {shape shj:CommShape} {k kj c cap s r:Nat} {buf:X_} {tm:Bool} {v z zj:n_} {blocking:Bool}
theorem Xv (hi:gs[i]?=some g) (h:stepG P (i==0) g w=.comm g₂ cases blocking shape w₁ es) (hk:cases[k]?=some (scase c v z))
  (ho:∀(m:Nat) (c':CommCase),m≠k->cases[m]?=some c'->NoWays w₁ (gs.setIfInBounds i ph) c')
  (hc:w₁.heap[c]?=some (.chan cap buf false s r tm)) (hij:j≠i) (hj:gs[j]?=some (parked gj cj shj)) (hkj:cj[kj]?=some (rcase c zj)) (hp:partners (gs.setIfInBounds i ph) c false=[(j,kj)]):
  runT P (crowd gs w sl) i=(.next (crowd ((gs.setIfInBounds j (Conc.served gj (commResult cj shj kj v true))).setIfInBounds i (Conc.served g₂ (commResult cases shape k undef false))) (w₁.setChan c cap buf false (s+1) (r+1) tm) sl),
   MemOp.ofEvents i g.frame.fn g.frame.place es++#[{ g:=i,fn:=g₂.frame.fn,pos:=g₂.frame.place,act:=.send c s },{ g:=j,fn:=gj.frame.fn,pos:=gj.frame.place,act:=.recv c r cap },
    { g:=i,fn:=g₂.frame.fn,pos:=g₂.frame.place,act:=.sendDone c s },{ g:=j,fn:=gj.frame.fn,pos:=gj.frame.place,act:=.recvDone c r }]):=by
 have e:ways w₁ (gs.setIfInBounds i ph) (scase c v z)=[.partner j kj]:=by simp[ways,scase,hc,hp]
 have a:=stand_get (i:=i) hij hj;have b:=finishPartner_at P (gs.setIfInBounds i ph) a (cs:=cj) (sh:=shj) rfl kj v;have d:(gs.setIfInBounds i ph).getD j default=parked gj cj shj:=by rw[Array.getD_eq_getD_getElem?,a];rfl
 rw[runT_crowd_comm hi h];unfold communicate;simp only[ready_one hk (by rw[e];simp) ho,e];rw[if_neg]
 .simp[choose,Sem.run,Question.forced,bind,Sem.bind,pure,scase,crowd,hc,b,d,set_stand2,hkj,rcase,parked,World.setChan]
  rfl
 .rw[Bool.not_eq_true];exact any_ill (made_of_one hk (made_send v z hc) ho)
theorem Qh (hi:gs[i]?=some g) (h:stepG P (i==0) g w=.comm g₂ cases blocking shape w₁ es) (hk:cases[k]?=some (rcase c z))
  (ho:∀(m:Nat) (c':CommCase),m≠k->cases[m]?=some c'->NoWays w₁ (gs.setIfInBounds i ph) c')
  (hc:w₁.heap[c]?=some (.chan cap #[] false s r tm)) (hij:j≠i) (hj:gs[j]?=some (parked gj cj shj)) (hkj:cj[kj]?=some (scase c v zj)) (hp:partners (gs.setIfInBounds i ph) c true=[(j,kj)]):
  runT P (crowd gs w sl) i=(.next (crowd ((gs.setIfInBounds j (Conc.served gj (commResult cj shj kj undef false))).setIfInBounds i (Conc.served g₂ (commResult cases shape k v true))) (w₁.setChan c cap #[] false (s+1) (r+1) tm) sl),
   MemOp.ofEvents i g.frame.fn g.frame.place es++#[{ g:=j,fn:=gj.frame.fn,pos:=gj.frame.place,act:=.send c s },{ g:=i,fn:=g₂.frame.fn,pos:=g₂.frame.place,act:=.recv c r cap },
    { g:=j,fn:=gj.frame.fn,pos:=gj.frame.place,act:=.sendDone c s },{ g:=i,fn:=g₂.frame.fn,pos:=g₂.frame.place,act:=.recvDone c r }]):=by
 have f:ways w₁ (gs.setIfInBounds i ph) (rcase c z)=[.partner j kj]:=by simp[ways,rcase,hc,hp]
 have a:=stand_get (i:=i) hij hj;have b:=finishPartner_at P (gs.setIfInBounds i ph) a (cs:=cj) (sh:=shj) rfl kj undef;have d:(gs.setIfInBounds i ph).getD j default=parked gj cj shj:=by rw[Array.getD_eq_getD_getElem?,a];rfl
 have e:offeredValue (gs.setIfInBounds i ph) j kj=v:=by simp[offeredValue,a,parked,hkj,scase]
 rw[runT_crowd_comm hi h];unfold communicate;simp only[ready_one hk (by rw[f];simp) ho,f];rw[if_neg]
 .simp[choose,Sem.run,Question.forced,bind,Sem.bind,pure,rcase,crowd,hc,b,d,e,set_stand2,hkj,scase,parked,World.setChan]
  rfl
 .rw[Bool.not_eq_true];exact any_ill (made_of_one hk (made_recv z hc) ho)
end
end Go.Fxa
