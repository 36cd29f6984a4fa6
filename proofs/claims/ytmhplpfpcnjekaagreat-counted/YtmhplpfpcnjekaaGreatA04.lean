/- What is held of the trace whil -/
import Derived.Test.YtmhplpfpcnjekaaGreatA01
import Derived.Conc.TokenTrace
import Derived.Conc.Token
import Derived.Conc.CrowdSel
namespace Go.Fxa
open Go.Conc
structure PX (Ac Still:Loc->Prop) (Mem Ak:Nat->Prop) (B h:Nat) (t:Trace):Prop where
 clean:∀said,¬Race said t
 known:∀i a,touchAt t i=some a->a.loc.isMemory=true->Knows t h i\/((a.write=false\/Ac a.loc)/\Still a.loc/\∃g,t.g? i=some g/\Ak g)\/(Ac a.loc/\(a.kind=.atomic/\¬Still a.loc)/\¬t.heard i)
 wrote:∀i a,touchAt t i=some a->a.write=true->(Still a.loc/\¬Ac a.loc)->∀g,Mem g->Knows t g i
 hears:∀g,Mem g->Deaf t g=0
 seen:∀op∈t,op.act.low B
theorem heard_old {t u:Trace} {i:Nat} (h:i<t.size):(t++u).heard i ↔ t.heard i:=by
 unfold Trace.heard;rw[g?_old h];constructor
 .rintro⟨g,b,a⟩;exact⟨g,b,by rw[deaf_old (Nat.le_of_lt h)]at a;exact a⟩
 .rintro⟨g,b,a⟩;exact⟨g,b,by rw[deaf_old (Nat.le_of_lt h)];exact a⟩
section
variable {Ac Still:Loc->Prop} {Mem Ak:Nat->Prop} {B h:Nat} {t u:Trace}
theorem PX.mono {B':Nat} (H:PX Ac Still Mem Ak B h t) (hB:B<=B'):PX Ac Still Mem Ak B' h t:=⟨H.clean,H.known,H.wrote,H.hears,λop a=>MemAct.low_mono hB (H.seen op a)⟩
theorem PX.fewer {Ky:Nat->Prop} (H:PX Ac Still Mem Ak B h t) (hM:∀g,Ky g->Mem g):PX Ac Still Ky Ak B h t:=⟨H.clean,H.known,λi a d e c g b=>H.wrote i a d e c g (hM g b),λg b=>H.hears g (hM g b),H.seen⟩
theorem PX.loosen {Loose':Nat->Prop} (H:PX Ac Still Mem Ak B h t) (hL:∀g,Ak g->Loose' g):PX Ac Still Mem Loose' B h t:=
 ⟨H.clean,λi a b e=>(H.known i a b e).imp id (.imp (λ⟨x,y,g,c,d⟩=>⟨x,y,g,c,hL g d⟩) id),H.wrote,H.hears,H.seen⟩
theorem PX.old (H:PX Ac Still Mem Ak B h t) {i:Nat} {a:Touch} {x:MemOp} (Gw:t[i]?=some x) (EW:x.act.touch?=some a) (hm:a.loc.isMemory=true):
  Knows (t++u) h i\/((a.write=false\/Ac a.loc)/\Still a.loc/\∃g,(t++u).g? i=some g/\Ak g)\/(Ac a.loc/\(a.kind=.atomic/\¬Still a.loc)/\¬(t++u).heard i):=by
 have b:=lt_size_of_getElem? Gw;obtain d|⟨p,q,g,c,e⟩|⟨p,q,r⟩:=H.known i a (by rw[touchAt_of Gw];exact EW) hm
 .exact .inl (d.app u)
 .exact .inr (.inl ⟨p,q,g,by rw[g?_old b];exact c,e⟩)
 .exact .inr (.inr ⟨p,q,by rw[heard_old b];exact r⟩)
theorem PX.OE {g:Nat} (H:PX Ac Still Mem Ak B h t) (hu:∀op∈u,op.g=g) (hd:Mem g->Deaf (t++u) g=Deaf t g):∀g',Mem g'->Deaf (t++u) g'=0:=λg' a=>by
 by_cases e:g'=g
 .subst e;exact(hd a).trans (H.hears g' a)
 .exact(Deaf_other t (λx=>e x.symm) u hu).trans (H.hears g' a)
theorem PX.appMute {g:Nat} (H:PX Ac Still Mem Ak B h t) (hu:∀op∈u,op.g=g) (hn:∀op∈u,op.act.touch?=none) (hd:Mem g->Deaf (t++u) g=Deaf t g) (hl:∀op∈u,op.act.low B):PX Ac Still Mem Ak B h (t++u):=by
 refine⟨λsaid=>noRace_appendMute (H.clean said) hn,λi a e m=>?_,λi a e n l k f=>?_,H.OE hu hd,seen_app H.seen hl⟩
 .obtain⟨x,j,b⟩:=touch_of e;obtain⟨_,c⟩|⟨_,d⟩:=getElem?_append_cases j
  .exact H.old c b m
  .rw[hn x d]at b;cases b
 .obtain⟨x,j,b⟩:=touch_of e;obtain⟨_,c⟩|⟨_,d⟩:=getElem?_append_cases j
  .exact(H.wrote i a (by rw[touchAt_of c];exact b) n l k f).app u
  .rw[hn x d]at b;cases b
theorem PX.appRead {g:Nat} (hSS:∀l,Still l->¬Ac l) (H:PX Ac Still Mem Ak B h t) (hg:Mem g) (hL:Ak g) (hu:∀op∈u,op.g=g) (hr:∀op∈u,∀b,op.act.touch?=some b->b.write=false/\Still b.loc) (hd:Deaf (t++u) g=Deaf t g)
  (hl:∀op∈u,op.act.low B):PX Ac Still Mem Ak B h (t++u):=by
 refine⟨λsaid=>noRace_append (H.clean said) hu λi a e op q b v n=>?_,λi a e w=>?_,λi a e p s r o=>?_,H.OE hu (λ_=>hd),seen_app H.seen hl⟩
 .obtain⟨m,f⟩:=hr op q b v;obtain x|x:=n.2.2.1
  .exact H.wrote i a e x ⟨n.1 ▸ f,hSS _ (n.1 ▸ f)⟩ g hg
  .rw[m]at x;cases x
 .obtain⟨x,j,c⟩:=touch_of e;obtain⟨_,k⟩|⟨_,d⟩:=getElem?_append_cases j
  .exact H.old k c w
  .exact .inr (.inl ⟨.inl (hr x d a c).1,(hr x d a c).2,g,by rw[g?_of j,hu x d],hL⟩)
 .obtain⟨x,j,c⟩:=touch_of e;obtain⟨_,k⟩|⟨_,d⟩:=getElem?_append_cases j
  .exact(H.wrote i a (by rw[touchAt_of k];exact c) p s r o).app u
  .rw[(hr x d a c).1]at p;cases p
theorem PX.appH (H:PX Ac Still Mem Ak B h t) (hu:∀op∈u,op.g=h) (hs:∀op∈u,∀b,op.act.touch?=some b->(Still b.loc->b.write=false/\¬Ac b.loc)/\(Ac b.loc->b.kind≠.plain)) (hd:Mem h->Deaf (t++u) h=Deaf t h) (hl:∀op∈u,op.act.low B):
  PX Ac Still Mem Ak B h (t++u):=by
 refine⟨λsaid=>noRace_append (H.clean said) hu λi a j op s b v f=>?_,λi a j z=>?_,λi a j d e g w=>?_,H.OE hu hd,seen_app H.seen hl⟩
 .obtain y|⟨d,e,_⟩|⟨e,⟨o,_⟩,_⟩:=H.known i a j f.2.1
  .exact y
  .obtain⟨p,q⟩:=(hs op s b v).1 (f.1 ▸ e);have d:=d.resolve_right (λh=>q (f.1 ▸ h));obtain x|x:=f.2.2.1
   .rw[d]at x;cases x
   .rw[p]at x;cases x
  .have r:=(hs op s b v).2 (f.1 ▸ e);obtain⟨_,_,_,c⟩:=f;rw[o]at c;obtain x|x|⟨_,x,_⟩:=c
   .cases x
   .exact absurd x r
   .cases x
 .obtain⟨x,l,k⟩:=touch_of j;obtain⟨_,m⟩|⟨_,n⟩:=getElem?_append_cases l
  .exact H.old m k z
  .have:=knows_own l;rw[hu x n]at this;exact .inl this
 .obtain⟨x,l,k⟩:=touch_of j;obtain⟨_,m⟩|⟨_,n⟩:=getElem?_append_cases l
  .exact(H.wrote i a (by rw[touchAt_of m];exact k) d e g w).app u
  .rw[((hs x n a k).1 e.1).1]at d;cases d
theorem PX.am3 {W:Loc->Prop} {g:Nat} (H:PX Ac Still Mem Ak B h t) (hW:∀l,W l->Ac l/\¬Still l) (hpl:∀i a,touchAt t i=some a->W a.loc->a.kind=.plain->Knows t g i) (hg:¬Mem g) (hu:∀op∈u,op.g=g)
  (hs:∀op∈u,∀b,op.act.touch?=some b->W b.loc/\b.kind=.atomic) (hd:∀k,k<u.size->(t++u).deaf g (t.size+k)≠0) (hl:∀op∈u,op.act.low B):PX Ac Still Mem Ak B h (t++u):=by
 refine⟨λsaid=>noRace_append (H.clean said) hu λi a f op v b A C=>?_,λi a f E=>?_,λi a f F s r d=>?_,H.OE hu (λx=>(hg x).elim),seen_app H.seen hl⟩
 .obtain⟨p,q⟩:=hs op v b A;obtain⟨n,_,_,c⟩:=C;rw[q]at c;obtain x|x|⟨_,_,x⟩:=c
  .exact hpl i a f (n ▸ p) x
  .cases x
  .cases x
 .obtain⟨x,j,e⟩:=touch_of f;obtain⟨_,o⟩|⟨D,m⟩:=getElem?_append_cases j
  .exact H.old o e E
  .obtain⟨n,z⟩:=hs x m a e;refine .inr (.inr ⟨(hW _ n).1,⟨z,(hW _ n).2⟩,?_⟩);rintro⟨r,d,y⟩;have w:=lt_size_of_getElem? j;rw[Array.size_append]at w;rw[g?_of j,hu x m]at d;obtain rfl:=x_ d;have:=hd (i-t.size) (by omega);rw[show t.size+(i-t.size)=i from by omega]at this;exact this y
 .obtain⟨x,j,e⟩:=touch_of f;obtain⟨_,o⟩|⟨_,m⟩:=getElem?_append_cases j
  .exact(H.wrote i a (by rw[touchAt_of o];exact e) F s r d).app u
  .exact((hW _ (hs x m a e).1).2 s.1).elim
theorem PX.give {j:Nat} (H:PX Ac Still Mem Ak B h t) (hh:Mem h) (hj:Mem j) (fh:h_) (ph:String) (fj:h_) (pj:String) {c:Nat} (k cap:Nat) (hc:c<B):
  PX Ac Still Mem (λg=>Ak g/\g≠j) B j (t++met h j fh ph fj pj c k cap):=by
 have u:=met_mute h j fh ph fj pj c k cap;have y:=met_quiet h j fh ph fj pj c k cap;have o:(t++met h j fh ph fj pj c k cap)[t.size]?=some { g:=h,fn:=fh,pos:=ph,act:=.send c k }:=by simp[met]
 have e3:(t++met h j fh ph fj pj c k cap)[t.size+3]?=some { g:=j,fn:=fj,pos:=pj,act:=.recvDone c k }:=by simp[met]
 have f:HappensBefore (t++met h j fh ph fj pj c k cap) t.size (t.size+3):=
  Relation.TransGen.single (.inr ⟨.handOver (act?_of o) (act?_of e3),⟨h,g?_of o,by rw[deaf_old (w_ _)];exact H.hears h hh⟩,⟨j,g?_of e3,by rw[deaf_quiet (y j) 3 (by simp[met])];exact H.hears j hj⟩⟩);refine⟨λsaid=>noRace_appendMute (H.clean said) u,λi a s D=>?_,λi a s E z g d=>?_,λg d=>(Deaf_quiet (y g)).trans (H.hears g d),seen_app H.seen λop v=>?_⟩
 .obtain⟨x,m,b⟩:=touch_of s;obtain⟨w,l⟩|⟨_,n⟩:=getElem?_append_cases m
  .obtain A|⟨p,q,g,d,C⟩|⟨p,q,r⟩:=H.known i a (by rw[touchAt_of l];exact b) D
   .exact .inl ⟨t.size+3,_,e3,rfl,.inr ((A.hb_new (w_ _) o rfl).trans f)⟩
   .by_cases e:g=j
    .subst e;have:=knows_own m;rw[show x.g=g from by have:=g?_of l;rw[d]at this;exact(x_ this).symm]at this;exact .inl this
    .exact .inr (.inl ⟨p,q,g,by rw[g?_old w];exact d,C,e⟩)
   .exact .inr (.inr ⟨p,q,by rw[heard_old w];exact r⟩)
  .rw[u x n]at b;cases b
 .obtain⟨x,m,b⟩:=touch_of s;obtain⟨_,l⟩|⟨_,n⟩:=getElem?_append_cases m
  .exact(H.wrote i a (by rw[touchAt_of l];exact b) E z g d).app _
  .rw[u x n]at b;cases b
 .simp only[met,List.mem_toArray,r_,List.not_mem_nil,or_false]at v;obtain rfl|rfl|rfl|rfl:=v<;>exact hc
theorem PX.born {c:Nat} (H:PX Ac Still Mem Ak B h t) (hh:Mem h) (hc0:Deaf t c=0) (fh:h_) (ph:String) (fc:h_):
  PX Ac Still (λg=>Mem g\/g=c) Ak B c (t++#[{ g:=h,fn:=fh,pos:=ph,act:=.go c },{ g:=c,fn:=fc,pos:=ph,act:=.start }]):=by
 generalize m:(#[{ g:=h,fn:=fh,pos:=ph,act:=.go c },{ g:=c,fn:=fc,pos:=ph,act:=.start }]:Trace)=u;have w:∀op∈u,op.act.touch?=none:=by
  intro op b;subst m
  simp only[List.mem_toArray,r_,List.not_mem_nil,or_false]at b
  obtain rfl|rfl:=b<;>rfl
 have A:∀g,∀op∈u,∀d,deafStep g d op=d:=by
  intro g op b d;subst m
  simp only[List.mem_toArray,r_,List.not_mem_nil,or_false]at b
  obtain rfl|rfl:=b<;>rfl
 have n:(t++u)[t.size]?=some { g:=h,fn:=fh,pos:=ph,act:=.go c }:=by subst m;simp
 have e1:(t++u)[t.size+1]?=some { g:=c,fn:=fc,pos:=ph,act:=.start }:=by subst m;simp
 have f:HappensBefore (t++u) t.size (t.size+1):=
  Relation.TransGen.single (.inr ⟨.spawn (act?_of n) (act?_of e1) (g?_of e1),⟨h,g?_of n,by rw[deaf_old (w_ _)];exact H.hears h hh⟩,⟨c,g?_of e1,by rw[deaf_quiet (A c) 1 (by subst m;simp)];exact hc0⟩⟩);refine⟨λsaid=>noRace_appendMute (H.clean said) w,λi a v F=>?_,λi a v G C g l=>?_,λg l=>(Deaf_quiet (A g)).trans (l.elim (H.hears g) λe=>e ▸ hc0),seen_app H.seen λop b=>?_⟩
 .obtain⟨x,y,k⟩:=touch_of v;obtain⟨z,o⟩|⟨_,s⟩:=getElem?_append_cases y
  .obtain D|⟨p,q,g,l,E⟩|⟨p,q,r⟩:=H.known i a (by rw[touchAt_of o];exact k) F
   .exact .inl ⟨t.size+1,_,e1,rfl,.inr ((D.hb_new (w_ _) n rfl).trans f)⟩
   .exact .inr (.inl ⟨p,q,g,by rw[g?_old z];exact l,E⟩)
   .exact .inr (.inr ⟨p,q,by rw[heard_old z];exact r⟩)
  .rw[w x s]at k;cases k
 .obtain⟨x,y,k⟩:=touch_of v;obtain⟨_,o⟩|⟨_,s⟩:=getElem?_append_cases y
  .have j:=H.wrote i a (by rw[touchAt_of o];exact k) G C;obtain l|rfl:=l
   .exact(j g l).app u
   .exact⟨t.size+1,_,e1,rfl,.inr (((j h hh).hb_new (w_ _) n rfl).trans f)⟩
  .rw[w x s]at k;cases k
 .subst m;simp only[List.mem_toArray,r_,List.not_mem_nil,or_false]at b;obtain rfl|rfl:=b<;>trivial
theorem PX.acquire {c m:Nat} {a:f_} {op:MemOp} (H:PX Ac Still Mem Ak B h t) (hh:Deaf t h=0) (hm:t[m]?=some op) (hg:op.g=c) (hact:op.act=.mark (.releaseMerge a)) (hd:t.deaf c m=0)
  (Ob:∀i b,touchAt t i=some b->t.g? i=some c->(b.write=false\/Ac b.loc)->Still b.loc->Ak c->i<m\/(Ac b.loc/\(b.kind=.atomic/\¬Still b.loc)/\¬t.heard i)) (hno:∀k,m<k->t.act? k≠some (.mark (.release a)))
  (fn:h_) (pos:String) (ha:a.block<B):PX Ac Still Mem (λg=>Ak g/\g≠c) B h (t++#[{ g:=h,fn:=fn,pos:=pos,act:=.mark (.acquire a) }]):=by
 generalize w:(#[{ g:=h,fn:=fn,pos:=pos,act:=.mark (.acquire a) }]:Trace)=u;have F:∀op∈u,op.act.touch?=none:=by
  intro op f;subst w
  simp only[List.mem_toArray,r_,List.not_mem_nil,or_false]at f
  subst f;rfl
 have N:∀g,∀op∈u,∀d,deafStep g d op=d:=by
  intro g op f d;subst w
  simp only[List.mem_toArray,r_,List.not_mem_nil,or_false]at f
  subst f;rfl
 have y:=lt_size_of_getElem? hm;have A:(t++u)[t.size]?=some { g:=h,fn:=fn,pos:=pos,act:=.mark (.acquire a) }:=by subst w;simp
 have C:(t++u)[m]?=some op:=by rw[getElem?_append_old y];exact hm
 have o:HappensBefore (t++u) m t.size:=by
  refine Relation.TransGen.single (.inr ⟨.marked (a:=a) y (.inr (by rw[act?_of C,hact])) (act?_of A) (λk J K=>?_),⟨c,by rw[g?_of C,hg],by rw[deaf_old (Nat.le_of_lt y)];exact hd⟩,⟨h,g?_of A,by rw[deaf_old (w_ _)];exact hh⟩⟩)
  rw[act?_old K];exact hno k J
 refine⟨λsaid=>noRace_appendMute (H.clean said) F,λi b D s=>?_,λi b D O L g hg=>?_,λg hg=>(Deaf_quiet (N g)).trans (H.hears g hg),seen_app H.seen λop f=>?_⟩
 .obtain⟨x,G,j⟩:=touch_of D;obtain⟨v,n⟩|⟨_,z⟩:=getElem?_append_cases G
  .obtain M|⟨p,q,g,l,I⟩|⟨p,q,r⟩:=H.known i b (by rw[touchAt_of n];exact j) s
   .exact .inl (M.app u)
   .by_cases e:g=c
    .subst e;obtain E|⟨p,q,r⟩:=Ob i b (by rw[touchAt_of n];exact j) l p q I
     .refine .inl ⟨t.size,_,A,rfl,.inr ((hb_po E (by rw[getElem?_append_old v];exact n) C ?_).trans o)⟩;have:=g?_of n;rw[l]at this;rw[hg];exact(x_ this).symm
     .exact .inr (.inr ⟨p,q,by rw[heard_old v];exact r⟩)
    .exact .inr (.inl ⟨p,q,g,by rw[g?_old v];exact l,I,e⟩)
   .exact .inr (.inr ⟨p,q,by rw[heard_old v];exact r⟩)
  .rw[F x z]at j;cases j
 .obtain⟨x,G,j⟩:=touch_of D;obtain⟨_,n⟩|⟨_,z⟩:=getElem?_append_cases G
  .exact(H.wrote i b (by rw[touchAt_of n];exact j) O L g hg).app u
  .rw[F x z]at j;cases j
 .subst w;simp only[List.mem_toArray,r_,List.not_mem_nil,or_false]at f;subst f;exact ha
theorem PX.ofPast (H:Past Ac B t) (hS:∀l,Still l->l.isMemory=true) (hSS:∀l,Still l->¬Ac l):PX Ac Still (λg=>g=0) (λ_=>False) B 0 t:=by
 refine⟨H.clean,λi a b n=>?_,λi a b _ c _ d=>d ▸ (H.known i a b (hS _ c.1)).elim id (λx=>(hSS _ c.1 x.1).elim),λ_ d=>d ▸ H.hears,H.seen⟩;obtain r|⟨k,o⟩:=H.known i a b n
 .exact .inl r
 .by_cases m:t.heard i
  .obtain⟨op,f,s⟩:=touch_of b;by_cases h:op.g=0
   .have:=knows_own f;rw[h]at this;exact .inl this
   .obtain⟨j,q,p⟩:=H.over i op.g (g?_of f) h ⟨a,b,n,.inr m⟩;obtain⟨z,u,e⟩:=Option.map_eq_some_iff.1 (show(t[j]?).map (·.g)=some 0 from q);exact .inl ⟨j,z,u,e,.inr p⟩
  .exact .inr (.inr ⟨k,⟨o,λc=>hSS _ c k⟩,m⟩)
theorem PX.toPast {Ox:Loc->Prop} (H:PX Ac Still Mem Ak B 0 t) (h0:Deaf t 0=0) (hL:∀g,¬Ak g) (hS:∀l,Ac l->¬Still l->Ox l):Past Ox B t:=by
 have k:∀i a,touchAt t i=some a->a.loc.isMemory=true->Knows t 0 i\/(Ox a.loc/\a.kind=.atomic/\¬t.heard i):=λi a f c=>
  (H.known i a f c).imp id λx=>x.elim (λ⟨_,_,g,_,r⟩=>(hL g r).elim) λ⟨p,d,e⟩=>⟨hS _ p d.2,d.1,e⟩
 refine⟨H.clean,λi a f c=>(k i a f c).imp id λx=>⟨x.1,x.2.1⟩,λi g j o ⟨x,s,c,b⟩=>?_,h0,H.seen⟩;obtain⟨q,z,m,n,h⟩|⟨_,d,e⟩:=k i x s c
 .obtain rfl|h:=h
  .rw[g?_of m,n]at j;exact absurd (x_ j).symm o
  .exact⟨q,by rw[g?_of m,n],h⟩
 .obtain b|b:=b
  .exact(b d).elim
  .exact(e b).elim
theorem PX.ab8 (H:PX Ac Still Mem Ak B h t) (hn:∀op∈u,op.act.touch?=none) (hd:∀g,Deaf (t++u) g=Deaf t g) (hl:∀op∈u,op.act.low B):PX Ac Still Mem Ak B h (t++u):=by
 refine⟨λsaid=>noRace_appendMute (H.clean said) hn,λi a e n=>?_,λi a e o l k f=>?_,λg m=>(hd g).trans (H.hears g m),seen_app H.seen hl⟩
 .obtain⟨x,j,b⟩:=touch_of e;obtain⟨_,c⟩|⟨_,d⟩:=getElem?_append_cases j
  .exact H.old c b n
  .rw[hn x d]at b;cases b
 .obtain⟨x,j,b⟩:=touch_of e;obtain⟨_,c⟩|⟨_,d⟩:=getElem?_append_cases j
  .exact(H.wrote i a (by rw[touchAt_of c];exact b) o l k f).app u
  .rw[hn x d]at b;cases b
theorem PX.ai {j:Nat} (H:PX Ac Still Mem Ak B h t) (fh:h_) (ph:String) (fj:h_) (pj:String) {c:Nat} (k cap:Nat) (hc:c<B):PX Ac Still Mem Ak B h (t++met h j fh ph fj pj c k cap):=
 H.ab8 (met_mute h j fh ph fj pj c k cap) (λg=>Deaf_quiet (met_quiet h j fh ph fj pj c k cap g)) λop a=>by
  simp only[met,List.mem_toArray,r_,List.not_mem_nil,or_false]at a
  obtain rfl|rfl|rfl|rfl:=a<;>exact hc
def KnL (Ac Still:Loc->Prop) (g:Nat) (t:Trace):Prop:=∀i a,touchAt t i=some a->Still a.loc->Ac a.loc->Knows t g i
theorem KnL.app {g:Nat} (H:KnL Ac Still g t) (hu:∀op∈u,∀b,op.act.touch?=some b->Still b.loc->Ac b.loc->op.g=g):KnL Ac Still g (t++u):=by
 intro i a k e c;obtain⟨x,f,d⟩:=touch_of k;obtain⟨_,h⟩|⟨_,j⟩:=getElem?_append_cases f
 .exact(H i a (by rw[touchAt_of h];exact d) e c).app u
 .have:=knows_own f;rw[hu x j a d e c]at this;exact this
theorem PX.am2 {g:Nat} (H:PX Ac Still Mem Ak B h t) (hM:¬Mem g) (hL:Ak g) (hk:KnL Ac Still g t) (hu:∀op∈u,op.g=g) (hs:∀op∈u,∀b,op.act.touch?=some b->Still b.loc/\Ac b.loc) (hl:∀op∈u,op.act.low B):PX Ac Still Mem Ak B h (t++u):=by
 refine⟨λsaid=>noRace_append (H.clean said) hu λi a e op n b r m=>?_,λi a e s=>?_,λi a e v l o k=>?_,H.OE hu (λx=>(hM x).elim),seen_app H.seen hl⟩
 .obtain⟨p,q⟩:=hs op n b r;exact hk i a e (m.1 ▸ p) (m.1 ▸ q)
 .obtain⟨x,f,c⟩:=touch_of e;obtain⟨_,j⟩|⟨_,d⟩:=getElem?_append_cases f
  .exact H.old j c s
  .exact .inr (.inl ⟨.inr (hs x d a c).2,(hs x d a c).1,g,by rw[g?_of f,hu x d],hL⟩)
 .obtain⟨x,f,c⟩:=touch_of e;obtain⟨_,j⟩|⟨_,d⟩:=getElem?_append_cases f
  .exact(H.wrote i a (by rw[touchAt_of j];exact c) v l o k).app u
  .exact(l.2 (hs x d a c).2).elim
theorem PX.bs9 {Lt:Loc->Prop} (H:PX Ac Still Mem Ak B h t) (h1:∀l,Lt l->¬Ac l):PX (λl=>Ac l\/Lt l) (λl=>Still l\/Lt l) Mem Ak B h t:=by
 refine⟨H.clean,λi a b e=>?_,λi a b f c=>H.wrote i a b f ⟨c.1.resolve_right λh=>c.2 (.inr h),λh=>c.2 (.inl h)⟩,H.hears,H.seen⟩;obtain d|⟨x,y,z⟩|⟨x,⟨y,z⟩,k⟩:=H.known i a b e
 .exact .inl d
 .exact .inr (.inl ⟨x.imp id .inl,.inl y,z⟩)
 .exact .inr (.inr ⟨.inl x,⟨y,λh=>h.elim z λh=>h1 _ h x⟩,k⟩)
theorem PX.knL {Lt:Loc->Prop} (H:PX Ac Still Mem Ak B h t) (hm:∀l,Lt l->l.isMemory=true) (h1:∀l,Lt l->¬Ac l) (h2:∀l,Lt l->¬Still l) (h3:∀l,Still l->¬Ac l):KnL (λl=>Ac l\/Lt l) (λl=>Still l\/Lt l) h t:=by
 intro i a e b d;have c:Lt a.loc:=by
  obtain b|b:=b
  .exact d.resolve_left (h3 _ b)
  .exact b
 obtain f|⟨_,y,_⟩|⟨x,_⟩:=H.known i a e (hm _ c)
 .exact f
 .exact(h2 _ c y).elim
 .exact(h1 _ c x).elim
end
section
variable {P:l_} {α β:Type} {r:Nat} {K:α->Prop}
theorem IB {s:String}:EK P r (stuck s:Sem α):=λw c a d b _ _ h=>by simp[stuck]at h
theorem Dy {u:Unsupported}:EK P r (unsupported u:Sem α):=λw c a d b _ _ h=>by simp[unsupported]at h
theorem Pg {f:d_ (j_×Nat)->Sem α} (h:EK P r (f none)):EK P r (shape r>>= f):=λw c a i b k g j=>by
 have d:(f (w.shape? r)).runT P w c=(.ok a i,b):=j;have e:w.shape? r=none:=by unfold World.shape?;rw[g];rfl
 rw[e]at d;exact h w c a i b k g d
theorem Ko {f:Obj->Sem α} (h:EK P r (f DK)):EK P r (getObj r>>= f):=λw d a c b j e i=>by
 have g:(f DK).runT P w (d.push ⟨.obj r,false,DK.isChan⟩)=(.ok a c,b):=by
  have:(Sem.getObj r f).runT P w d=(.ok a c,b):=i
  simp only[Sem.runT,e]at this
  exact this
 exact h w _ a c b j e g
theorem jQ {q:Nat} {f:d_ (j_×Nat)->Sem α} (h:∀s,EK P r (f s)):EK P r (shape q>>= f):=λw c a i b g d e=>h _ w c a i b g d e
theorem bu {q:Nat} {f:Obj->Sem α} (h:∀o,EK P r (f o)):EK P r (getObj q>>= f):=λw d a c b i e g=>by
 have:(Sem.getObj q f).runT P w d=(.ok a c,b):=g;simp only[Sem.runT]at this;split at this
 .simp at this
 .exact h _ w _ a c b i e this
 .simp at this
theorem Zd {e:Sem β} {f:β->Sem α} (h:EK P r e):EK P r (e>>= f):=h.bind
theorem WM {c:Prop} [Decidable c] {x y:Sem α} (h1:c->EK P r x) (h2:¬c->EK P r y):EK P r (if c then x else y):=by
 split
 .exact h1 ‹_›
 .exact h2 ‹_›
theorem DT {e:Sem α} (h:e.Aq P λ_=>False):EK P r e:=λw g a i f d _ b=>by
 obtain⟨_,_,c,_⟩:=Tv (Od:=MP) (Z:=λ_=>False) (w:=w) h (@Twin.mk MP _ _ _ rfl (λ_ _ _=>rfl) (λ_ h=>h.elim) d rfl rfl (λ_ h=>False.elim h) (λ_ h=>False.elim h) (λ_ h=>False.elim h)) (λ_ h=>h.elim) b (λ_ _ _=>rfl);exact c
theorem EN {u:Unsupported} (h:∀g,u≠.initOrder g):(unsupported u:Sem α).Aq P K:=by
 cases u<;>first|rfl|exact(h _ rfl).elim
theorem jP {f:d_ (f_×j_)->Sem α} (h:EK P r (f (some (⟨0,0,some 0⟩,0)))):EK P r (viewAt r>>= f):=
 Pg (f:=λs=>(if s.isSome then pure none else getObj r>>= λo=>match o with | .view a t=>pure (some (a,t))|_=>pure none)>>= f) (Ko (f:=λo=>(match o with | .view a t=>pure (some (a,t))|_=>pure none)>>= f) h)
theorem ac1 {f:d_ (f_×Bool)->Sem α} (h:EK P r (f none)):EK P r (numberAt r>>= f):=
 Pg (f:=λs=>(if s.isSome then pure none else getObj r>>= λo=>match o with | .number a l=>pure (some (a,l))|_=>pure none)>>= f) (Ko (f:=λo=>(match o with | .number a l=>pure (some (a,l))|_=>pure none)>>= f) h)
theorem Va {f:d_ (f_×j_)->Sem α} (h:∀x,(f x).Aq P K) (hd:EK P r (f (some (⟨0,0,some 0⟩,0)))):(viewAt r>>= f).Aq P K:=by
 refine⟨λs=>?_,?_⟩
 .cases s with
  |some x=>exact h none
  |none=>exact⟨λo _=>by cases o<;>exact h _,hd⟩
 .exact Ko (f:=λo=>(match o with | .view a t=>pure (some (a,t))|_=>pure none)>>= f) hd
theorem Yl {f:d_ (f_×Bool)->Sem α} (h:∀x,(f x).Aq P K) (hd:EK P r (f none)):(numberAt r>>= f).Aq P K:=by
 refine⟨λs=>?_,?_⟩
 .cases s with
  |some x=>exact h none
  |none=>exact⟨λo _=>by cases o<;>exact h _,hd⟩
 .exact Ko (f:=λo=>(match o with | .number a l=>pure (some (a,l))|_=>pure none)>>= f) hd
end
section
variable {P:l_}
theorem PI {op:BinOp} {k:FloatKind} {x y:Nat}:(Op.floatArith op k x y).Aq P λ_=>True:=by
 unfold Op.floatArith;have jp:∀r:d_ Nat,(match r with
   |some r=>pure (Value.float k r)
   |none=>do pure (Value.float k (<-choose (.nanBits k x y))):Sem n_).Aq P λ_=>True:=λr=>by
  cases r with
  |none=>exact Aa Fj λ_=>trivial
  |some _=>trivial
 cases op<;>first|exact jp _|exact Ai
theorem JI {op:BinOp} {k:FloatKind} {x y:Nat}:(Op.floatCmp op k x y).Aq P λ_=>True:=by
 unfold Op.floatCmp;cases op<;>first|trivial|rfl
theorem GN {op:BinOp} {k:FloatKind} {x y:Nat}:(Op.Complex.arith op k x y).Aq P λ_=>True:=by
 unfold Op.Complex.arith;refine Aa PI λv=>?_
 cases v<;>first|trivial|rfl
theorem P5 {op:BinOp} {k:FloatKind} {x y:Nat}:(Op.Complex.cmp op k x y).Aq P λ_=>True:=Aa JI λ_=>NY
theorem Uk {s d:FloatKind} {b:Nat}:(Conv.floatToFloat s b d).Aq P λ_=>True:=by
 unfold Conv.floatToFloat
 repeat' first|exact trivial|exact rfl|refine Aa Fj λ_=>?_|refine AL (λ_=>?_) λ_=>?_|split
theorem IK {s d:FloatKind} {x:Nat}:(Op.Complex.conv s x d).Aq P λ_=>True:=by
 unfold Op.Complex.conv;refine AL (λ_=>trivial) λ_=>Aa Uk λv=>?_
 cases v<;>first|trivial|rfl
theorem aK {a b c d:Nat}:(Op.Complex.product a b c d).Aq P λ_=>True:=by
 unfold Op.Complex.product
 repeat' first|exact trivial|refine Aa GN λ_=>?_
theorem Qq {s a b c d:Nat}:(Op.Complex.corrected s a b c d).Aq P λ_=>True:=by
 unfold Op.Complex.corrected
 repeat' first|exact trivial|refine Aa GN λ_=>?_
theorem QC {x y:Nat}:(Op.Complex.add x y).Aq P λ_=>True:=GN
theorem Y1 {x y:Nat}:(Op.Complex.sub x y).Aq P λ_=>True:=GN
theorem IL {x y:Nat}:(Op.Complex.mul x y).Aq P λ_=>True:=GN
theorem LX {x y:Nat}:(Op.Complex.quo x y).Aq P λ_=>True:=GN
theorem Yk {a b c d:Nat}:(Op.Complex.quotient a b c d).Aq P λ_=>True:=by
 unfold Op.Complex.quotient;refine Aa P5 λt=>?_
 extract_lets jp
 have g:∀x,(jp x).Aq P λ_=>True:=λ⟨e,f⟩=>by
  refine Aa P5 λu=>Aa P5 λh=>?_
  refine AL (λ_=>Ad trivial) λ_=>AL (λ_=>Aa IL λ_=>Aa IL λ_=>Ad trivial) λ_=>AL (λ_=>Qq) λ_=>AL (λ_=>Qq) λ_=>Ad trivial
 clear_value jp
 refine AL (λ_=>?_) λ_=>?_
 .exact Aa LX λ_=>Aa IL λ_=>Aa QC λ_=>Aa IL λ_=>Aa QC λ_=>Aa LX λ_=>Aa IL λ_=>Aa Y1 λ_=>Aa LX λ_=>Aa (Ad trivial) λ_=>g _
 .exact Aa LX λ_=>Aa IL λ_=>Aa QC λ_=>Aa IL λ_=>Aa QC λ_=>Aa LX λ_=>Aa IL λ_=>Aa Y1 λ_=>Aa LX λ_=>Aa (Ad trivial) λ_=>g _
theorem Nq {op:BinOp} {k:FloatKind} {a b c d:Nat}:(Op.complexOp op k a b c d).Aq P λ_=>True:=by
 unfold Op.complexOp;cases op<;>first
  |exact rfl
  |exact Aa GN λ_=>Aa GN λ_=>trivial
  |exact Aa P5 λ_=>Aa P5 λ_=>trivial
  | (refine Aa IK fun _=>Aa IK fun _=>Aa IK fun _=>Aa IK fun _=>?_
     first
      |exact Aa aK λ_=>Aa IK λ_=>Aa IK λ_=>trivial
      |exact Aa Yk λ_=>Aa IK λ_=>Aa IK λ_=>trivial)
theorem Iq {op:BinOp} {x y:ByteArray}:(Op.stringOp op x y).Aq P λ_=>True:=by
 unfold Op.stringOp;cases op<;>first|trivial|rfl|exact AL (λ_=>rfl) λ_=>trivial
theorem Xf {op:BinOp} {k yk:IntKind} {x y:Int}:(Op.shift op k x yk y).Aq P λ_=>True:=by
 unfold Op.shift;refine AL (λ_=>A8) λ_=>?_
 cases op<;>first|trivial|rfl
theorem Rh {op:BinOp} {k:IntKind} {x y:Int}:(Op.intArith op k x y).Aq P λ_=>True:=by
 unfold Op.intArith;cases op<;>first|trivial|rfl
theorem jd {op:BinOp} {k:IntKind} {x y:Int}:(Op.intDiv op k x y).Aq P λ_=>True:=by
 unfold Op.intDiv;refine AL (λ_=>A8) λ_=>?_
 cases op<;>first|trivial|rfl
theorem TY {op:BinOp} {k:IntKind} {x y:Int}:(Op.intBits op k x y).Aq P λ_=>True:=by
 unfold Op.intBits;cases op<;>first|trivial|rfl
theorem Qg {op:BinOp} {x y:Int}:(Op.intCmp op x y).Aq P λ_=>True:=by
 unfold Op.intCmp;cases op<;>first|trivial|rfl
theorem nZ {op:UnOp} {x:n_}:(Op.unary op x).Aq P λ_=>True:=by
 unfold Op.unary;split<;>first|exact Rh|exact TY|trivial|rfl
/-! ### pointers where numbers are asked for -/
theorem Qi {a:f_}:(byteOf a).Aq P λ_=>True:=by
 unfold byteOf;cases hs:a.spot with
 |some s=>trivial
 |none=>
  refine Aa (AZ Dw) λp=>?_
  have b:(noView a).Aq P λ_=>True:=Va (r:=a.block) (λx=>by
   cases x with
   |none=>exact Ad trivial
   |some y=>exact rfl) Dy
  refine Aa b λ_=>⟨λs=>?_,IB⟩
  cases s with
  |none=>exact Ai
  |some x=>
   obtain⟨e,n⟩:=x
   refine AL (λ_=>Ad trivial) λ_=>?_
   split
   .exact Ad trivial
   .exact Ai
end
section
variable {P:l_} {α:Type} {r:Nat} {K:α->Prop}
theorem C9 {n:f_} {f:f_×Bool->Sem α} (h:∀x,(f x).Aq P K) (hd:EK P n.block (f (n,false))):(behindNumber n>>= f).Aq P K:=by
 refine⟨λs=>?_,?_⟩
 .cases s with
  |some x=>exact h _
  |none=>exact⟨λo _=>by cases o<;>exact h _,hd⟩
 .exact Ko (f:=λo=>((match o with | .number a l=>pure (some (a,l))|_=>pure none)>>= λx=>pure (x.getD (n,false)))>>= f) hd
theorem Hw {n:f_} {f:f_×Bool->Sem α} (h:∀x,EK P r (f x)):EK P r (behindNumber n>>= f):=
 jQ (f:=λs=>((if s.isSome then pure none else getObj n.block>>= λo=>match o with | .number a l=>pure (some (a,l))|_=>pure none)>>= λx=>pure (x.getD (n,false)))>>= f) λs=>by
  cases s with
  |some x=>exact h _
  |none=>exact bu (f:=λo=>((match o with | .number a l=>pure (some (a,l))|_=>pure none)>>= λx=>pure (x.getD (n,false)))>>= f) λo=>by cases o<;>exact h _
end
section
variable {P:l_}
theorem Qo (hG:P.globals.size=0) {a b:f_}:(Op.twoPlaces a b).Aq P λ_=>False:=by
 unfold Op.twoPlaces;refine Ec Dw λp c=>?_
 subst c;have:(a.block !=b.block || decide (a.block≥p.globals.size))=true:=by simp[hG]
 rw[if_pos this];exact rfl
theorem Po (hG:P.globals.size=0) {k:IntKind} {a b:f_}:(Op.addrSub k a b).Aq P λ_=>False:=Ec (Qo hG) λ_ h=>h.elim
theorem DN (hG:P.globals.size=0) {op:BinOp} {a b:f_}:(Op.addrCmp op a b).Aq P λ_=>False:=Ec (Qo hG) λ_ h=>h.elim
theorem Pq {k:IntKind} {a:f_} {n:Int}:(Op.addrMod k a n).Aq P λ_=>True:=by
 refine⟨λs=>?_,Dy⟩;cases s with
 |none=>exact rfl
 |some x=>
  obtain⟨e,m⟩:=x
  refine Ec (e:=Sem.pure (some (e,m))) (K:=λx=>x=some (e,m)) rfl λx b=>?_
  subst b
  exact Aa (AZ Io) λi=>AL (λ_=>rfl) λ_=>Aa Qi λ_=>Ad trivial
theorem Py {k:IntKind} {a:f_} {n:Int}:EK P a.block (Op.addrMod k a n):=Pg (f:=λ_=>_) Dy
theorem Jj {t:j_} {x y:n_}:(Builtin.unsafeAdd_ #[] t #[x,y]).Aq P λ_=>True:=by
 unfold Builtin.unsafeAdd_;cases x with
 |pointer ptr=>
  refine Aa Nh λn=>AL (λ_=>?_) λ_=>?_
  .cases ptr with
   |none=>exact rfl
   |some a=>
    refine Va (λx=>?_) Dy
    cases x with
    |none=>exact Ad trivial
    |some y=>exact rfl
  .refine AL (λ_=>rfl) λ_=>?_
   cases ptr with
   |none=>exact rfl
   |some a=>
    refine⟨λs=>?_,Dy⟩
    cases s with
    |none=>exact rfl
    |some x=>
     obtain⟨e,m⟩:=x
     refine Ec (e:=Sem.pure (some (e,m))) (K:=λx=>x=some (e,m)) rfl λx b=>?_
     subst b
     refine Aa (AZ Dw) λp=>?_
     split
     .exact Ad trivial
     .exact rfl
 |_=>exact rfl
theorem Qs {t:j_} {a:f_} {y:n_}:EK P a.block (Builtin.unsafeAdd_ #[] t #[.pointer (some a),y]):=by
 unfold Builtin.unsafeAdd_;cases y with
 |int k n=>
  refine WM (λ_=>?_) λ_=>WM (λ_=>Dy) λ_=>?_
  .exact jP Dy
  .exact Pg (f:=λ_=>_) Dy
 |pointer a=>cases a<;>first|exact IB|exact Dy
 |_=>exact IB
theorem Yq {a:f_} {l:Bool}:(asNumber a l).Aq P λ_=>True:=Aa (NW rfl) λ_=>Ad trivial
theorem JE {t:j_} {x y:n_}:(movedNumber t x y).Aq P λ_=>True:=by
 unfold movedNumber;refine Aa (AZ AA) λd=>?_
 have key:∀(x:n_),(match x with
   |.pointer (some n)=>do
    let (a,lost)<-behindNumber n
    match<-Builtin.unsafeAdd_ #[] t #[.pointer (some a),y]with
    |.pointer (some b)=>asNumber b lost
    |v=>pure v
   |_=>Builtin.unsafeAdd_ #[] t #[x,y]:Sem n_).Aq P λ_=>True:=λx=>by
  split
  .refine C9 (λz=>?_) (Zd Qs);refine Aa Jj λv=>?_
   split
   .exact Yq
   .exact Ad trivial
  .exact Jj
 refine AL (λ_=>rfl) λ_=>key x
theorem Uj {t:j_} {x y:n_}:(movedPointer t x y).Aq P λ_=>True:=by
 unfold movedPointer;split
 .refine Yl (λz=>?_) (WM (λh=>by cases h) λ_=>Qs);refine AL (λ_=>rfl) λ_=>Jj
 .exact Jj
theorem oH (hG:P.globals.size=0) {op:BinOp} (h1:op≠.eql) (h2:op≠.neq) {t:j_} {x y:n_}:(binOp op t x y).Aq P λ_=>True:=by
 unfold binOp;split
 .exact Xf
 .exact Xf
 .refine AL (λ_=>rfl) λ_=>?_
  cases op<;>first|exact Rh|exact jd|exact TY|exact Qg
 .refine AL (λ_=>rfl) λ_=>?_
  cases op<;>first|exact PI|exact JI
 .exact AL (λ_=>rfl) λ_=>Nq
 .exact Iq
 .exact(h1 rfl).elim
 .exact(h2 rfl).elim
 .exact Aa (AZ AA) λd=>AL (λ_=>Uj) λ_=>JE
 .exact JE
 .exact JE
 .exact C9 (λz=>C9 (λz=>AZ (Po hG)) (DT (Po hG))) (Hw λz=>DT (Po hG))
 .exact C9 (λz=>C9 (λz=>AZ (DN hG)) (DT (DN hG))) (Hw λz=>DT (DN hG))
 .exact C9 (λz=>C9 (λz=>AZ (DN hG)) (DT (DN hG))) (Hw λz=>DT (DN hG))
 .exact C9 (λz=>C9 (λz=>AZ (DN hG)) (DT (DN hG))) (Hw λz=>DT (DN hG))
 .exact C9 (λz=>C9 (λz=>AZ (DN hG)) (DT (DN hG))) (Hw λz=>DT (DN hG))
 .exact C9 (λz=>Pq) Py
 .exact C9 (λz=>Pq) Py
 .exact C9 (λz=>Pq) Py
 .exact rfl
 .exact rfl
 .exact rfl
end
section
variable {P:l_} {gs:Array m_} {w w₁:o_} {sl:d_ (W_)} {i j:Nat} {g g₂ gj:m_} {es:Array Event} {cases cj:Array CommCase} {shape shj:CommShape} {k kj c cap s r:Nat} {buf:X_} {tm:Bool} {v z zj:n_} {blocking:Bool}
theorem XO (hi:gs[i]?=some g) (h:stepG P (i==0) g w=.comm g₂ cases blocking shape w₁ es) (hk:cases[k]?=some (scase c v z))
  (ho:∀(m:Nat) (c':CommCase),m≠k->cases[m]?=some c'->NoWays w₁ (gs.setIfInBounds i ph) c')
  (hc:w₁.heap[c]?=some (.chan cap buf false s r tm)) (hij:j≠i) (hj:gs[j]?=some (parked gj cj shj)) (hkj:cj[kj]?=some (rcase c zj)) (hp:partners (gs.setIfInBounds i ph) c false=[(j,kj)]):
  runT P (crowd gs w sl) i=(.next (crowd ((gs.setIfInBounds j (Conc.served gj (commResult cj shj kj v true))).setIfInBounds i (Conc.served g₂ (commResult cases shape k undef false))) (w₁.setChan c cap buf false (s+1) (r+1) tm) sl),
   MemOp.ofEvents i g.frame.fn g.frame.place es++#[{ g:=i,fn:=g₂.frame.fn,pos:=g₂.frame.place,act:=.send c s },{ g:=j,fn:=gj.frame.fn,pos:=gj.frame.place,act:=.recv c r cap },
    { g:=i,fn:=g₂.frame.fn,pos:=g₂.frame.place,act:=.sendDone c s },{ g:=j,fn:=gj.frame.fn,pos:=gj.frame.place,act:=.recvDone c r }]):=by
 have e:ways w₁ (gs.setIfInBounds i ph) (scase c v z)=[.partner j kj]:=by simp[ways,scase,hc,hp]
 have a:=stand_get (i:=i) hij hj;have b:=finishPartner_at P (gs.setIfInBounds i ph) a (cs:=cj) (sh:=shj) rfl kj v;have d:(gs.setIfInBounds i ph).getD j default=parked gj cj shj:=by rw[Array.getD_eq_getD_getElem?,a];rfl
 rw[runT_crowd_comm hi h];unfold communicate;simp only[ready_one hk (by rw[e];simp) ho,e];rw[if_neg]
 .simp[choose,Sem.run,Question.forced,bind,Sem.bind,pure,scase,crowd,hc,b,d,set_stand2,hkj,rcase,parked,World.setChan]
  rfl
 .rw[Bool.not_eq_true];exact any_ill (made_of_one hk (made_send v z hc) ho)
theorem Qr (hi:gs[i]?=some g) (h:stepG P (i==0) g w=.comm g₂ cases blocking shape w₁ es) (hk:cases[k]?=some (rcase c z))
  (ho:∀(m:Nat) (c':CommCase),m≠k->cases[m]?=some c'->NoWays w₁ (gs.setIfInBounds i ph) c')
  (hc:w₁.heap[c]?=some (.chan cap #[] false s r tm)) (hij:j≠i) (hj:gs[j]?=some (parked gj cj shj)) (hkj:cj[kj]?=some (scase c v zj)) (hp:partners (gs.setIfInBounds i ph) c true=[(j,kj)]):
  runT P (crowd gs w sl) i=(.next (crowd ((gs.setIfInBounds j (Conc.served gj (commResult cj shj kj undef false))).setIfInBounds i (Conc.served g₂ (commResult cases shape k v true))) (w₁.setChan c cap #[] false (s+1) (r+1) tm) sl),
   MemOp.ofEvents i g.frame.fn g.frame.place es++#[{ g:=j,fn:=gj.frame.fn,pos:=gj.frame.place,act:=.send c s },{ g:=i,fn:=g₂.frame.fn,pos:=g₂.frame.place,act:=.recv c r cap },
    { g:=j,fn:=gj.frame.fn,pos:=gj.frame.place,act:=.sendDone c s },{ g:=i,fn:=g₂.frame.fn,pos:=g₂.frame.place,act:=.recvDone c r }]):=by
 have f:ways w₁ (gs.setIfInBounds i ph) (rcase c z)=[.partner j kj]:=by simp[ways,rcase,hc,hp]
 have a:=stand_get (i:=i) hij hj;have b:=finishPartner_at P (gs.setIfInBounds i ph) a (cs:=cj) (sh:=shj) rfl kj undef;have d:(gs.setIfInBounds i ph).getD j default=parked gj cj shj:=by rw[Array.getD_eq_getD_getElem?,a];rfl
 have e:offeredValue (gs.setIfInBounds i ph) j kj=v:=by simp[offeredValue,a,parked,hkj,scase]
 rw[runT_crowd_comm hi h];unfold communicate;simp only[ready_one hk (by rw[f];simp) ho,f];rw[if_neg]
 .simp[choose,Sem.run,Question.forced,bind,Sem.bind,pure,rcase,crowd,hc,b,d,e,set_stand2,hkj,scase,parked,World.setChan]
  rfl
 .rw[Bool.not_eq_true];exact any_ill (made_of_one hk (made_recv z hc) ho)
end
end Go.Fxa
