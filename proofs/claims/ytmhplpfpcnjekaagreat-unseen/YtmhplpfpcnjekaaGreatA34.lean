/- Two kernels that are alike but -/
import Derived.Test.YtmhplpfpcnjekaaGreatA33
namespace Go.Fxa
open Go.Conc Go.Proofs Go.RowKit
set_option maxRecDepth 1000000
set_option maxHeartbeats 0
variable {R R':Nat->Nat->Prop} {a x y i st n j fd p q at_:Nat} {o o':d_ Nat} {T1:Tag} {c1 c2:Ct} {v v':n_} {α:Type} {l:List Int} {d d':Nat->Nat}
def LR (R:Nat->Nat->Prop):List Nat->List Nat->Prop
 |[],[]=>True
 |a::l,b::m=>R a b/\LR R l m
 |_,_=>False
def Ko (R:Nat->Nat->Prop):d_ Nat->d_ Nat->Prop
 |none,none=>True
 |some a,some b=>R a b
 |_,_=>False
theorem LR.mono {R S:Nat->Nat->Prop} (h:∀a b,R a b->S a b):∀{l m:List Nat},LR R l m->LR S l m
 |[],[],_=>trivial
 |_::_,_::_,c=>⟨h _ _ c.1,LR.mono h c.2⟩
 |[],_::_,c=>c.elim
 |_::_,[],c=>c.elim
theorem Ko.mono {S:Nat->Nat->Prop} (h:∀a b,R a b->S a b):∀{l m:d_ Nat},Ko R l m->Ko S l m
 |none,none,_=>trivial
 |some _,some _,c=>h _ _ c
 |none,some _,c=>c.elim
 |some _,none,c=>c.elim
theorem LR.len {R:Nat->Nat->Prop}:∀{l m:List Nat},LR R l m->l.length=m.length
 |[],[],_=>rfl
 |_::l,_::m,a=>by simp[LR.len a.2]
 |[],_::_,a=>a.elim
 |_::_,[],a=>a.elim
theorem LR.app {R:Nat->Nat->Prop} {c e:List Nat} (b:LR R c e):∀{l m:List Nat},LR R l m->LR R (l++c) (m++e)
 |[],[],_=>b
 |_::_,_::_,a=>⟨a.1,LR.app b a.2⟩
 |[],_::_,a=>a.elim
 |_::_,[],a=>a.elim
theorem LR.one {b:Nat} (h:R a b):LR R [a] [b]:=⟨h,eu⟩
theorem LR.zX {R:Nat->Nat->Prop} {a:Nat}:∀{l m:List Nat},LR R l m->a∈l->∃b,b∈m/\R a b
 |[],_,_,h=>by cases h
 |x::l,y::m,c,h=>by
  obtain rfl|h:=r_.1 h
  .exact⟨y,zF,c.1⟩
  .obtain⟨b,d,e⟩:=LR.zX c.2 h;exact⟨b,by simp[d],e⟩
 |_::_,[],c,_=>c.elim
theorem LR.aa7 {R:Nat->Nat->Prop} {b:Nat}:∀{l m:List Nat},LR R l m->b∈m->∃a,a∈l/\R a b
 |_,[],_,h=>by cases h
 |x::l,y::m,c,h=>by
  obtain rfl|h:=r_.1 h
  .exact⟨x,zF,c.1⟩
  .obtain⟨b,d,e⟩:=LR.aa7 c.2 h;exact⟨b,by simp[d],e⟩
 |[],_::_,c,_=>c.elim
theorem LR.filter {R:Nat->Nat->Prop} {p q:Nat->Bool} (h:∀a b,R a b->p a=q b):∀{l m:List Nat},LR R l m->LR R (l.filter p) (m.filter q)
 |[],[],_=>trivial
 |x::l,y::m,c=>by
  have e:=h x y c.1
  cases hp:p x
  .rw[List.filter_cons_of_neg (by simp[hp]),List.filter_cons_of_neg (by simp[<-e,hp])];exact LR.filter h c.2
  .rw[List.filter_cons_of_pos (by simp[hp]),List.filter_cons_of_pos (by simp[<-e,hp])];exact⟨c.1,LR.filter h c.2⟩
 |[],_::_,c=>c.elim
 |_::_,[],c=>c.elim
theorem LR.find {R:Nat->Nat->Prop} {p q:Nat->Bool} (h:∀a b,R a b->p a=q b):∀{l m:List Nat},LR R l m->Ko R (l.find? p) (m.find? q)
 |[],[],_=>trivial
 |x::l,y::m,c=>by
  have e:=h x y c.1
  cases hp:p x
  .rw[List.find?_cons_of_neg (by simp[hp]),List.find?_cons_of_neg (by simp[<-e,hp])];exact LR.find h c.2
  .rw[List.find?_cons_of_pos (by simp[hp]),List.find?_cons_of_pos (by simp[<-e,hp])];exact c.1
 |[],_::_,c=>c.elim
 |_::_,[],c=>c.elim
theorem LR.get {R:Nat->Nat->Prop}:∀{l m:List Nat} (i:Nat),LR R l m->Ko R l[i]? m[i]?
 |[],[],_,_=>by simp[Ko]
 |_::_,_::_,0,a=>by simpa [Ko]using a.1
 |_::_,_::_,i+1,a=>by simpa using LR.get i a.2
 |[],_::_,_,a=>a.elim
 |_::_,[],_,a=>a.elim
theorem Ko.jM (h:Ko R o o') (e:o=some a):∃b,o'=some b/\R a b:=by
 subst e;cases o' with
 |none=>exact h.elim
 |some b=>exact⟨b,rfl,h⟩
theorem Ko.none (h:Ko R o o'):o=Option.none ↔ o'=Option.none:=by
 cases o<;>cases o'<;>simp_all [Ko]
def BlR (R:Nat->Nat->Prop) (v v':n_):Prop:=(dK v).1=(dK v').1/\((dK v).1=270\/(dK v).1=265->R (dK v).2 (dK v').2)
structure Eu (c:Bool) (R:Nat->Nat->Prop) (r s:PR):Prop where
 pid:r.pid=s.pid
 par:r.par=s.par
 st:r.st=s.st
 A:r.A=s.A
 B:r.B=s.B
 P:r.P=s.P
 sw:r.sw=s.sw
 en:r.en=s.en
 Af:r.Af=s.Af
 fds:r.fds=s.fds
 co:c=true->r.co=s.co
 bl:BlR R r.bl s.bl
def TvR (t t':Tag) (R:Nat->Nat->Prop) (v v':n_):Prop:=(v=.nilIface/\v'=.nilIface)\/∃u a b,v=.iface u (ptr a)/\v'=.iface u (ptr b)/\R a b/\(u=330->(t a).1=13/\(t' b).1=13)/\(u=334->(t a).1=14/\(t' b).1=14)
structure Ϯ (R:Nat->Nat->Prop) (t t':W_) (c c':Ct):Prop where
 k:t.1=t'.1
 f:t.1=12->R t.2 t'.2
 ws:c.ws=c'.ws
 x:c.x=c'.x
 y:c.y=c'.y
 n:t.1≠13->t.1≠14->c.n=c'.n
 e:t.1=13\/t.1=14->R c.n c'.n
structure CZ (c:Bool) (t t':Tag) (R S:Nat->Nat->Prop) (K L:KS):Prop where
 rl:∀a b b',R a b->R a b'->b=b'
 rr:∀a a' b,R a b->R a' b->a=a'
 rd:∀a b,R a b->Ϯ R (t a) (t' b) (K.ct a) (L.ct b)/\K.op a=L.op b
 sl:∀a b b',S a b->S a b'->b=b'
 sr:∀a a' b,S a b->S a' b->a=a'
 sd:∀a b,S a b->∃r s,K.ps a=some r/\L.ps b=some s/\Eu c R r s
 Aw:LR S K.Aw L.Aw
 BD:K.BD=L.BD
 core:c=true->K.core=L.core
 swap:K.swap=L.swap
 nm:∀i,Ko R (K.nm i) (L.nm i)
 nl:LR R K.nl L.nl
 desc:∀i,i<20->K.desc i=L.desc i
 ef:∀i,i<20->Ko R (K.ef i) (L.ef i)
 tv:∀i,i<20->TvR t t' R (K.tv i) (L.tv i)
def JK (t t':Tag) (R:Nat->Nat->Prop) (K L:KS):Prop:=∀a b,R a b->(K.T a=t a/\t a≠(0,0))/\L.T b=t' b/\t' b≠(0,0)
theorem JK.ext {t g:Tag} {K L K' f:KS} (h:JK t g R K L) (k:Si K.T K'.T) (m:Si L.T f.T):JK t g R K' f:=λa b c=>by
 obtain⟨⟨e1,d⟩,e2,e⟩:=h a b c;exact⟨⟨(k a (by rw[e1];exact d)).trans e1,d⟩,(m b (by rw[e2];exact e)).trans e2,e⟩
section
variable {c:Bool} {t t':Tag} {R S:Nat->Nat->Prop} {K L K' L':KS} {a b:Nat} {r s:PR}
theorem CZ.row (h:CZ c t t' R S K L) (g:S a b) (k:K.ps a=some r) (m:L.ps b=some s):Eu c R r s:=by
 obtain⟨e,f,e1,e2,d⟩:=h.sd a b g;rw[k]at e1;rw[m]at e2;cases e1;cases e2;exact d
theorem CZ.get (h:CZ c t t' R S K L) (g:S a b) (k:K.ps a=some r):∃s,L.ps b=some s/\Eu c R r s:=by
 obtain⟨f,e,e1,e2,d⟩:=h.sd a b g;rw[k]at e1;cases e1;exact⟨e,e2,d⟩
theorem CZ.Bi (h:CZ c t t' R S K L) (k:S a b) (m:Eu c R r s):CZ c t t' R S (K.Bi a r) (L.Bi b s):=
 ⟨h.rl,h.rr,h.rd,h.sl,h.sr,λx y d=>by
  by_cases e:x=a
  .subst e;obtain rfl:=h.sl x y b d k;exact⟨r,s,Aj,Aj,m⟩
  .have f:y≠b:=λe2=>by subst e2;exact e (h.sr x a y d k)
   obtain⟨i,j,e1,e2,g⟩:=h.sd x y d;exact⟨i,j,(BH e).trans e1,(BH f).trans e2,g⟩,h.Aw,h.BD,h.core,h.swap,h.nm,h.nl,h.desc,h.ef,h.tv⟩
theorem CZ.isZ (h:CZ c t t' R S K L) (pid:Nat) (e:S a b):isZ K.ps pid a=isZ L.ps pid b:=by
 obtain⟨r,s,e1,e2,d⟩:=h.sd a b e;rw[Yq e1,Yq e2,d.en,d.par]
theorem CZ.RI (h:CZ c t t' R S K L) (pid:Nat):Ko S (K.RI pid) (L.RI pid):=LR.find (λ_ _ a=>h.isZ pid a) h.Aw
theorem CZ.parent (h:CZ c t t' R S K L) (pid:Nat):K.parent pid ↔ L.parent pid:=by
 constructor
 .rintro⟨b,r,a,d,f⟩;obtain⟨j,m1,m2⟩:=h.Aw.zX a;obtain⟨s,e,g⟩:=h.get m2 d;exact⟨j,s,m1,e,g.par ▸ f⟩
 .rintro⟨b,s,a,d,f⟩;obtain⟨i,m1,m2⟩:=h.Aw.aa7 a;obtain⟨r,k,e1,e2,g⟩:=h.sd i b m2;rw[d]at e2;cases e2;exact⟨i,r,m1,e1,g.par.trans f⟩
theorem CZ.blk (h:CZ c t t' R S K L) (e:Eu c R r s):K.blk r=L.blk s:=by
 unfold KS.blk;rw[<-e.bl.1,<-e.pid];by_cases e1:(dK r.bl).1=196
 .rw[rC e1,rC e1];have:=(h.RI r.pid).none;cases h1:K.RI r.pid<;>cases h2:L.RI r.pid<;>simp_all
 .rw[ru e1,ru e1];by_cases e2:(dK r.bl).1=270
  .rw[rC e2,rC e2];have:=(h.rd _ _ (e.bl.2 (.inl e2))).1;unfold Ct.starved;rw[this.ws,this.y]
  .rw[ru e2,ru e2];by_cases e3:(dK r.bl).1=265
   .rw[rC e3,rC e3];have:=(h.rd _ _ (e.bl.2 (.inr e3))).1;unfold Ct.Jr;rw[this.ws,this.x]
   .rw[ru e3,ru e3]
theorem CZ.Ec (h:CZ c t t' R S K L) (e:Eu c R r s):K.Ec r=L.Ec s:=by
 unfold KS.Ec;rw[e.en,h.blk e]
theorem CZ.gone (h:CZ c t t' R S K L) (e:S a b):Ua K.ps a=Ua L.ps b:=by
 obtain⟨r,s,e1,e2,d⟩:=h.sd a b e;unfold Ua;rw[e1,e2];simp only[d.en,d.par]
theorem CZ.Qg (h:CZ c t t' R S K L):CZ c t t' R S K.Qg L.Qg:=
 ⟨h.rl,h.rr,h.rd,h.sl,h.sr,h.sd,h.Aw.filter λ_ _ a=>by rw[h.gone a],h.BD,h.core,h.swap,h.nm,h.nl,h.desc,h.ef,h.tv⟩
theorem CZ.cm1 (h:CZ c t t' R S K L) (w:qC K x) (z:qC L y) (A:∀a u r r',a∈K.Aw->u∈K.Aw->K.ps a=some r->K.ps u=some r'->r.pid=r'.pid->a=u):x=y:=by
 obtain⟨rfl,g,k,m1,e1,f,d⟩|⟨rfl,w⟩:=w<;>obtain⟨rfl,n,p,m2,e2,p2,i⟩|⟨rfl,z⟩:=z
 .rfl
 .exfalso;obtain⟨m,q1,j⟩:=h.Aw.zX m1;obtain⟨s,e,b⟩:=h.get j e1;obtain z|⟨n,p,m2,e2,p2,i⟩:=z
  .exact z m q1 s e (b.pid.symm.trans f)
  .obtain⟨u,m3,o⟩:=h.Aw.aa7 m2;obtain⟨r',q,e3,e4,l⟩:=h.sd _ _ o;rw[e2]at e4;cases e4;obtain rfl:=A g u k r' m1 m3 e1 e3 (by rw[f,l.pid,p2]);rw[e1]at e3;cases e3;rw[l.en,i]at d;cases d
 .exfalso;obtain⟨u,q1,j⟩:=h.Aw.aa7 m2;obtain⟨r',q,e3,e4,b⟩:=h.sd _ _ j;rw[e2]at e4;cases e4;obtain w|⟨g,k,m1,e1,f,d⟩:=w
  .exact w u q1 r' e3 (b.pid.trans p2)
  .obtain rfl:=A g u k r' m1 q1 e1 e3 (by rw[f,b.pid,p2]);rw[e1]at e3;cases e3;rw[b.en,i]at d;cases d
 .rfl
theorem Eu.coS (h:Eu c R r s) {x y:Int} (e:c=true->x=y):Eu c R { r with co:=x } { s with co:=y }:=⟨h.pid,h.par,h.st,h.A,h.B,h.P,h.sw,h.en,h.Af,h.fds,e,h.bl⟩
theorem ah8 {q:PR}:{ q with co:=q.co }=q:=rfl
theorem CZ.maps (h:CZ c t t' R S K L) {k1 k2 e f:List (W_)} {c1 c2 c3 c4 d1 d2 d3 d4:Nat} {T2:Tag} (g:c=true->k1=e) (k:k2=f):CZ c t t' R S { K with core:=k1,cg:=c1,cc:=c2,swap:=k2,sg:=c3,sc:=c4,T:=T1 } { L with core:=e,cg:=d1,cc:=d2,swap:=f,sg:=d3,sc:=d4,T:=T2 }:=
 ⟨h.rl,h.rr,h.rd,h.sl,h.sr,h.sd,h.Aw,h.BD,g,k,h.nm,h.nl,h.desc,h.ef,h.tv⟩
theorem CZ.tags (h:CZ c t t' R S K L) {T2:Tag}:CZ c t t' R S { K with T:=T1 } { L with T:=T2 }:=
 ⟨h.rl,h.rr,h.rd,h.sl,h.sr,h.sd,h.Aw,h.BD,h.core,h.swap,h.nm,h.nl,h.desc,h.ef,h.tv⟩
theorem CZ.ah (h:CZ c t t' R S K L) (k:R a b) (m:Ϯ R (t a) (t' b) c1 c2):CZ c t t' R S { K with ct:=Ag K.ct a c1 } { L with ct:=Ag L.ct b c2 }:=by
 refine⟨h.rl,h.rr,λx y d=>?_,h.sl,h.sr,h.sd,h.Aw,h.BD,h.core,h.swap,h.nm,h.nl,h.desc,h.ef,h.tv⟩;obtain⟨g,i⟩:=h.rd x y d;refine⟨?_,i⟩;by_cases e:x=a
 .subst e;obtain rfl:=h.rl x y b d k;simpa [Ag]using m
 .have f:y≠b:=λe2=>by subst e2;exact e (h.rr x a y d k)
  simpa [Ag,e,f]using g
theorem CZ.out (h:CZ c t t' R S K L) (m:S a b) (u:dW a K K') (w:dW b L L'):CZ c t t' R S K' L':=by
 obtain⟨r,e1,u⟩:=u;obtain⟨s,e2,w⟩:=w;have e:=h.row m e1 e2;obtain⟨j,rfl⟩|⟨a1,g,f,j,rfl⟩:=u<;>obtain⟨k,rfl⟩|⟨a2,i,c2,k,rfl⟩:=w
 .exact h
 .rw[<-Fj e1,<-ah8 (q:=r)];exact CZ.Bi (K:=K') (L:=L.GZ _ i c2) (h.maps (λd=>by have:=e.co d;omega) h.swap) m (e.coS λd=>by have:=e.co d;omega)
 .rw[<-Fj e2,<-ah8 (q:=s)];exact CZ.Bi (K:=K.GZ _ g f) (L:=L') (h.maps (λd=>by have:=e.co d;omega) h.swap) m (e.coS λd=>by have:=e.co d;omega)
 .refine CZ.Bi (K:=K.GZ _ g f) (L:=L.GZ _ i c2) (h.maps (λd=>?_) h.swap) m (e.coS λ_=>rfl);have:=e.co d;rw[h.core d,e.Af,show a1=a2 by omega]
theorem CZ.bt3 (h:CZ false t t' R S K L) (m:BR K K'):CZ false t t' R S K' L:=by
 have e1:K'.Aw=K.Aw:=by rw[m.eq]
 have e2:K'.BD=K.BD:=by rw[m.eq]
 have e3:K'.swap=K.swap:=by rw[m.eq]
 have e4:K'.nm=K.nm:=by rw[m.eq]
 have e:K'.nl=K.nl:=by rw[m.eq]
 have g:K'.desc=K.desc:=by rw[m.eq]
 have i:K'.ef=K.ef:=by rw[m.eq]
 have j:K'.tv=K.tv:=by rw[m.eq]
 have k:K'.ct=K.ct:=by rw[m.eq]
 have d:K'.op=K.op:=by rw[m.eq]
 obtain⟨f,l⟩:=m.ps;refine⟨h.rl,h.rr,by rw[k,d];exact h.rd,h.sl,h.sr,λx y c=>?_,by rw[e1];exact h.Aw,by rw[e2];exact h.BD,(λb=>by cases b),by rw[e3];exact h.swap,by rw[e4];exact h.nm,by rw[e];exact h.nl,by rw[g];exact h.desc,by rw[i];exact h.ef,by rw[j];exact h.tv⟩;obtain⟨r,s,q1,n,a⟩:=h.sd x y c;exact⟨{ r with co:=f x },s,by rw[l,q1];rfl,n,a.pid,a.par,a.st,a.A,a.B,a.P,a.sw,a.en,a.Af,a.fds,(λb=>by cases b),a.bl⟩
theorem Ko.swap {R:Nat->Nat->Prop}:∀{o o':d_ Nat},Ko R o o'->Ko (λa b=>R b a) o' o
 |.none,.none,_=>trivial
 |.some _,.some _,h=>h
 |.none,.some _,h=>h.elim
 |.some _,.none,h=>h.elim
theorem LR.swap {R:Nat->Nat->Prop}:∀{l m:List Nat},LR R l m->LR (λa b=>R b a) m l
 |[],[],_=>trivial
 |_::_,_::_,h=>⟨h.1,h.2.swap⟩
 |[],_::_,h=>h.elim
 |_::_,[],h=>h.elim
theorem BlR.swap (h:BlR R v v'):BlR (λa b=>R b a) v' v:=⟨h.1.symm,λe=>h.2 (by rw[h.1];exact e)⟩
theorem Eu.swap (h:Eu c R r s):Eu c (λa b=>R b a) s r:=⟨h.pid.symm,h.par.symm,h.st.symm,h.A.symm,h.B.symm,h.P.symm,h.sw.symm,h.en.symm,h.Af.symm,h.fds.symm,λe=>(h.co e).symm,h.bl.swap⟩
theorem Ϯ.swap {u m:Nat×Nat} {c g:Ct} (h:Ϯ R u m c g):Ϯ (λa b=>R b a) m u g c:=⟨h.k.symm,λe=>h.f (by rw[h.k];exact e),h.ws.symm,h.x.symm,h.y.symm,λe1 e2=>(h.n (by rw[h.k];exact e1) (by rw[h.k];exact e2)).symm,λe=>h.e (by rw[h.k];exact e)⟩
theorem TvR.swap (h:TvR t t' R v v'):TvR t' t (λa b=>R b a) v' v:=by
 obtain⟨c,d⟩|⟨u,a,b,c,d,f,g,i⟩:=h
 .exact .inl ⟨d,c⟩
 .exact .inr ⟨u,b,a,d,c,f,λe=>(g e).symm,λe=>(i e).symm⟩
theorem CZ.swap' (h:CZ c t t' R S K L):CZ c t' t (λa b=>R b a) (λa b=>S b a) L K:=
 ⟨λa b j=>h.rr b j a,λa g b=>h.rl b a g,λa b d=>⟨(h.rd b a d).1.swap,(h.rd b a d).2.symm⟩,λa b j=>h.sr b j a,λa g b=>h.sl b a g,λa b d=>let ⟨r,s,e1,e2,hR⟩:=h.sd b a d;⟨s,r,e2,e1,hR.swap⟩,h.Aw.swap,h.BD.symm,λe=>(h.core e).symm,h.swap.symm,λi=>(h.nm i).swap,h.nl.swap,λi f=>(h.desc i f).symm,λi f=>(h.ef i f).swap,λi f=>(h.tv i f).swap⟩
theorem CZ.aa6 (h:CZ false t t' R S K L) (m:BR L L'):CZ false t t' R S K L':=(h.swap'.bt3 m).swap'
theorem TQ.back {K K':KS} {n:Nat}:∀{j:Nat} {i:Nat},TQ K n j K'->i<j->∃m,TQ K n i m/\(Aq m.core n).1=none/\∃b,K.Aw[i]?=some b
 |j+1,i,h,k=>by
  obtain⟨c,b,a,d,f,g⟩:=h
  by_cases e:i=j
  .subst e;exact⟨c,a,d,b,f⟩
  .exact TQ.back a zD
theorem CZ.as4 (h:CZ c t t' R S K L) {n:Nat}:∀{j:Nat} {K' L':KS},TQ K n j K'->TQ L n j L'->CZ c t t' R S K' L'
 |0,_,_,a,b=>by
  have a:_=K:=a
  have b:_=L:=b
  rw[a,b];exact h
 |j+1,_,_,a,b=>by
  obtain⟨i,l,x1,o,e,f⟩:=a
  obtain⟨k,m,g,p,y3,y4⟩:=b
  have d:=h.Aw.get j
  rw[e,y3]at d
  exact(CZ.as4 h x1 g).out d f y4
theorem dW.Ku (h:dW b K K'):BR K K':=by
 obtain⟨r,e,h⟩:=h;obtain⟨_,rfl⟩|⟨x,g,c,_,rfl⟩:=h
 .exact BR.refl _
 .refine⟨rfl,λk=>if k=b then -1 else(match K.ps k with|some q=>q.co|none=>0),λk=>?_⟩;show C9 K.ps b _ k=_;by_cases a:k=b
  .subst a;rw[Aj,e];simp
  .rw[BH a];cases hk:K.ps k with
   |none=>simp
   |some q=>simp[a,hk]
theorem TQ.Ku {n:Nat}:∀{j:Nat} {K':KS},TQ K n j K'->BR K K'
 |0,_,h=>by
  have h:_=K:=h
  rw[h];exact BR.refl K
 |j+1,_,h=>by
  obtain⟨d,b,a,_,_,c⟩:=h
  exact(TQ.Ku a).trans c.Ku
theorem BR.coreS {k1:List (W_)} (h:BR K K'):BR K { K' with core:=k1 }:=by
 refine⟨?_,h.ps⟩;have:=h.eq;rw[this]
theorem BR.bz0 {x:Int} (h:BR K K') (e:K.ps b=some r):BR K (K'.Bi b { r with co:=x }):=by
 obtain⟨f,c⟩:=h.ps;refine⟨?_,λk=>if k=b then x else f k,λk=>?_⟩
 .have:=h.eq;rw[this];rfl
 .show C9 K'.ps b _ k=_;by_cases a:k=b
  .subst a;rw[Aj,e];simp
  .rw[BH a,c];simp[a]
theorem Ϭ.Ku (h:Ϭ b K K'):BR K K':=by
 obtain⟨r,e,⟨_,rfl⟩|⟨_,j,c,a,⟨_,_,rfl⟩|⟨x,_,rfl⟩⟩⟩:=h
 .exact BR.refl _
 .exact a.Ku.coreS
 .exact a.Ku.coreS.bz0 e
theorem CZ.in_ (h:CZ c t t' R S K L) (H:S a b) (G:Ϭ a K K') (F:Ϭ b L L'):CZ c t t' R S K' L':=by
 cases c
 .exact(h.bt3 G.Ku).aa6 F.Ku
 obtain⟨r,e1,G⟩:=G;obtain⟨s,e2,F⟩:=F;have l:=h.row H e1 e2;have C:=l.co rfl;obtain⟨A,rfl⟩|⟨A,o,k,k1,G⟩:=G<;>obtain⟨B,rfl⟩|⟨B,p,q,k2,F⟩:=F
 .exact h
 .omega
 .omega
 have z:Ai s.Af.length=Ai r.Af.length:=by rw[l.Af]
 rw[z]at k2 F;have w:o=p:=by
  obtain j|e|j:=Nat.lt_trichotomy o p
  .obtain⟨E,m,g,u,y3⟩:=k2.back j;have d:=h.as4 k1 m;rw[<-d.core rfl]at g;obtain⟨_,G,_⟩|⟨x,G,_⟩:=G
   .have:=h.Aw.len;have:=(KT.1 y3).1;omega
   .rw[G]at g;cases g
  .exact e
  .obtain⟨D,m,g,u,y3⟩:=k1.back j;have d:=h.as4 m k2;rw[d.core rfl]at g;obtain⟨_,F,_⟩|⟨x,F,_⟩:=F
   .have:=h.Aw.len;have:=(KT.1 y3).1;omega
   .rw[F]at g;cases g
 subst w;have d:=h.as4 k1 k2;have v:=d.core rfl;rw[<-v]at F;have n:CZ true t t' R S { k with core:=(Aq k.core (Ai r.Af.length)).2 } { q with core:=(Aq k.core (Ai r.Af.length)).2 }:=⟨d.rl,d.rr,d.rd,d.sl,d.sr,d.sd,d.Aw,d.BD,λ_=>rfl,d.swap,d.nm,d.nl,d.desc,d.ef,d.tv⟩;obtain⟨i,_,rfl⟩|⟨x,i,rfl⟩:=G<;>obtain⟨f,_,rfl⟩|⟨y,f,rfl⟩:=F
 .exact n
 .rw[i]at f;cases f
 .rw[i]at f;cases f
 .rw[i]at f;cases f;exact n.Bi H (l.coS λ_=>rfl)
theorem be6:(K.drop i).ps=K.ps/\(K.drop i).Aw=K.Aw:=by
 unfold KS.drop;split
 .split<;>exact⟨rfl,rfl⟩
 .exact⟨rfl,rfl⟩
theorem Yy:∀{l:List Int} {K:KS},(K.Kv l).ps=K.ps/\(K.Kv l).Aw=K.Aw
 |[],_=>⟨rfl,rfl⟩
 |n::l,K=>by
  have h:=Yy (l:=l) (K:=if n=-1 then K else K.drop n.toNat)
  have e:(if n=-1 then K else K.drop n.toNat).ps=K.ps/\(if n=-1 then K else K.drop n.toNat).Aw=K.Aw:=by
   split
   .exact⟨rfl,rfl⟩
   .exact be6
  exact⟨h.1.trans e.1,h.2.trans e.2⟩
theorem Lj {f g:Nat->α} {x y:α} {P:α->α->Prop} (h:∀j,j<20->P (f j) (g j)) (e:P x y):∀j,j<20->P (Ag f i x j) (Ag g i y j):=λj a=>by
 unfold Ag;split
 .exact e
 .exact h j a
theorem CZ.upd (h:CZ c t t' R S K L) {f g:Nat->α} {u v:α} {P:α->α->Prop} (k:R a b) (z:P (f x) (g y)) (w:P u v) (m:R x y):P (Ag f a u x) (Ag g b v y):=by
 by_cases e:x=a
 .subst e;obtain rfl:=h.rl x y b m k;simpa [Ag]using w
 .have d:y≠b:=λe2=>by subst e2;exact e (h.rr x a y m k)
  simpa [Ag,e,d]using z
theorem CZ.xy (h:CZ c t t' R S K L) (w:i<20):CZ c t t' R S { K with ct:=K.xy i } { L with ct:=L.xy i }:=by
 obtain⟨e1,e2⟩|⟨u,x,y,e1,e2,d,k1,k2⟩:=h.tv i w
 .unfold KS.xy;rw[e1,e2];exact h
 .by_cases j:u=330
  .subst j;rw[iq e1,iq e2];have g:=(h.rd x y d).1;have b:=g.e (.inl (k1 rfl).1);have a:=(h.rd _ _ b).1;exact h.ah b ⟨a.k,a.f,a.ws,rfl,a.y,a.n,a.e⟩
  .by_cases l:u=334
   .subst l;rw[ig e1,ig e2];have g:=(h.rd x y d).1;have b:=g.e (.inr (k2 rfl).1);have a:=(h.rd _ _ b).1;exact h.ah b ⟨a.k,a.f,a.ws,a.x,rfl,a.n,a.e⟩
   .have m:K.xy i=K.ct:=(by unfold KS.xy;rw[e1];simp[ptr,j,l]);have o:L.xy i=L.ct:=(by unfold KS.xy;rw[e2];simp[ptr,j,l]);rw[m,o];exact h
theorem CZ.drop (h:CZ c t t' R S K L) (m:i<20):CZ c t t' R S (K.drop i) (L.drop i):=by
 unfold KS.drop;rw[h.desc i m];by_cases e:L.desc i=1
 .rw[rC e,rC e];have b:=h.ef i m;cases e1:K.ef i with
  |none=>
   cases e2:L.ef i with
   |some g=>rw[e1,e2]at b;exact b.elim
   |none=>
    have k:=h.xy m
    exact⟨h.rl,h.rr,k.rd,h.sl,h.sr,h.sd,h.Aw,h.BD,h.core,h.swap,h.nm,h.nl,Lj h.desc rfl,Lj (P:=Ko R) h.ef trivial,Lj (P:=TvR t t' R) h.tv (.inl ⟨rfl,rfl⟩)⟩
  |some f=>
   cases e2:L.ef i with
   |none=>rw[e1,e2]at b;exact b.elim
   |some g=>
    rw[e1,e2]at b
    have d:R f g:=b
    have l:=(h.rd f g d).2
    have j:∀x y,R x y->Ag K.op f (K.op f-1) x=Ag L.op g (L.op g-1) y:=λx y a=>h.upd (P:=Eq) d (h.rd x y a).2 (by rw[l]) a
    exact⟨h.rl,h.rr,λx y a=>⟨(h.rd x y a).1,j x y a⟩,h.sl,h.sr,h.sd,h.Aw,h.BD,h.core,h.swap,h.nm,h.nl.filter λx y a=>by rw[j x y a],Lj h.desc rfl,Lj (P:=Ko R) h.ef trivial,Lj (P:=TvR t t' R) h.tv (.inl ⟨rfl,rfl⟩)⟩
 .rw[ru e,ru e];exact⟨h.rl,h.rr,h.rd,h.sl,h.sr,h.sd,h.Aw,h.BD,h.core,h.swap,h.nm,h.nl,Lj h.desc rfl,h.ef,h.tv⟩
theorem CZ.Kv:∀{l:List Int} {K L:KS},CZ c t t' R S K L->(∀n∈l,n=-1\/∃i:Nat,n=i/\i<20)->CZ c t t' R S (K.Kv l) (L.Kv l)
 |[],_,_,h,_=>h
 |n::l,K,L,h,a=>by
  have b:=CZ.Kv (l:=l) (K:=if n=-1 then K else K.drop n.toNat) (L:=if n=-1 then L else L.drop n.toNat)
  refine b ?_ λm f=>a m (by simp[f])
  split
  .exact h
  .rename_i g;obtain e|⟨i,rfl,d⟩:=a n zF
   .exact ql e g
   .exact h.drop d
theorem CZ.au1 (h:CZ c t t' R S K L) {pid u:Nat} (z:pid=u) (C:bn8 pid K K') (D:bn8 u L L') (E:∀a w r r',a∈K.Aw->w∈K.Aw->K.ps a=some r->K.ps w=some r'->r.pid=r'.pid->a=w):CZ c t t' R S K' L':=by
 subst z;obtain⟨x,x1,rfl⟩:=C;obtain⟨y,o,rfl⟩:=D;obtain rfl:=h.cm1 x1 o E;refine⟨h.rl,h.rr,h.rd,h.sl,h.sr,λk l f=>?_,h.Aw,h.BD,h.core,h.swap,h.nm,h.nl,h.desc,h.ef,h.tv⟩;obtain⟨r,s,e1,e2,b⟩:=h.sd k l f;have j:k∈K.Aw ↔ l∈L.Aw:=by
  constructor
  .intro d;obtain⟨n,q1,i⟩:=h.Aw.zX d;rw[h.sl k l n f i];exact q1
  .intro d;obtain⟨m,q1,i⟩:=h.Aw.aa7 d;rw[h.sr k m l f i];exact q1
 unfold TP;by_cases d:k∈K.Aw
 .have g:=j.1 d;simp only[rC d,rC g,e1,e2,Option.map_some];refine⟨_,_,rfl,rfl,?_⟩;rw[b.par];split
  .exact⟨b.pid,rfl,b.st,b.A,b.B,b.P,b.sw,b.en,b.Af,b.fds,b.co,b.bl⟩
  .exact b
 .have g:l ∉ L.Aw:=λe=>d (j.2 e)
  simp only[ru d,ru g];exact⟨r,s,e1,e2,b⟩
theorem be7 (e:Eu c R r s):Eu c R (EP r st) (EP s st):=⟨e.pid,e.par,rfl,rfl,rfl,rfl,rfl,rfl,rfl,rfl,λ_=>rfl,rfl,λh=>by simp[EP,dK]at h⟩
theorem CZ.end_ (h:CZ c t t' R S K L) (X:S a b) (Y:K.ps a=some r) (hs:L.ps b=some s) (ok:∃NC NS,Eo NC NS K) (Z:ab6 K a r st K') (h2:ab6 L b s st L'):CZ c t t' R S K' L':=by
 obtain⟨NC,NS,ok⟩:=ok;have j:=h.row X Y hs;obtain⟨g,B,z,V,m1,_,rfl,O,G⟩:=Z;obtain⟨o,C,c2,W,m2,_,rfl,D,H⟩:=h2;have I:=CZ.Kv (l:=r.fds) h (ok.pr a r Y).fd;rw[<-j.fds]at D;have v:=I.out X O D;have J:CZ c t t' R S ((g.swap' (BX g.swap r.sw (Ai r.Af.length)) B z).Bi a (EP { r with co:=-1 } st)) ((o.swap' (BX o.swap s.sw (Ai s.Af.length)) C c2).Bi b (EP { s with co:=-1 } st)):=
  CZ.Bi (K:=g.swap' _ B z) (L:=o.swap' _ C c2) (v.maps v.core (by rw[v.swap,j.sw,j.Af])) X (be7 (j.coS λ_=>rfl));refine(J.au1 j.pid G H ?_).Qg;have F:g.Aw=K.Aw:=by rw[m1.Aw];exact Yy.2
 have u:∀k q,g.ps k=some q->∃i,K.ps k=some i/\i.pid=q.pid:=λk q d=>by
  obtain⟨f,M⟩:=m1.ps
  rw[M k,Yy.1]at d
  cases hK:K.ps k with
  |none=>rw[hK]at d;cases d
  |some i=>rw[hK]at d;cases d;exact⟨i,rfl,rfl⟩
 intro x y q i n m N w e;have key:∀k p,(C9 g.ps a (EP { r with co:=-1 } st)) k=some p->∃E,K.ps k=some E/\E.pid=p.pid:=λk p d=>by
  by_cases A:k=a
  .subst A;rw[Aj]at d;cases d;exact⟨r,Y,rfl⟩
  .rw[BH A]at d;exact u k p d
 obtain⟨P,z1,Q⟩:=key x q N;obtain⟨p2,T,U⟩:=key y i w;have n:x∈g.Aw:=n;have m:y∈g.Aw:=m;rw[F]at n m;exact ok.one x P y p2 n m z1 T (by rw[Q,U,e])
end
def FR (R:Nat->Nat->Prop) (f f':n_):Prop:=(f=.nilFunc/\f'=.nilFunc)\/((∃fn ca cb,f=.func fn ca cb)/\(∃fn ca cb,f'=.func fn ca cb)/\BlR R f f')
def IM (c:Bool) (S:Nat->Nat->Prop) (K L:KS) (x y:Nat) (f:n_) (x' y':Nat) (f':n_):Prop:=∃u u' R' S',CZ c u u' R' S' K L/\JK u u' R' K L/\(∀p q,S p q->S' p q)/\x=x'/\y=y'/\FR R' f f'
section
variable {c:Bool} {t t':Tag} {R S:Nat->Nat->Prop} {K L K' L':KS} {a b:Nat} {r s:PR} {x y x' y':Nat} {f f':n_}
theorem IM.same (h:CZ c t t' R S K L) (g:JK t t' R K L):IM c S K L x y .nilFunc x y .nilFunc:=⟨t,t',R,S,h,g,λ_ _ e=>e,rfl,rfl,.inl ⟨rfl,rfl⟩⟩
theorem IM.no (h:CZ c t t' R S K L) (g:JK t t' R K L) (e:GU K n K' x y f) (k:GU L n L' x' y' f'):IM c S K' L' x y f x' y' f':=by
 obtain⟨rfl,rfl,rfl,rfl⟩:=e;obtain⟨rfl,rfl,rfl,rfl⟩:=k;exact IM.same h g
theorem Eu.DZ (e:Eu c R r s) (j:Nat):DZ r j=DZ s j:=by unfold Go.Fxa.DZ;rw[e.Af,e.A]
theorem Eu.has (e:Eu c R r s) (fd:Nat):r.has fd=s.has fd:=by unfold PR.has;rw[e.fds]
theorem Eu.bm7 (g:Eu c R r s) {m:List Int} (e:l=m):Eu c R { r with fds:=l } { s with fds:=m }:=⟨g.pid,g.par,g.st,g.A,g.B,g.P,g.sw,g.en,g.Af,e,g.co,g.bl⟩
theorem Eu.as7 (g:Eu c R r s) {l m:List Nat} (e:l=m):Eu c R { r with Af:=l } { s with Af:=m }:=⟨g.pid,g.par,g.st,g.A,g.B,g.P,g.sw,g.en,e,g.fds,g.co,g.bl⟩
theorem IK.one (g:IK l i) (h:IK l j):i=j:=by
 obtain e|e|e:=Nat.lt_trichotomy i j
 .exact ql g.1 (h.2 i e)
 .exact e
 .exact ql h.1 (g.2 j e)
theorem Least.one (m:∀k,k<20->d k=d' k) (u:i<20) (w:j<20) (g:Least d i) (h:Least d' j):i=j:=by
 obtain e|e|e:=Nat.lt_trichotomy i j
 .exact ql ((m i u).symm.trans g.1) (h.2 i e)
 .exact e
 .exact ql ((m j w).trans h.1) (g.2 j e)
theorem Vf (h:r.fds[fd]?=some (i:Int)):r.has fd=true:=by
 unfold PR.has;rw[h];simp
theorem Rh (h:IK l j):DC l≠0:=by
 unfold DC;have:(-1:Int)∈l.filter SN:=List.mem_filter.2 ⟨t_ h.1,rfl⟩;intro e;rw[List.eq_nil_of_length_eq_zero e]at this;cases this
theorem Wj (h:∀k,k<20->d k=d' k):Ff d 20=Ff d' 20:=by
 unfold Ff
 congr 1
 refine List.filter_congr λi a=>?_
 rw[h i (List.mem_range.1 a)]
theorem ώ (h:CZ c t t' R S K L) (g:JK t t' R K' L') (z:JK t t' R K L) (w:S a b) (k:Eu c R r s) (m:Vo K a r fd K' x y f) (u:Vo L b s fd L' x' y' f'):IM c S K' L' x y f x' y' f':=by
 obtain⟨d,m⟩|⟨i,d,p2,rfl,rfl,rfl,rfl⟩:=m<;>obtain⟨q1,u⟩|⟨j,q1,e,rfl,rfl,rfl,rfl⟩:=u
 .exact IM.no h z m u
 .rw[k.has,Vf q1]at d;cases d
 .rw[<-k.has,Vf d]at q1;cases q1
 .rw[<-k.fds,d]at q1;obtain rfl:i=j:=by injection q1 with q1;exact Int.ofNat.inj q1
  exact IM.same (CZ.Bi (h.drop p2) w (k.bm7 (by rw[k.fds]))) g
theorem bc7 (h:CZ c t t' R S K L) (g:JK t t' R K' L') (B:JK t t' R K L) (A:S a b) (u:Eu c R r s) (w:zZ K a r fd K' x y f) (z:zZ L b s fd L' x' y' f'):IM c S K' L' x y f x' y' f':=by
 obtain⟨d,w⟩|⟨d,p2,w⟩|⟨i,j,d,p2,p3,rfl,rfl,rfl,rfl⟩:=w<;>obtain⟨q1,z⟩|⟨q1,e,z⟩|⟨l,m,q1,e,k,rfl,rfl,rfl,rfl⟩:=z
 .exact IM.no h B w z
 .rw[u.has,q1]at d;cases d
 .rw[u.has,Vf q1]at d;cases d
 .rw[u.has,q1]at d;cases d
 .exact IM.no h B w z
 .rw[u.fds]at p2;exact ql p2 (Rh k)
 .rw[<-u.has,Vf d]at q1;cases q1
 .rw[<-u.fds]at e;exact ql e (Rh p3)
 .rw[<-u.fds]at q1 k;obtain rfl:=p3.one k;rw[d]at q1;obtain rfl:i=l:=by injection q1 with q1;exact Int.ofNat.inj q1
  refine IM.same (CZ.Bi (K:={ K with desc:=_ }) (L:={ L with desc:=_ }) ⟨h.rl,h.rr,h.rd,h.sl,h.sr,h.sd,h.Aw,h.BD,h.core,h.swap,h.nm,h.nl,Lj h.desc (by rw[h.desc i p2]),h.ef,h.tv⟩ A (u.bm7 (by rw[u.fds]))) g
theorem ry {G J:Nat->Nat->KS->Nat->Nat->n_->Prop} {H I M N:Nat->KS->Nat->Nat->n_->Prop} (h:CZ c t t' R S K L) (O:JK t t' R K L) (F:Eu c R r s) (D:XFd K r fd G H I K' x y f) (E:XFd L s fd J M N L' x' y' f')
  (P:∀e C k k',R e C->(t e).1=12->R k k'->G e k K' x y f->J C k' L' x' y' f'->IM c S K' L' x y f x' y' f') (fr:∀e C,R e C->R (K.ct e).n (L.ct C).n->H e K' x y f->M C L' x' y' f'->IM c S K' L' x y f x' y' f') (Q:∀e C,R e C->R (K.ct e).n (L.ct C).n->I e K' x y f->N C L' x' y' f'->IM c S K' L' x y f x' y' f'):IM c S K' L' x y f x' y' f':=by
 obtain⟨l,D⟩|⟨i,l,p2,D⟩:=D<;>obtain⟨q1,E⟩|⟨j,q1,B,E⟩:=E
 .exact IM.no h O D E
 .rw[F.has,Vf q1]at l;cases l
 .rw[<-F.has,Vf l]at q1;cases q1
 .rw[<-F.fds,l]at q1;obtain rfl:i=j:=by injection q1 with q1;exact Int.ofNat.inj q1
  have z:=h.tv i p2;have key:∀{u v e C:Nat},K.tv i=.iface u (ptr e)->L.tv i=.iface v (ptr C)->u=v/\R e C:=fun {u v e C} D E=>by
   obtain⟨z1,o⟩|⟨w,a,b,z1,o,A,_⟩:=z
   .rw[D]at z1;cases z1
   .rw[D]at z1;rw[E]at o;cases z1;cases o;exact⟨rfl,A⟩
  obtain⟨e,k,v1,v2,D⟩|⟨e,v1,v2,D⟩|⟨e,v1,v2,D⟩:=D<;>obtain⟨C,k',w1,w2,E⟩|⟨C,w1,w2,E⟩|⟨C,w1,w2,E⟩:=E<;>obtain⟨q,g⟩:=key v1 w1<;>try (exfalso;revert q;decide)
  all_goals
   obtain⟨⟨d,_⟩,p,_⟩:=O e C g
   have m:=(h.rd e C g).1
   rw[v2]at d
   rw[w2]at p
  .have:=m.f (by rw[<-d]);rw[<-d,<-p]at this;exact P e C k k' g (by rw[<-d]) this D E
  .exact fr e C g (m.e (.inl (by rw[<-d]))) D E
  .exact Q e C g (m.e (.inr (by rw[<-d]))) D E
theorem IM.bl (h:CZ c t t' R S K L) (g:JK t t' R K L) (k:R p q):IM c S K L x y (.func (.func n) #[ptr p] #[]) x y (.func (.func n) #[ptr q] #[]):=
 ⟨t,t',R,S,h,g,λ_ _ e=>e,rfl,rfl,.inr ⟨⟨_,_,_,rfl⟩,⟨_,_,_,rfl⟩,rfl,λ_=>k⟩⟩
theorem CZ.qV (h:CZ c t t' R S K L) {T2:Tag} (e:R a b) (g:Ϯ R (t a) (t' b) c1 c2):CZ c t t' R S { K with T:=T1,ct:=Ag K.ct a c1 } { L with T:=T2,ct:=Ag L.ct b c2 }:=CZ.tags (h.ah e g)
theorem Χ (h:CZ c t t' R S K L) (e:R p q):(K.ct p).starved=(L.ct q).starved:=by
 have:=(h.rd p q e).1;unfold Ct.starved;rw[this.ws,this.y]
theorem ϡ (h:CZ c t t' R S K L) (e:R p q):(K.ct p).Jr=(L.ct q).Jr:=by
 have:=(h.rd p q e).1;unfold Ct.Jr;rw[this.ws,this.x]
theorem an7 {w:Nat} (h:CZ c t t' R S K L) (g:JK t t' R K' L') (u:JK t t' R K L) (B:Eu c R r s) (z:aC K r fd w K' x y f) (A:aC L s fd w L' x' y' f'):IM c S K' L' x y f x' y' f':=by
 refine ry h u B z A ?_ (λ_ _ _ _ z1 b=>IM.no h u z1 b) (λ_ _ _ _ z1 b=>IM.no h u z1 b);rintro e l k p d n _ ⟨o,i,z1,rfl⟩ ⟨T2,j,b,rfl⟩;obtain⟨m,rfl,rfl,rfl,rfl⟩|⟨m,rfl,rfl,rfl,rfl⟩:=z1<;>obtain⟨q1,rfl,rfl,rfl,rfl⟩|⟨q1,rfl,rfl,rfl,rfl⟩:=b
 .exact IM.same h.tags g
 .omega
 .omega
 .have a:=(h.rd e l d).1;exact IM.same (CZ.qV h d ⟨a.k,a.f,a.ws,a.x,a.y,λ_ _=>rfl,λe=>by rw[n]at e;omega⟩) g
theorem an8 (h:CZ c t t' R S K L) (g:JK t t' R K' L') (P:JK t t' R K L) (M:S a b) (J:Eu c R r s) (N:aF K a r fd at_ n K' x y f) (O:aF L b s fd at_ n L' x' y' f'):IM c S K' L' x y f x' y' f':=by
 obtain⟨i,N⟩|⟨i,N⟩:=N<;>obtain⟨q1,O⟩|⟨q1,O⟩:=O
 .exact IM.no h P N O
 .rw[<-J.Af]at q1;exact ql q1 i
 .rw[<-J.Af]at q1;exact ql i q1
 refine ry h P J N O ?_ ?_ (λ_ _ _ _ z1 A=>IM.no h P z1 A)
 .rintro e C k G w z q ⟨u,o,⟨H,I,rfl,rfl,rfl⟩,rfl⟩ ⟨v,p,⟨v1,v2,rfl,rfl,rfl⟩,rfl⟩;have l:=(h.rd e C w).1;have F:=(h.rd k G q).1;have D:=l.n (by rw[z];omega) (by rw[z];omega);rw[<-F.ws,<-D]at v1 v2;obtain rfl:x=x':=H.trans v1.symm;refine IM.same (CZ.Bi (CZ.ah h w ⟨l.k,l.f,l.ws,l.x,l.y,λ_ _=>congrArg (·+x) D,λe=>by rw[z]at e;omega⟩) M (J.as7 ?_)) g;rw[I,v2,J.Af]
 .rintro e C w d ⟨u,o,z1,rfl⟩ ⟨v,p,A,rfl⟩;have j:=(h.rd _ _ d).1;have B:=Χ h d;obtain⟨i,p2,rfl,rfl,rfl,rfl,rfl⟩|⟨i,p2,p3,rfl,rfl,rfl⟩:=z1<;>obtain⟨q1,m,rfl,rfl,rfl,rfl,rfl⟩|⟨q1,m,E,rfl,rfl,rfl⟩:=A
  .exact IM.bl (CZ.Bi h M (J.as7 J.Af)) g d
  .obtain q1|q1:=q1
   .omega
   .rw[B,q1]at p2;cases p2
  .obtain i|i:=i
   .omega
   .rw[<-B,i]at m;cases m
  .rw[<-j.ws]at m E;obtain rfl:x=x':=p2.trans m.symm;refine IM.same (CZ.Bi (CZ.ah h d ⟨j.k,j.f,congrArg (List.drop x) j.ws,j.x,j.y,j.n,j.e⟩) M (J.as7 ?_)) g;rw[p3,E,J.Af]
theorem ύ {k k':Nat} (h:CZ c t t' R S K L) (g:R k k'):K.Gw k n ↔ L.Gw k' n:=by
 have e:∀p q,R p q->(K.ct p).ws.length=(L.ct q).ws.length:=λp q d=>by rw[(h.rd p q d).1.ws]
 have e1:Np (λb=>(K.ct b).ws.length) K.nm K.nl=Np (λb=>(L.ct b).ws.length) L.nm L.nl:=by
  unfold Np
  congr 1
  .refine BO λi _=>?_
   have:=h.nm i;cases e1:K.nm i<;>cases e2:L.nm i<;>rw[e1,e2]at this
   .rw[O7 e1,O7 e2]
   .exact this.elim
   .exact this.elim
   .rw[QE e1,QE e2,e _ _ this]
  .have key:∀{l m:List Nat},LR R l m->BK (λb=>Ai (K.ct b).ws.length) l=BK (λb=>Ai (L.ct b).ws.length) m:=fun {l}=>by
    induction l with
    |nil=>intro m a;cases m with
     |nil=>rfl
     |cons _ _=>exact a.elim
    |cons p l f=>intro m a;cases m with
     |nil=>exact a.elim
     |cons q m=>simp only[BK];rw[e p q a.1,f a.2]
   exact key h.nl
 unfold KS.Gw;rw[e1,e k k' g]
theorem ό (h:CZ c t t' R S K L) (g:JK t t' R K' L') (O:JK t t' R K L) (N:Eu c R r s) (J:Vm K r fd at_ n K' x y f) (M:Vm L s fd at_ n L' x' y' f'):IM c S K' L' x y f x' y' f':=by
 obtain⟨a,J⟩|⟨a,J⟩:=J<;>obtain⟨q1,M⟩|⟨q1,M⟩:=M
 .exact IM.no h O J M
 .rw[<-N.Af]at q1;exact ql q1 a
 .rw[<-N.Af]at q1;exact ql a q1
 refine ry h O N J M ?_ (λ_ _ _ _ z1 p=>IM.no h O z1 p) ?_
 .rintro e z k D u A m ⟨E,v,⟨rfl,z1⟩,rfl⟩ ⟨T2,w,⟨rfl,p⟩,rfl⟩;have F:=(h.rd e z u).1;have l:=(h.rd k D m).1;have G:=F.n (by rw[A];omega) (by rw[A];omega);have C:=ύ (n:=max (K.ct k).ws.length ((K.ct e).n+n)) h m;rw[<-l.ws,<-G]at p;obtain⟨a,rfl,rfl,rfl⟩|⟨a,⟨p2,rfl,rfl,rfl⟩|⟨p2,⟨p3,rfl,rfl,rfl⟩|⟨p3,H,rfl,rfl⟩⟩⟩:=z1<;>obtain⟨q1,rfl,rfl,rfl⟩|⟨q1,⟨o,rfl,rfl,rfl⟩|⟨o,⟨j,rfl,rfl,rfl⟩|⟨j,I,rfl,rfl⟩⟩⟩:=p<;>first|(exfalso;omega)|exact ql (C.1 p3) j|exact ql (C.2 j) p3|exact IM.same h.tags g|skip
  rw[H,I];have B:=h.ah (c1:={ K.ct k with ws:=RP ((K.ct k).ws++List.replicate ((K.ct e).n+n-(K.ct k).ws.length) 0) (K.ct e).n ((r.Af.drop at_).take n) }) (c2:={ L.ct D with ws:=RP ((K.ct k).ws++List.replicate ((K.ct e).n+n-(K.ct k).ws.length) 0) (K.ct e).n ((s.Af.drop at_).take n) }) m ⟨l.k,l.f,by simp only[N.Af],l.x,l.y,l.n,l.e⟩;have d:=(B.rd e z u).1;exact IM.same (CZ.qV B u ⟨d.k,d.f,d.ws,d.x,d.y,λ_ _=>rfl,λe=>by rw[A]at e;omega⟩) g
 .rintro e z u i ⟨E,v,z1,rfl⟩ ⟨T2,w,p,rfl⟩;have b:=(h.rd _ _ i).1;have q:=ϡ h i;obtain⟨a,rfl,rfl,rfl,rfl⟩|⟨a,p2,p3,rfl,rfl,rfl,rfl⟩|⟨a,p2,p3,rfl,rfl,rfl⟩:=z1<;>obtain⟨q1,rfl,rfl,rfl,rfl⟩|⟨q1,o,j,rfl,rfl,rfl,rfl⟩|⟨q1,o,j,rfl,rfl,rfl⟩:=p
  .exact IM.same h.tags g
  .rw[b.x,q1]at a;cases a
  .rw[b.x,q1]at a;cases a
  .rw[b.x,q1]at a;cases a
  .exact IM.bl h.tags g i
  .obtain o|o:=o
   .omega
   .rw[q,o]at p3;cases p3
  .rw[b.x,q1]at a;cases a
  .obtain p2|p2:=p2
   .omega
   .rw[<-q,p2]at j;cases j
  .rw[<-b.ws]at j;obtain rfl:x=x':=p3.trans j.symm;exact IM.same (CZ.qV h i ⟨b.k,b.f,by show _++_=_++_;rw[b.ws,N.Af],b.x,b.y,b.n,b.e⟩) g
theorem an5 (h:CZ c t t' R S K L) (g:JK t t' R K' L') (J:JK t t' R K L) (G:S a b) (M:K.ps a=some r) (N:L.ps b=some s) (H:az K a r at_ K' x y f) (I:az L b s at_ L' x' y' f'):IM c S K' L' x y f x' y' f':=by
 have i:=h.row G M N;have u:=h.parent r.pid;have o:=h.RI r.pid;obtain⟨v,H⟩|⟨v,⟨p2,H⟩|⟨p2,⟨p3,rfl,rfl,⟨E,F,rfl⟩,D,rfl⟩|⟨k,w,p3,p4,rfl,rfl,rfl,rfl⟩⟩⟩:=H<;>obtain⟨q1,I⟩|⟨q1,⟨n,I⟩|⟨n,⟨q,rfl,rfl,⟨v1,v2,rfl⟩,T2,rfl⟩|⟨l,z,q,C,rfl,rfl,rfl,rfl⟩⟩⟩:=I
 all_goals first
  |(exfalso;rw[i.Af]at v;omega)
  |(exfalso;rw[<-i.pid]at n;exact p2 (u.2 n))
  |(exfalso;rw[<-i.pid]at n;exact n (u.1 p2))
  |exact IM.no h J H I
  |(rw[<-i.pid]at q;rw[p3,q]at o)
 .exact⟨t,t',R,S,h.tags,g,λ_ _ e=>e,rfl,rfl,.inr ⟨⟨_,_,_,rfl⟩,⟨_,_,_,rfl⟩,rfl,λe=>by simp[dK]at e⟩⟩
 .exact o.elim
 .exact o.elim
 .have j:S k l:=o;have d:=h.row j p4 C;have p:Eu c R { w with par:=0 } { z with par:=0 }:=⟨d.pid,rfl,d.st,d.A,d.B,d.P,d.sw,d.en,d.Af,d.fds,d.co,d.bl⟩;exact⟨t,t',R,S,((h.Bi G (i.as7 (l:=r.Af.set at_ w.st) (m:=s.Af.set at_ z.st) (by rw[i.Af,d.st]))).Bi j p).Qg,g,λ_ _ e=>e,d.pid,rfl,.inl ⟨rfl,rfl⟩⟩
theorem yS {Af:List Nat} (h:CZ c t t' R S K L) (w:S a b) (D:K.ps a=some r) (E:L.ps b=some s) (z:ZI K a r Af K') (C:ZI L b s Af L'):CZ c t t' R S K' L':=by
 have d:=h.row w D E;obtain⟨a1,e,m,l,k,v1,j,p2,p3⟩:=z;obtain⟨a2,f,n,c2,T2,v2,q1,q,u⟩:=C;have o:CZ c t t' R S { K with swap:=(Aq K.swap (Ai Af.length)).2 } { L with swap:=(Aq L.swap (Ai Af.length)).2 }:=⟨h.rl,h.rr,h.rd,h.sl,h.sr,h.sd,h.Aw,h.BD,h.core,by rw[h.swap],h.nm,h.nl,h.desc,h.ef,h.tv⟩;have g:=o.out w p2 q;rw[h.swap,q1]at j;cases j;have i:Eu c R { r with co:=-1,sw:=a1,im:=v1,Af:=Af } { s with co:=-1,sw:=a1,im:=v2,Af:=Af }:=⟨d.pid,d.par,d.st,d.A,d.B,d.P,rfl,d.en,rfl,d.fds,λ_=>rfl,d.bl⟩;have p:CZ c t t' R S { (e.swap' (BX e.swap r.sw (Ai r.Af.length)) m l)with T:=k } { (f.swap' (BX f.swap s.sw (Ai s.Af.length)) n c2)with T:=T2 }:=g.maps g.core (by show BX e.swap r.sw _=BX f.swap s.sw _;rw[g.swap,d.sw,d.Af]);exact CZ.in_ (p.Bi w i) w p3 u
theorem ao3 (h:CZ c t t' R S K L) (g:JK t t' R K' L') (C:JK t t' R K L) (z:S a b) (A:K.ps a=some r) (B:L.ps b=some s) (w:XK K a r n K' x y f) (u:XK L b s n L' x' y' f'):IM c S K' L' x y f x' y' f':=by
 have k:=h.row z A B;have l:∀{d:List Nat} {K':KS},ZI K a r d K'->(Aq K.swap (Ai d.length)).1≠none:=λ⟨_,_,_,_,_,_,e,_⟩=>by rw[e];simp
 have j:∀{d:List Nat} {L':KS},ZI L b s d L'->(Aq L.swap (Ai d.length)).1≠none:=λ⟨_,_,_,_,_,_,e,_⟩=>by rw[e];simp
 unfold XK at w u;rw[<-k.Af]at u;obtain⟨m,w⟩|⟨m,⟨p2,w⟩|⟨rfl,rfl,rfl,p2⟩⟩:=w<;>obtain⟨q1,u⟩|⟨q1,⟨i,u⟩|⟨rfl,rfl,rfl,i⟩⟩:=u
 all_goals first
  |(exfalso;omega)
  |exact IM.no h C w u
  |(exfalso;rw[h.swap]at p2;exact j i p2)
  |(exfalso;rw[<-h.swap]at i;exact l p2 i)
  |exact IM.same (yS h z A B p2 i) g
theorem ao5 (h:CZ c t t' R S K L) (g:JK t t' R K' L') (T:JK t t' R K L) (Q:S a b) (U:K.ps a=some r) (V:L.ps b=some s) (O:aH K a r n K' x y f) (P:aH L b s n L' x' y' f'):IM c S K' L' x y f x' y' f':=by
 have C:∀{i:List Nat} {K':KS},ZI K a r i K'->(Aq K.swap (Ai i.length)).1≠none:=λ⟨_,_,_,_,_,_,e,_⟩=>by rw[e];simp
 have m:∀{i:List Nat} {L':KS},ZI L b s i L'->(Aq L.swap (Ai i.length)).1≠none:=λ⟨_,_,_,_,_,_,e,_⟩=>by rw[e];simp
 have l:=h.nm n;obtain⟨u,z,H,p2,p3,O⟩|⟨u,p2,O⟩|⟨u,O⟩:=O<;>obtain⟨q1,w,p,v,F,P⟩|⟨q1,v,P⟩|⟨q1,P⟩:=P
 all_goals first
  |(exfalso;omega)
  |exact IM.no h T O P
  |rw[p2,v]at l
 .have D:=(h.rd z w l).1.ws;obtain rfl:H=p:=p3.symm.trans (D.trans F);obtain⟨p4,O⟩|⟨p4,⟨j,O⟩|⟨rfl,rfl,rfl,I,M,j,E,rfl⟩⟩:=O<;>obtain⟨o,P⟩|⟨o,⟨k,P⟩|⟨rfl,rfl,rfl,J,N,k,G,rfl⟩⟩:=P
  all_goals first
   |exact ql p4 o
   |exact ql o p4
   |exact IM.no h T O P
   |(exfalso;rw[h.swap]at j;exact m k j)
   |(exfalso;rw[<-h.swap]at k;exact C j k)
   |skip
  have q:=yS h Q U V j k;have d:=q.row Q E G;exact IM.same (q.Bi Q ⟨d.pid,d.par,d.st,d.A,d.B,rfl,d.sw,d.en,d.Af,d.fds,d.co,d.bl⟩) g
 .exact l.elim
 .exact l.elim
theorem vS (h:CZ c t t' R S K L) (g:JK t t' R K' L') (z:JK t t' R K L) (u:Q4 K n K' x y f) (w:Q4 L n L' x' y' f'):IM c S K' L' x y f x' y' f':=by
 have a:=h.nm n;obtain⟨d,k,p2,rfl,rfl,rfl,m,rfl⟩|⟨d,p2,u⟩|⟨d,u⟩:=u<;>obtain⟨q1,j,e,rfl,rfl,rfl,T2,rfl⟩|⟨q1,e,w⟩|⟨q1,w⟩:=w
 all_goals first
  |(exfalso;omega)
  |exact IM.no h z u w
  |rw[p2,e]at a
 .have l:R k j:=a;refine IM.same ⟨h.rl,h.rr,h.rd,h.sl,h.sr,h.sd,h.Aw,h.BD,h.core,h.swap,λi=>?_,LR.filter (λp q b=>by rw[(h.rd p q b).2]) (LR.app (LR.one l) h.nl),h.desc,h.ef,h.tv⟩ g;show Ko R (Ag K.nm n none i) (Ag L.nm n none i);unfold Ag;split
  .trivial
  .exact h.nm i
 .exact a.elim
 .exact a.elim
theorem BlR.mono (h:∀p q,R p q->R' p q) (g:BlR R v v'):BlR R' v v':=⟨g.1,λe=>h _ _ (g.2 e)⟩
theorem Eu.mono (h:∀p q,R p q->R' p q) (e:Eu c R r s):Eu c R' r s:=⟨e.pid,e.par,e.st,e.A,e.B,e.P,e.sw,e.en,e.Af,e.fds,e.co,e.bl.mono h⟩
theorem ao4 (h:CZ c t t' R S K L) (g:JK t t' R K' L') (g0:JK t t' R K L) (hR:Eu c R r s) (h1:xR K r K' x y f) (h2:xR L s L' x' y' f'):IM c S K' L' x y f x' y' f':=by
 have M:=h.Aw.len;have E:∀{q:PR} {b:KS} {p:Nat},Child K b p r q->(Aq K.swap (Ai r.Af.length)).1≠none:=λk=>by rw[<-k.Af,k.sw];simp
 have C:∀{q:PR} {d:KS} {p:Nat},Child L d p s q->(Aq L.swap (Ai s.Af.length)).1≠none:=λk=>by rw[<-k.Af,k.sw];simp
 obtain⟨l,h1⟩|⟨l,p2,⟨T1,rfl⟩,rfl,rfl,rfl⟩|⟨l,p,q,b,d1,p2,p3,p4,rfl,rfl,rfl,rfl⟩:=h1<;>obtain⟨q1,h2⟩|⟨q1,w,⟨T2,rfl⟩,rfl,rfl,rfl⟩|⟨q1,o,m,d,d2,w,a,Y,rfl,rfl,rfl,rfl⟩:=h2
 all_goals first
  |exact IM.no h g0 h1 h2
  |(exfalso;rw[M,h.BD]at l;exact q1 l)
  |(exfalso;rw[M,h.BD]at l;exact l q1)
  |exact IM.same h.tags g
  |(exfalso;rw[h.swap,hR.Af]at p2;exact C a p2)
  |(exfalso;rw[<-h.swap,<-hR.Af]at w;exact E p3 w)
  |skip
 have J:q.pid=m.pid:=by rw[p3.pid,a.pid,h.BD]
 have G:q.Af=m.Af:=by rw[p3.Af,a.Af,hR.Af]
 have X:q.sw=m.sw:=by
  have e1:=p3.sw
  have e2:=a.sw
  rw[h.swap,G,e2]at e1
  exact(x_ e1).symm
 have W:Eu c R q m:=⟨J,by rw[p3.par,a.par,hR.pid],by rw[p3.st,a.st],by rw[p3.A,a.A],by rw[p3.B,a.B],by rw[p3.P,a.P,hR.P],X,by rw[p3.en,a.en],G,by rw[p3.fds,a.fds,hR.fds],λ_=>by rw[p3.co,a.co],by rw[p3.bl,a.bl];exact⟨rfl,λe=>by simp[dK]at e⟩⟩;have H:∀z,¬S p z:=λz F=>by obtain⟨_,_,e,_⟩:=h.sd p z F;rw[p2]at e;cases e
 have I:∀z,¬S z o:=λz F=>by obtain⟨_,_,_,e,_⟩:=h.sd z o F;rw[w]at e;cases e
 have e1:=p3.eq;have e2:=a.eq;refine⟨t,t',R,λu v=>S u v\/(u=p/\v=o),?_,g,λ_ _ e=>.inl e,J,rfl,.inl ⟨rfl,rfl⟩⟩;have Q:b.Aw=K.Aw++[p]:=by rw[e1]
 have T:d.Aw=L.Aw++[o]:=by rw[e2]
 have U:b.ps=C9 K.ps p q:=by rw[e1]
 have V:d.ps=C9 L.ps o m:=by rw[e2]
 refine⟨h.rl,h.rr,?_,?_,?_,?_,?_,?_,?_,?_,?_,?_,?_,?_,?_⟩
 .rw[e1,e2];exact h.rd
 .rintro u v O (j|⟨rfl,rfl⟩) (n|⟨e,rfl⟩)
  .exact h.sl u v O j n
  .subst e;exact ql j (H v)
  .exact ql n (H O)
  .rfl
 .rintro u N v (j|⟨rfl,rfl⟩) (n|⟨rfl,e⟩)
  .exact h.sr u N v j n
  .subst e;exact ql j (I u)
  .exact ql n (I N)
  .rfl
 .show ∀u v,_->∃r s,b.ps u=some r/\d.ps v=some s/\_;rw[U,V];rintro u v (j|⟨rfl,rfl⟩)
  .obtain⟨Z,rv,z1,z2,z3⟩:=h.sd u v j;exact⟨Z,rv,(BH (λe=>by subst e;exact H v j)).trans z1,(BH (λe=>by subst e;exact I u j)).trans z2,z3⟩
  .exact⟨q,m,Aj,Aj,W⟩
 .show LR _ b.Aw d.Aw;rw[Q,T];exact LR.app (LR.one (.inr ⟨rfl,rfl⟩)) (LR.mono (λ_ _ e=>.inl e) h.Aw)
 .show b.BD=d.BD;rw[e1,e2];show K.BD+1=L.BD+1;rw[h.BD]
 .intro k;show b.core=d.core;rw[e1,e2];exact h.core k
 .show b.swap=d.swap;rw[e1,e2];show(Aq K.swap _).2=(Aq L.swap _).2;rw[h.swap,G]
 .show ∀i,Ko R (b.nm i) (d.nm i);rw[e1,e2];exact h.nm
 .show LR R b.nl d.nl;rw[e1,e2];exact h.nl
 .intro i D;show d1 i=d2 i;rw[p4 i D,Y i D,h.desc i D,hR.fds]
 .show ∀i,i<20->Ko R (b.ef i) (d.ef i);rw[e1,e2];exact h.ef
 .show ∀i,i<20->TvR t t' R (b.tv i) (d.tv i);rw[e1,e2];exact h.tv
end
end Go.Fxa
