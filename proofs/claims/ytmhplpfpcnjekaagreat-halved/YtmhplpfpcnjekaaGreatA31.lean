/- Two kernels that -/
import Derived.Test.YtmhplpfpcnjekaaGreatA30
namespace Go.Fxa
open Go.Conc Go.Proofs Go.RowKit
set_option maxRecDepth 1000000
set_option maxHeartbeats 0
variable {n p q fd at_ p' i call:Nat}{c1 c2:Ct}{R':Nat->Nat->Prop}{v v':n_}{k k':Nat×Nat}{d:Nat->Nat}{P:Prop}{ev ev':List Ev}
section
variable {c:Bool}{t t':Tag}{R S:Nat->Nat->Prop}{K L K' L':KS}{a b:Nat}{r s:PR}{x y x' y':Nat}{f f':n_}
theorem IW.bl (h:CJ c t t' R S K L)(g:Jo t t' R K L)(j:R p q):IW c S K L x y (.func (.func n) #[ptr p] #[]) x y (.func (.func n) #[ptr q] #[]):=
 ⟨t,t',R,S,h,g,λ_ _ e=>e,rfl,rfl,.inr ⟨⟨_,_,_,rfl⟩,⟨_,_,_,rfl⟩,rfl,λ_=>j⟩⟩
theorem CJ.um (h:CJ c t t' R S K L){T1 T2:Tag}(e:R a b)(hC:CtR R (t a) (t' b) c1 c2):CJ c t t' R S {K with T:=T1,ct:=Ah K.ct a c1} {L with T:=T2,ct:=Ah L.ct b c2}:=CJ.tags (h.di e hC)
theorem Ϧ (h:CJ c t t' R S K L)(e:R p q):(K.ct p).starved=(L.ct q).starved:=by
 have:=(h.rd p q e).1;unfold Ct.starved;rw[this.ws,this.y]
theorem ac4 (h:CJ c t t' R S K L)(e:R p q):(K.ct p).JE=(L.ct q).JE:=by
 have:=(h.rd p q e).1;unfold Ct.JE;rw[this.ws,this.x]
theorem ar8 {w:Nat}(h:CJ c t t' R S K L)(g:Jo t t' R K' L')(u:Jo t t' R K L)(hR:Ep c R r s)(z:dK K r fd w K' x y f)(A:dK L s fd w L' x' y' f'):IW c S K' L' x y f x' y' f':=by
 refine uD h u hR z A ?_ (λ_ _ _ _ z1 b=>IW.no h u z1 b) (λ_ _ _ _ z1 b=>IW.no h u z1 b);rintro e l k p d n _ ⟨o,i,z1,rfl⟩ ⟨T2,j,b,rfl⟩;obtain⟨m,rfl,rfl,rfl,rfl⟩|⟨m,rfl,rfl,rfl,rfl⟩:=z1<;>obtain⟨q1,rfl,rfl,rfl,rfl⟩|⟨q1,rfl,rfl,rfl,rfl⟩:=b
 .exact IW.same h.tags g
 .omega
 .omega
 .have a:=(h.rd e l d).1;exact IW.same (CJ.um h d ⟨a.k,a.f,a.ws,a.x,a.y,λ_ _=>rfl,λe=>by rw[n]at e;omega⟩) g
theorem ar9 (h:CJ c t t' R S K L)(g:Jo t t' R K' L')(O:Jo t t' R K L)(J:S a b)(hR:Ep c R r s)(M:dL K a r fd at_ n K' x y f)(N:dL L b s fd at_ n L' x' y' f'):IW c S K' L' x y f x' y' f':=by
 obtain⟨i,M⟩|⟨i,M⟩:=M<;>obtain⟨q1,N⟩|⟨q1,N⟩:=N
 .exact IW.no h O M N
 .rw[<-hR.Af]at q1;exact qx q1 i
 .rw[<-hR.Af]at q1;exact qx i q1
 refine uD h O hR M N ?_ ?_ (λ_ _ _ _ z1 A=>IW.no h O z1 A)
 .rintro e C k G w z q ⟨u,o,⟨H,I,rfl,rfl,rfl⟩,rfl⟩ ⟨v,p,⟨v1,v2,rfl,rfl,rfl⟩,rfl⟩;have l:=(h.rd e C w).1;have F:=(h.rd k G q).1;have D:=l.n (by rw[z];omega) (by rw[z];omega);rw[<-F.ws,<-D]at v1 v2;obtain rfl:x=x':=H.trans v1.symm;refine IW.same (CJ.Bj (CJ.di h w ⟨l.k,l.f,l.ws,l.x,l.y,λ_ _=>congrArg (·+x) D,λe=>by rw[z]at e;omega⟩) J (hR.ax2 ?_)) g;rw[I,v2,hR.Af]
 .rintro e C w d ⟨u,o,z1,rfl⟩ ⟨v,p,A,rfl⟩;have j:=(h.rd _ _ d).1;have B:=Ϧ h d;obtain⟨i,p2,rfl,rfl,rfl,rfl,rfl⟩|⟨i,p2,p3,rfl,rfl,rfl⟩:=z1<;>obtain⟨q1,m,rfl,rfl,rfl,rfl,rfl⟩|⟨q1,m,E,rfl,rfl,rfl⟩:=A
  .exact IW.bl (CJ.Bj h J (hR.ax2 hR.Af)) g d
  .obtain q1|q1:=q1
   .omega
   .rw[B,q1]at p2;cases p2
  .obtain i|i:=i
   .omega
   .rw[<-B,i]at m;cases m
  .rw[<-j.ws]at m E;obtain rfl:x=x':=p2.trans m.symm;refine IW.same (CJ.Bj (CJ.di h d ⟨j.k,j.f,congrArg (List.drop x) j.ws,j.x,j.y,j.n,j.e⟩) J (hR.ax2 ?_)) g;rw[p3,E,hR.Af]
theorem aa4 {k k':Nat}(h:CJ c t t' R S K L)(g:R k k'):K.GI k n ↔ L.GI k' n:=by
 have e:∀p q,R p q->(K.ct p).ws.length=(L.ct q).ws.length:=λp q d=>by rw[(h.rd p q d).1.ws]
 have e1:Nv (λb=>(K.ct b).ws.length) K.nm K.nl=Nv (λb=>(L.ct b).ws.length) L.nm L.nl:=by
  unfold Nv
  congr 1
  .refine BU λi _=>?_
   have:=h.nm i;cases e1:K.nm i<;>cases e2:L.nm i<;>rw[e1,e2]at this
   .rw[Py e1,Py e2]
   .exact this.elim
   .exact this.elim
   .rw[QY e1,QY e2,e _ _ this]
  .have key:∀{l m:List Nat},LR R l m->BP (λb=>Aj (K.ct b).ws.length) l=BP (λb=>Aj (L.ct b).ws.length) m:=fun {l}=>by
    induction l with
    |nil=>intro m a;cases m with
     |nil=>rfl
     |cons _ _=>exact a.elim
    |cons p l f=>intro m a;cases m with
     |nil=>exact a.elim
     |cons q m=>simp only[BP];rw[e p q a.1,f a.2]
   exact key h.nl
 unfold KS.GI;rw[e1,e k k' g]
theorem aa3 (h:CJ c t t' R S K L)(g:Jo t t' R K' L')(N:Jo t t' R K L)(hR:Ep c R r s)(J:VX K r fd at_ n K' x y f)(M:VX L s fd at_ n L' x' y' f'):IW c S K' L' x y f x' y' f':=by
 obtain⟨a,J⟩|⟨a,J⟩:=J<;>obtain⟨q1,M⟩|⟨q1,M⟩:=M
 .exact IW.no h N J M
 .rw[<-hR.Af]at q1;exact qx q1 a
 .rw[<-hR.Af]at q1;exact qx a q1
 refine uD h N hR J M ?_ (λ_ _ _ _ z1 p=>IW.no h N z1 p) ?_
 .rintro e z k D u A m ⟨E,v,⟨rfl,z1⟩,rfl⟩ ⟨T2,w,⟨rfl,p⟩,rfl⟩;have F:=(h.rd e z u).1;have l:=(h.rd k D m).1;have G:=F.n (by rw[A];omega) (by rw[A];omega);have C:=aa4 (n:=max (K.ct k).ws.length ((K.ct e).n+n)) h m;rw[<-l.ws,<-G]at p;obtain⟨a,rfl,rfl,rfl⟩|⟨a,⟨p2,rfl,rfl,rfl⟩|⟨p2,⟨p3,rfl,rfl,rfl⟩|⟨p3,H,rfl,rfl⟩⟩⟩:=z1<;>obtain⟨q1,rfl,rfl,rfl⟩|⟨q1,⟨o,rfl,rfl,rfl⟩|⟨o,⟨j,rfl,rfl,rfl⟩|⟨j,I,rfl,rfl⟩⟩⟩:=p<;>first|(exfalso;omega)|exact qx (C.1 p3) j|exact qx (C.2 j) p3|exact IW.same h.tags g|skip
  rw[H,I];have B:=h.di (c1:={ K.ct k with ws:=SV ((K.ct k).ws++List.replicate ((K.ct e).n+n-(K.ct k).ws.length) 0) (K.ct e).n ((r.Af.drop at_).take n)}) (c2:={ L.ct D with ws:=SV ((K.ct k).ws++List.replicate ((K.ct e).n+n-(K.ct k).ws.length) 0) (K.ct e).n ((s.Af.drop at_).take n)}) m ⟨l.k,l.f,by simp only[hR.Af],l.x,l.y,l.n,l.e⟩;have d:=(B.rd e z u).1;exact IW.same (CJ.um B u ⟨d.k,d.f,d.ws,d.x,d.y,λ_ _=>rfl,λe=>by rw[A]at e;omega⟩) g
 .rintro e z u i ⟨E,v,z1,rfl⟩ ⟨T2,w,p,rfl⟩;have b:=(h.rd _ _ i).1;have q:=ac4 h i;obtain⟨a,rfl,rfl,rfl,rfl⟩|⟨a,p2,p3,rfl,rfl,rfl,rfl⟩|⟨a,p2,p3,rfl,rfl,rfl⟩:=z1<;>obtain⟨q1,rfl,rfl,rfl,rfl⟩|⟨q1,o,j,rfl,rfl,rfl,rfl⟩|⟨q1,o,j,rfl,rfl,rfl⟩:=p
  .exact IW.same h.tags g
  .rw[b.x,q1]at a;cases a
  .rw[b.x,q1]at a;cases a
  .rw[b.x,q1]at a;cases a
  .exact IW.bl h.tags g i
  .obtain o|o:=o
   .omega
   .rw[q,o]at p3;cases p3
  .rw[b.x,q1]at a;cases a
  .obtain p2|p2:=p2
   .omega
   .rw[<-q,p2]at j;cases j
  .rw[<-b.ws]at j;obtain rfl:x=x':=p3.trans j.symm;exact IW.same (CJ.um h i ⟨b.k,b.f,by show _++_=_++_;rw[b.ws,hR.Af],b.x,b.y,b.n,b.e⟩) g
theorem ar6 (h:CJ c t t' R S K L)(g:Jo t t' R K' L')(I:Jo t t' R K L)(F:S a b)(J:K.ps a=some r)(M:L.ps b=some s)(G:dJ K a r at_ K' x y f)(H:dJ L b s at_ L' x' y' f'):IW c S K' L' x y f x' y' f':=by
 have hR:=h.row F J M;have q:=h.parent r.pid;have n:=h.PS r.pid;obtain⟨u,G⟩|⟨u,⟨p2,G⟩|⟨p2,⟨p3,rfl,rfl,⟨D,E,rfl⟩,C,rfl⟩|⟨k,v,p3,p4,rfl,rfl,rfl,rfl⟩⟩⟩:=G<;>obtain⟨q1,H⟩|⟨q1,⟨j,H⟩|⟨j,⟨p,rfl,rfl,⟨v1,v2,rfl⟩,T2,rfl⟩|⟨l,w,p,z,rfl,rfl,rfl,rfl⟩⟩⟩:=H
 all_goals first
  |(exfalso;rw[hR.Af]at u;omega)
  |(exfalso;rw[<-hR.pid]at j;exact p2 (q.2 j))
  |(exfalso;rw[<-hR.pid]at j;exact j (q.1 p2))
  |exact IW.no h I G H
  |(rw[<-hR.pid]at p;rw[p3,p]at n)
 .exact⟨t,t',R,S,h.tags,g,λ_ _ e=>e,rfl,rfl,.inr ⟨⟨_,_,_,rfl⟩,⟨_,_,_,rfl⟩,rfl,λe=>by simp[iD]at e⟩⟩
 .exact n.elim
 .exact n.elim
 .have i:S k l:=n;have d:=h.row i p4 z;have o:Ep c R {v with par:=0} {w with par:=0}:=⟨d.pid,rfl,d.st,d.A,d.B,d.P,d.sw,d.en,d.Af,d.fds,d.co,d.bl⟩;exact⟨t,t',R,S,((h.Bj F (hR.ax2 (l:=r.Af.set at_ v.st) (m:=s.Af.set at_ w.st) (by rw[hR.Af,d.st]))).Bj i o).PV,g,λ_ _ e=>e,d.pid,rfl,.inl ⟨rfl,rfl⟩⟩
theorem Ε {Af:List Nat}(h:CJ c t t' R S K L)(u:S a b)(C:K.ps a=some r)(D:L.ps b=some s)(w:XH K a r Af K')(z:XH L b s Af L'):CJ c t t' R S K' L':=by
 have hR:=h.row u C D;obtain⟨a1,d,k,j,i,v1,g,p2,p3⟩:=w;obtain⟨a2,e,l,c2,T2,v2,q1,o,p⟩:=z;have m:CJ c t t' R S {K with swap:=(Aq K.swap (Aj Af.length)).2} {L with swap:=(Aq L.swap (Aj Af.length)).2}:=⟨h.rl,h.rr,h.rd,h.sl,h.sr,h.sd,h.Ar,h.BG,h.core,by rw[h.swap],h.nm,h.nl,h.desc,h.ef,h.tv⟩;have f:=m.out u p2 o;rw[h.swap,q1]at g;cases g;have hRb:Ep c R {r with co:=-1,sw:=a1,im:=v1,Af:=Af} {s with co:=-1,sw:=a1,im:=v2,Af:=Af}:=⟨hR.pid,hR.par,hR.st,hR.A,hR.B,hR.P,rfl,hR.en,rfl,hR.fds,λ_=>rfl,hR.bl⟩;have n:CJ c t t' R S { (d.swap' (CE d.swap r.sw (Aj r.Af.length)) k j)with T:=i} { (e.swap' (CE e.swap s.sw (Aj s.Af.length)) l c2)with T:=T2}:=f.maps f.core (by show CE d.swap r.sw _=CE e.swap s.sw _;rw[f.swap,hR.sw,hR.Af]);exact CJ.in_ (n.Bj u hRb) u p3 p
theorem as5 (h:CJ c t t' R S K L)(g:Jo t t' R K' L')(z:Jo t t' R K L)(o:S a b)(u:K.ps a=some r)(w:L.ps b=some s)(m:Yx K a r n K' x y f)(l:Yx L b s n L' x' y' f'):IW c S K' L' x y f x' y' f':=by
 have hR:=h.row o u w;have hb:∀{d:List Nat} {K':KS},XH K a r d K'->(Aq K.swap (Aj d.length)).1≠none:=λ⟨_,_,_,_,_,_,e,_⟩=>by rw[e];simp
 have j:∀{d:List Nat} {L':KS},XH L b s d L'->(Aq L.swap (Aj d.length)).1≠none:=λ⟨_,_,_,_,_,_,e,_⟩=>by rw[e];simp
 unfold Yx at m l;rw[<-hR.Af]at l;obtain⟨k,m⟩|⟨k,⟨p2,m⟩|⟨rfl,rfl,rfl,p2⟩⟩:=m<;>obtain⟨q1,l⟩|⟨q1,⟨i,l⟩|⟨rfl,rfl,rfl,i⟩⟩:=l
 all_goals first
  |(exfalso;omega)
  |exact IW.no h z m l
  |(exfalso;rw[h.swap]at p2;exact j i p2)
  |(exfalso;rw[<-h.swap]at i;exact hb p2 i)
  |exact IW.same (Ε h o u w p2 i) g
theorem as7 (h:CJ c t t' R S K L)(g:Jo t t' R K' L')(N:Jo t t' R K L)(M:S a b)(O:K.ps a=some r)(Q:L.ps b=some s)(I:dO K a r n K' x y f)(J:dO L b s n L' x' y' f'):IW c S K' L' x y f x' y' f':=by
 have hb:∀{d:List Nat} {K':KS},XH K a r d K'->(Aq K.swap (Aj d.length)).1≠none:=λ⟨_,_,_,_,_,_,e,_⟩=>by rw[e];simp
 have k:∀{d:List Nat} {L':KS},XH L b s d L'->(Aq L.swap (Aj d.length)).1≠none:=λ⟨_,_,_,_,_,_,e,_⟩=>by rw[e];simp
 have hN:=h.nm n;obtain⟨o,u,D,p2,p3,I⟩|⟨o,p2,I⟩|⟨o,I⟩:=I<;>obtain⟨q1,q,m,p,z,J⟩|⟨q1,p,J⟩|⟨q1,J⟩:=J
 all_goals first
  |(exfalso;omega)
  |exact IW.no h N I J
  |rw[p2,p]at hN
 .have v:=(h.rd u q hN).1.ws;obtain rfl:D=m:=p3.symm.trans (v.trans z);obtain⟨p4,I⟩|⟨p4,⟨i,I⟩|⟨rfl,rfl,rfl,E,G,i,w,rfl⟩⟩:=I<;>obtain⟨l,J⟩|⟨l,⟨j,J⟩|⟨rfl,rfl,rfl,F,H,j,C,rfl⟩⟩:=J
  all_goals first
   |exact qx p4 l
   |exact qx l p4
   |exact IW.no h N I J
   |(exfalso;rw[h.swap]at i;exact k j i)
   |(exfalso;rw[<-h.swap]at j;exact hb i j)
   |skip
  have hI:=Ε h M O Q i j;have hR:=hI.row M w C;exact IW.same (hI.Bj M ⟨hR.pid,hR.par,hR.st,hR.A,hR.B,rfl,hR.sw,hR.en,hR.Af,hR.fds,hR.co,hR.bl⟩) g
 .exact hN.elim
 .exact hN.elim
theorem xP (h:CJ c t t' R S K L)(g:Jo t t' R K' L')(u:Jo t t' R K L)(m:RH K n K' x y f)(o:RH L n L' x' y' f'):IW c S K' L' x y f x' y' f':=by
 have hN:=h.nm n;obtain⟨b,j,p2,rfl,rfl,rfl,l,rfl⟩|⟨b,p2,m⟩|⟨b,m⟩:=m<;>obtain⟨q1,e,d,rfl,rfl,rfl,T2,rfl⟩|⟨q1,d,o⟩|⟨q1,o⟩:=o
 all_goals first
  |(exfalso;omega)
  |exact IW.no h u m o
  |rw[p2,d]at hN
 .have k:R j e:=hN;refine IW.same ⟨h.rl,h.rr,h.rd,h.sl,h.sr,h.sd,h.Ar,h.BG,h.core,h.swap,λi=>?_,LR.filter (λp q a=>by rw[(h.rd p q a).2]) (LR.app (LR.one k) h.nl),h.desc,h.ef,h.tv⟩ g;show KE R (Ah K.nm n none i) (Ah L.nm n none i);unfold Ah;split
  .trivial
  .exact h.nm i
 .exact hN.elim
 .exact hN.elim
theorem BlR.mono (h:∀p q,R p q->R' p q)(g:BlR R v v'):BlR R' v v':=⟨g.1,λe=>h _ _ (g.2 e)⟩
theorem Ep.mono (h:∀p q,R p q->R' p q)(hR:Ep c R r s):Ep c R' r s:=⟨hR.pid,hR.par,hR.st,hR.A,hR.B,hR.P,hR.sw,hR.en,hR.Af,hR.fds,hR.co,hR.bl.mono h⟩
theorem as6 (h:CJ c t t' R S K L)(g:Jo t t' R K' L')(g0:Jo t t' R K L)(hR:Ep c R r s)(h1:zt K r K' x y f)(h2:zt L s L' x' y' f'):IW c S K' L' x y f x' y' f':=by
 have J:=h.Ar.len;have D:∀{q:PR} {b:KS} {p:Nat},Child K b p r q->(Aq K.swap (Aj r.Af.length)).1≠none:=λk=>by rw[<-k.Af,k.sw];simp
 have C:∀{q:PR} {d:KS} {p:Nat},Child L d p s q->(Aq L.swap (Aj s.Af.length)).1≠none:=λk=>by rw[<-k.Af,k.sw];simp
 obtain⟨l,h1⟩|⟨l,p2,⟨T1,rfl⟩,rfl,rfl,rfl⟩|⟨l,p,q,b,d1,p2,p3,p4,rfl,rfl,rfl,rfl⟩:=h1<;>obtain⟨q1,h2⟩|⟨q1,w,⟨T2,rfl⟩,rfl,rfl,rfl⟩|⟨q1,o,m,d,d2,w,a,X,rfl,rfl,rfl,rfl⟩:=h2
 all_goals first
  |exact IW.no h g0 h1 h2
  |(exfalso;rw[J,h.BG]at l;exact q1 l)
  |(exfalso;rw[J,h.BG]at l;exact l q1)
  |exact IW.same h.tags g
  |(exfalso;rw[h.swap,hR.Af]at p2;exact C a p2)
  |(exfalso;rw[<-h.swap,<-hR.Af]at w;exact D p3 w)
  |skip
 have I:q.pid=m.pid:=by rw[p3.pid,a.pid,h.BG]
 have F:q.Af=m.Af:=by rw[p3.Af,a.Af,hR.Af]
 have W:q.sw=m.sw:=by
  have e1:=p3.sw
  have e2:=a.sw
  rw[h.swap,F,e2]at e1
  exact(x_ e1).symm
 have V:Ep c R q m:=⟨I,by rw[p3.par,a.par,hR.pid],by rw[p3.st,a.st],by rw[p3.A,a.A],by rw[p3.B,a.B],by rw[p3.P,a.P,hR.P],W,by rw[p3.en,a.en],F,by rw[p3.fds,a.fds,hR.fds],λ_=>by rw[p3.co,a.co],by rw[p3.bl,a.bl];exact⟨rfl,λe=>by simp[iD]at e⟩⟩;have G:∀z,¬S p z:=λz E=>by obtain⟨_,_,e,_⟩:=h.sd p z E;rw[p2]at e;cases e
 have H:∀z,¬S z o:=λz E=>by obtain⟨_,_,_,e,_⟩:=h.sd z o E;rw[w]at e;cases e
 have e1:=p3.eq;have e2:=a.eq;refine⟨t,t',R,λu v=>S u v\/(u=p/\v=o),?_,g,λ_ _ e=>.inl e,I,rfl,.inl ⟨rfl,rfl⟩⟩;have O:b.Ar=K.Ar++[p]:=by rw[e1]
 have Q:d.Ar=L.Ar++[o]:=by rw[e2]
 have T:b.ps=CY K.ps p q:=by rw[e1]
 have U:d.ps=CY L.ps o m:=by rw[e2]
 refine⟨h.rl,h.rr,?_,?_,?_,?_,?_,?_,?_,?_,?_,?_,?_,?_,?_⟩
 .rw[e1,e2];exact h.rd
 .rintro u v N (j|⟨rfl,rfl⟩) (n|⟨e,rfl⟩)
  .exact h.sl u v N j n
  .subst e;exact qx j (G v)
  .exact qx n (G N)
  .rfl
 .rintro u M v (j|⟨rfl,rfl⟩) (n|⟨rfl,e⟩)
  .exact h.sr u M v j n
  .subst e;exact qx j (H u)
  .exact qx n (H M)
  .rfl
 .show ∀u v,_->∃r s,b.ps u=some r/\d.ps v=some s/\_;rw[T,U];rintro u v (j|⟨rfl,rfl⟩)
  .obtain⟨Y,Z,z1,z2,z3⟩:=h.sd u v j;exact⟨Y,Z,(BB (λe=>by subst e;exact G v j)).trans z1,(BB (λe=>by subst e;exact H u j)).trans z2,z3⟩
  .exact⟨q,m,Ag,Ag,V⟩
 .show LR _ b.Ar d.Ar;rw[O,Q];exact LR.app (LR.one (.inr ⟨rfl,rfl⟩)) (LR.mono (λ_ _ e=>.inl e) h.Ar)
 .show b.BG=d.BG;rw[e1,e2];show K.BG+1=L.BG+1;rw[h.BG]
 .intro k;show b.core=d.core;rw[e1,e2];exact h.core k
 .show b.swap=d.swap;rw[e1,e2];show(Aq K.swap _).2=(Aq L.swap _).2;rw[h.swap,F]
 .show ∀i,KE R (b.nm i) (d.nm i);rw[e1,e2];exact h.nm
 .show LR R b.nl d.nl;rw[e1,e2];exact h.nl
 .intro i hi;show d1 i=d2 i;rw[p4 i hi,X i hi,h.desc i hi,hR.fds]
 .show ∀i,i<20->KE R (b.ef i) (d.ef i);rw[e1,e2];exact h.ef
 .show ∀i,i<20->TvR t t' R (b.tv i) (d.tv i);rw[e1,e2];exact h.tv
theorem CtR.mono (h:∀p q,R p q->R' p q){u l:Nat×Nat}{c j:Ct}(g:CtR R u l c j):CtR R' u l c j:=⟨g.k,λe=>h _ _ (g.f e),g.ws,g.x,g.y,g.n,λe=>h _ _ (g.e e)⟩
def UF (R:Nat->Nat->Prop)(p p':Nat):Nat->Nat->Prop:=λu v=>R u v\/(u=p/\v=p')
theorem CJ.add (h:CJ c t t' R S K L)(o:∀z,¬R p z)(A:∀z,¬R z p')(B:K.op p=L.op p')(hC:CtR (UF R p p') k k' c1 c2):CJ c (Bi t p k) (Bi t' p' k') (UF R p p') S {K with ct:=Ah K.ct p c1} {L with ct:=Ah L.ct p' c2}:=by
 have up:∀u v,R u v->UF R p p' u v:=λ_ _ e=>.inl e
 have f:∀{u v},R u v->u≠p:=λa e=>by subst e;exact o _ a
 have g:∀{u v},R u v->v≠p':=λa e=>by subst e;exact A _ a
 refine⟨?_,?_,?_,h.sl,h.sr,λu v a=>?_,h.Ar,h.BG,h.core,h.swap,λi=>(h.nm i).mono up,h.nl.mono up,h.desc,λi hi=>(h.ef i hi).mono up,λi hi=>?_⟩
 .rintro u v l (a|⟨rfl,rfl⟩) (d|⟨e,rfl⟩)
  .exact h.rl u v l a d
  .subst e;exact qx a (o v)
  .exact qx d (o l)
  .rfl
 .rintro u j v (a|⟨rfl,rfl⟩) (d|⟨rfl,e⟩)
  .exact h.rr u j v a d
  .subst e;exact qx a (A u)
  .exact qx d (A j)
  .rfl
 .rintro u v (a|⟨rfl,rfl⟩)
  .obtain⟨m,n⟩:=h.rd u v a;refine⟨?_,n⟩;show CtR _ (Bi t p k u) (Bi t' p' k' v) (Ah K.ct p c1 u) (Ah L.ct p' c2 v);rw[AV (f a),AV (g a)];unfold Ah;rw[ru (f a),ru (g a)];exact m.mono up
  .refine⟨?_,B⟩;show CtR _ (Bi t u k u) (Bi t' v k' v) (Ah K.ct u c1 u) (Ah L.ct v c2 v);rw[A7,A7];unfold Ah;rw[rW rfl,rW rfl];exact hC
 .obtain⟨r,s,e1,e2,hR⟩:=h.sd u v a;exact⟨r,s,e1,e2,hR.mono up⟩
 .obtain e|⟨w,u,v,e1,e2,b,k1,k2⟩:=h.tv i hi
  .exact .inl e
  .refine .inr ⟨w,u,v,e1,e2,.inl b,?_,?_⟩
   .rw[AV (f b),AV (g b)];exact k1
   .rw[AV (f b),AV (g b)];exact k2
theorem CJ.entry (h:CJ c t t' R S K L){o o':d_ Nat}(e:KE R o o')(g:TvR t t' R v v'):CJ c t t' R S {K with desc:=Ah K.desc i 1,ef:=Ah K.ef i o,tv:=Ah K.tv i v} {L with desc:=Ah L.desc i 1,ef:=Ah L.ef i o',tv:=Ah L.tv i v' }:=
 ⟨h.rl,h.rr,h.rd,h.sl,h.sr,h.sd,h.Ar,h.BG,h.core,h.swap,h.nm,h.nl,LJ h.desc rfl,LJ (P:=KE R) h.ef e,LJ (P:=TvR t t' R) h.tv g⟩
theorem CJ.more (h:CJ c t t' R S K L)(e:R a b):CJ c t t' R S {K with op:=Ah K.op a (K.op a+1)} {L with op:=Ah L.op b (L.op b+1)}:=
 ⟨h.rl,h.rr,λp q d=>⟨(h.rd p q d).1,h.upd (P:=Eq) e (h.rd p q d).2 (by rw[(h.rd a b e).2]) d⟩,h.sl,h.sr,h.sd,h.Ar,h.BG,h.core,h.swap,h.nm,h.nl,h.desc,h.ef,h.tv⟩
theorem ZJ {e:Nat->d_ Nat}(h:∀i,i<20->e i≠some p):DK d e p=0:=by
 cases hz:DK d e p with
 |zero=>rfl
 |succ n=>
  exfalso
  obtain⟨i,hi,a⟩:=QU (f:=λi=>if 0<d i/\e i=some p then 1 else 0) (l:=List.range 20) (by unfold DK at hz;omega)
  split at a
  .rename_i b;exact h i (List.mem_range.1 hi) b.2
  .omega
theorem CJ.op0 (h:CJ c t t' R S K L)(l:∀z,¬R p z)(m:∀z,¬R z p')(g:∃NC NS,DU NC NS K)(j:∃NC NS,DU NC NS L):K.op p=L.op p':=by
 obtain⟨_,_,g⟩:=g;obtain⟨_,_,j⟩:=j;have z1:DK K.desc K.ef p=0:=ZJ λi hi e=>by
  have:=h.ef i hi
  rw[e]at this
  obtain⟨q,_,hq⟩:=this.dh rfl
  exact l q hq
 have a:DK L.desc L.ef p'=0:=ZJ λi hi e=>by
  have:=(h.ef i hi).swap
  rw[e]at this
  obtain⟨q,_,hq⟩:=this.dh rfl
  exact m q hq
 rw[g.Ei.op,j.Ei.op,z1,a]
theorem ba4 {l:List Nat}(e:p∈l)(g:q∈l)(h:p≠q):2<=l.length:=by
 match l with
 |[]=>cases e
 |[z]=>simp at e g;omega
 |_::_::_=>simp
theorem ao1 {j:Nat}(hi:i<20)(l:j<20)(h:Least d i)(g:Least (Ah d i 1) j):2<=Fq d 20:=by
 have a:i≠j:=λe=>by have:=g.1;subst e;simp[Ah]at this
 have b:d j=0:=by have:=g.1;simpa [Ah,gJ a]using this
 unfold Fq;exact ba4 (List.mem_filter.2 ⟨List.mem_range.2 hi,by simp[h.1]⟩) (List.mem_filter.2 ⟨List.mem_range.2 l,by simp[b]⟩) a
theorem nJ (hi:i<20)(e:d i=0):1<=Fq d 20:=by
 unfold Fq;exact List.length_pos_of_mem (List.mem_filter.2 ⟨List.mem_range.2 hi,by simp[e]⟩)
theorem fB {v:Int}(g:v≠-1):∀{l:List Int} {i j:Nat},l[i]?=some (-1)->(l.set i v)[j]?=some (-1)->2<=DF l
 |[],_,_,h,_=>by simp at h
 |n::l,0,0,_,h=>by simp at h;exact qx h g
 |n::l,0,j+1,a,b=>by
  simp at a b
  subst a
  have:(-1:Int)∈l.filter TL:=List.mem_filter.2 ⟨t_ b,rfl⟩
  have:=List.length_pos_of_mem this
  show 2<=(List.filter TL (-1::l)).length
  rw[List.filter_cons_of_pos rfl];simp;omega
 |n::l,i+1,0,a,b=>by
  simp at a b
  subst b
  have:(-1:Int)∈l.filter TL:=List.mem_filter.2 ⟨t_ a,rfl⟩
  have:=List.length_pos_of_mem this
  show 2<=(List.filter TL (-1::l)).length
  rw[List.filter_cons_of_pos rfl];simp;omega
 |n::l,i+1,j+1,a,b=>by
  simp at a b
  have:=fB g a b
  show 2<=(List.filter TL (n::l)).length
  unfold DF at this
  by_cases e:TL n=true
  .rw[List.filter_cons_of_pos e];simp;omega
  .rw[List.filter_cons_of_neg e];exact this
theorem Jo.add (g:Jo t t' R K L)(l:∀z,¬R p z)(m:∀z,¬R z p')(e1:K.T p=k)(e2:L.T p'=k')(h:k≠(0,0))(j:k'≠(0,0)):Jo (Bi t p k) (Bi t' p' k') (UF R p p') K L:=by
 rintro u v (a|⟨rfl,rfl⟩)
 .rw[AV (λe=>by subst e;exact l v a),AV (λe=>by subst e;exact m u a)];exact g u v a
 .rw[A7,A7];exact⟨⟨e1,h⟩,e2,j⟩
theorem Jo.Jw (g:Jo t t' R K L)(e:K.T p=(0,0))(z:Nat):¬R p z:=λa=>by
 obtain⟨⟨e1,b⟩,_⟩:=g _ _ a;exact b (e1.symm.trans e)
theorem Jo.Jv (g:Jo t t' R K L)(e:L.T p=(0,0))(z:Nat):¬R z p:=λa=>by
 obtain⟨_,e1,b⟩:=g _ _ a;exact b (e1.symm.trans e)
theorem Ep.ffS (hR:Ep c R r s){l m:List Int}{u v:List Nat}(e:l=m)(g:u=v):Ep c R {r with fds:=l,Af:=u} {s with fds:=m,Af:=v}:=⟨hR.pid,hR.par,hR.st,hR.A,hR.B,hR.P,hR.sw,hR.en,g,e,hR.co,hR.bl⟩
theorem as2 (h:CJ c t t' R S K L)(t1:Om K.T K'.T)(t2:Om L.T L'.T)(g0:Jo t t' R K L)(hab:S a b)(hR:Ep c R r s)(o1:∃NC NS,DU NC NS K)(o2:∃NC NS,DU NC NS L)(h1:dN K a r at_ K' x y f)(h2:dN L b s at_ L' x' y' f'):IW c S K' L' x y f x' y' f':=by
 have E:=Xh h.desc;have key:∀{d:Nat->Nat} {l:List Int} {m w A G:Nat},m<20->w<20->Least d m->Least (Ah d m 1) w->IV l A->IV (l.set A (m:Int)) G->2<=DF l/\2<=Fq d 20:=λz1 z2 z3 z4 z5 z6=>⟨fB wB z5.1 z6.1,ao1 z1 z2 z3 z4⟩
 obtain⟨B,h1⟩|⟨B,p2,h1⟩|⟨B,p2,p3,h1⟩|⟨B,p,e1,e2,T3,m,w,A,G,⟨p2,p3,p4,p5,p6,p7,p8,p9⟩,a1,a2,J,M,N,O,rfl,rfl,rfl,rfl⟩:=h1<;>obtain⟨q1,h2⟩|⟨q1,u,h2⟩|⟨q1,u,I,h2⟩|⟨q1,j,X,Y,T3',i1',i2',F,H,⟨u,I,W,q5,q6,q7,q8,q9⟩,P,Q,U,V,C,D,rfl,rfl,rfl,rfl⟩:=h2
 all_goals first
  |exact IW.no h g0 h1 h2
  |(exfalso;rw[hR.Af]at B;omega)
  |(exfalso;rw[hR.fds]at p2;omega)
  |(exfalso;omega)
  |(exfalso;have:=key P U Q V C D;rw[<-hR.fds]at this;omega)
  |(exfalso;have:=key a1 J a2 M N O;rw[hR.fds]at this;omega)
  |skip
 obtain rfl:=Least.one h.desc a1 P a2 Q;obtain rfl:A=F:=by rw[<-hR.fds]at C;exact N.one C
 obtain rfl:=Least.one (LJ h.desc rfl) J U M V;obtain rfl:G=H:=by rw[<-hR.fds]at D;exact O.one D
 subst p5 p6 q5 q6;have hA:=h.add (k:=(11,0)) (k':=(11,0)) (c1:=⟨[],true,true,0⟩) (c2:=⟨[],true,true,0⟩) (g0.Jw p2) (g0.Jv u) (h.op0 (g0.Jw p2) (g0.Jv u) o1 o2) ⟨rfl,λe=>by simp at e,rfl,rfl,rfl,λ_ _=>rfl,λe=>by simp at e⟩;have m1:∀z,¬UF R p j (p+1) z:=λz g=>by
  obtain g|⟨e,_⟩:=g
  .exact g0.Jw p3 z g
  .omega
 have n:∀z,¬UF R p j z (j+1):=λz g=>by
  obtain g|⟨_,e⟩:=g
  .exact g0.Jv I z g
  .omega
 have hB:=hA.add (k:=(13,0)) (k':=(13,0)) (c1:=⟨[],false,false,p⟩) (c2:=⟨[],false,false,j⟩) m1 n (h.op0 (g0.Jw p3) (g0.Jv I) o1 o2) ⟨rfl,λe=>by simp at e,rfl,rfl,rfl,λe _=>by simp at e,λ_=>.inl (.inr ⟨rfl,rfl⟩)⟩;have m2:∀z,¬UF (UF R p j) (p+1) (j+1) (p+2) z:=λz g=>by
  obtain(g|⟨e,_⟩)|⟨e,_⟩:=g
  .exact g0.Jw p4 z g
  .omega
  .omega
 have q:∀z,¬UF (UF R p j) (p+1) (j+1) z (j+2):=λz g=>by
  obtain(g|⟨_,e⟩)|⟨_,e⟩:=g
  .exact g0.Jv W z g
  .omega
  .omega
 have hC:=hB.add (k:=(14,0)) (k':=(14,0)) (c1:=⟨[],false,false,p⟩) (c2:=⟨[],false,false,j⟩) m2 q (h.op0 (g0.Jw p4) (g0.Jv W) o1 o2) ⟨rfl,λe=>by simp at e,rfl,rfl,rfl,λ_ e=>by simp at e,λ_=>.inl (.inl (.inr ⟨rfl,rfl⟩))⟩;have hD:=hC.entry (i:=m) (o:=none) (o':=none) (v:=.iface 330 (ptr (p+1))) (v':=.iface 330 (ptr (j+1))) trivial (.inr ⟨330,p+1,j+1,rfl,rfl,.inl (.inr ⟨rfl,rfl⟩),λ_=>⟨by rw[AV wB,A7],by rw[AV wB,A7]⟩,λe=>by simp at e⟩);have hE:=hD.entry (i:=w) (o:=none) (o':=none) (v:=.iface 334 (ptr (p+2))) (v':=.iface 334 (ptr (j+2))) trivial (.inr ⟨334,p+2,j+2,rfl,rfl,.inr ⟨rfl,rfl⟩,λe=>by simp at e,λ_=>⟨by rw[A7],by rw[A7]⟩⟩);have hF:=hE.tags (T1:=T3) (T2:=T3');have gA:=(g0.ext t1 t2).add (g0.Jw p2) (g0.Jv u) p7 q7 sJ sJ;have Z:=gA.add m1 n p8 q8 sJ sJ;have gC:=Z.add m2 q p9 q9 sJ sJ;refine⟨_,_,_,S,CJ.Bj hF hab ((hR.mono λ_ _ e=>.inl (.inl (.inl e))).ffS ?_ ?_),gC,λ_ _ e=>e,rfl,rfl,.inl ⟨rfl,rfl⟩⟩
 .rw[hR.fds]
 .rw[hR.Af]
theorem as3 {num:Nat}(h:CJ c t t' R S K L)(t1:Om K.T K'.T)(t2:Om L.T L'.T)(g0:Jo t t' R K L)(hab:S a b)(hR:Ep c R r s)(o1:∃NC NS,DU NC NS K)(o2:∃NC NS,DU NC NS L)(h1:Tn K a r i num K' x y f)(h2:Tn L b s i num L' x' y' f'):IW c S K' L' x y f x' y' f':=by
 have I:=Xh h.desc;have hN:=h.nm i;have D:=hN.none;obtain⟨p1,h1⟩|⟨p1,⟨p2,p3,h1⟩|⟨p2,⟨p3,h1⟩|⟨p3,p4,h1⟩|⟨l,m,nm,T,ct,n,j,p3,p4,Y,Z,p7,rfl,rfl,rfl,rfl⟩⟩⟩:=h1<;>obtain⟨q1,h2⟩|⟨q1,⟨H,F,h2⟩|⟨H,⟨F,h2⟩|⟨F,A,h2⟩|⟨g,d,E,G,U,J,j',F,A,q5,q6,O,rfl,rfl,rfl,rfl⟩⟩⟩:=h2
 all_goals first
  |(exfalso;omega)
  |exact IW.no h g0 h1 h2
  |(exfalso;rw[D]at p2;exact H ⟨p2,p3⟩)
  |(exfalso;rw[<-D]at H;exact p2 ⟨H,F⟩)
  |(exfalso;rw[hR.fds]at p3;omega)
  |(exfalso;have:=RU O;rw[<-hR.fds]at this;omega)
  |(exfalso;have:=RU p7;rw[hR.fds]at this;omega)
  |(exfalso;have:=nJ q5 q6.1;omega)
  |(exfalso;have:=nJ Y Z.1;omega)
  |skip
 obtain rfl:n=J:=Least.one h.desc Y q5 Z q6;obtain rfl:x=x':=by rw[<-hR.fds]at O;exact p7.one O
 have fin:∀{u P:Tag} {w:Nat->Nat->Prop},CJ c u P w S {K with nm:=nm,T:=T,ct:=ct} {L with nm:=E,T:=G,ct:=U}->(∀p q,R p q->w p q)->w l g->(∀z,¬w m z)->(∀z,¬w z d)->K.op m=L.op d->Jo u P w {K with T:=Bi T m (12,l)} {L with T:=Bi G d (12,g)}->IW c S (KS.Bj {K with nm:=nm,op:=Ah K.op l (K.op l+1),T:=Bi T m (12,l),desc:=Ah K.desc n 1,ef:=Ah K.ef n (some l),tv:=Ah K.tv n (.iface 337 (ptr m)),ct:=Ah ct m Ct.nil} a {r with fds:=r.fds.set x (n:Int)}) (KS.Bj {L with nm:=E,op:=Ah L.op g (L.op g+1),T:=Bi G d (12,g),desc:=Ah L.desc n 1,ef:=Ah L.ef n (some g),tv:=Ah L.tv n (.iface 337 (ptr d)),ct:=Ah U d Ct.nil} b {s with fds:=s.fds.set x (n:Int)}) x 0 .nilFunc x 0 .nilFunc:=by
  intro u P w hI up B W X A8 hT
  have hA:=hI.add (k:=(12,l)) (k':=(12,g)) (c1:=Ct.nil) (c2:=Ct.nil) W X A8 ⟨rfl,λ_=>.inl B,rfl,rfl,rfl,λ_ _=>rfl,λe=>by simp at e⟩
  have hB:=hA.more (a:=l) (b:=g) (.inl B)
  have hC:=hB.entry (i:=n) (o:=some l) (o':=some g) (v:=.iface 337 (ptr m)) (v':=.iface 337 (ptr d)) (show UF w m d l g from .inl B) (.inr ⟨337,m,d,rfl,rfl,.inr ⟨rfl,rfl⟩,λe=>by simp at e,λe=>by simp at e⟩)
  have hD:=hC.tags (T1:=Bi T m (12,l)) (T2:=Bi G d (12,g))
  have gA:=hT.add W X (k:=(12,l)) (k':=(12,g)) A7 A7 sJ sJ
  exact⟨_,_,_,S,CJ.Bj hD hab ((hR.mono λ_ _ e=>.inl (up _ _ e)).bs5 (by rw[hR.fds])),gA,λ_ _ e=>e,rfl,rfl,.inl ⟨rfl,rfl⟩⟩
 have V:=g0.ext t1 t2;obtain⟨z1,rfl,rfl,rfl⟩|⟨z1,Q,rfl,rfl,rfl⟩:=p3<;>obtain⟨w1,rfl,rfl,rfl⟩|⟨w1,w2,rfl,rfl,rfl⟩:=F
 .rw[z1,w1]at hN;exact fin h (λ_ _ e=>e) hN (g0.Jw p4) (g0.Jv A) (h.op0 (g0.Jw p4) (g0.Jv A) o1 o2) V
 .rw[z1,w1]at hN;exact hN.elim
 .rw[z1,w1]at hN;exact hN.elim
 .have M:m≠l:=λe=>by subst e;rw[A7]at p4;simp at p4
  have N:d≠g:=λe=>by subst e;rw[A7]at A;simp at A
  rw[AV M]at p4;rw[AV N]at A;have hA:=h.add (k:=(10,0)) (k':=(10,0)) (c1:=Ct.nil) (c2:=Ct.nil) (g0.Jw Q) (g0.Jv w2) (h.op0 (g0.Jw Q) (g0.Jv w2) o1 o2) ⟨rfl,λe=>by simp at e,rfl,rfl,rfl,λ_ _=>rfl,λe=>by simp at e⟩;have hB:CJ c (Bi t l (10,0)) (Bi t' g (10,0)) (UF R l g) S {K with nm:=Ah K.nm i (some l),T:=Bi K.T l (10,0),ct:=Ah K.ct l Ct.nil} {L with nm:=Ah L.nm i (some g),T:=Bi L.T g (10,0),ct:=Ah L.ct g Ct.nil}:=⟨hA.rl,hA.rr,hA.rd,hA.sl,hA.sr,hA.sd,hA.Ar,hA.BG,hA.core,hA.swap,λk=>by
   show KE _ (Ah K.nm i (some l) k) (Ah L.nm i (some g) k)
   unfold Ah
   split
   .exact .inr ⟨rfl,rfl⟩
   .exact hA.nm k,hA.nl,hA.desc,hA.ef,hA.tv⟩
  have m1:∀z,¬UF R l g m z:=λz C=>by
   obtain C|⟨e,_⟩:=C
   .exact g0.Jw p4 z C
   .exact M e
  have m2:∀z,¬UF R l g z d:=λz C=>by
   obtain C|⟨_,e⟩:=C
   .exact g0.Jv A z C
   .exact N e
  exact fin hB (λ_ _ e=>.inl e) (.inr ⟨rfl,rfl⟩) m1 m2 (h.op0 (g0.Jw p4) (g0.Jv A) o1 o2) (V.add (g0.Jw Q) (g0.Jv w2) ((AV (gJ M)).trans A7) ((AV (gJ N)).trans A7) sJ sJ)
theorem yB (h:¬(1<=call/\call<=14)):dY K b r call=GY K 12:=by
 unfold dY;split<;>first|rfl|(exfalso;omega)
theorem Za (h:CJ c t t' R S K L)(z:Jo t t' R K L)(w:S a b)(B:K.ps a=some r)(C:L.ps b=some s)(hX:YB K a r call K' x y f)(u:YB L b s call L' x' y' f'):IW c S K' L' x y f x' y' f':=by
 obtain⟨hX,n,⟨_,_,i,_⟩,_⟩:=hX;obtain⟨u,o,⟨_,_,k,_⟩,_⟩:=u
 replace i:∃l m,DU l m K:=⟨_,_,i⟩
 replace k:∃l m,DU l m L:=⟨_,_,k⟩
 have hR:=h.row w B C;have g:=z.ext n o;have d:=hR.DR;obtain⟨j,hX⟩|⟨j,hX⟩:=hX<;>obtain⟨q1,u⟩|⟨q1,u⟩:=u
 .exact IW.no h z hX u
 .rw[hR.A,hR.Af]at j;exact qx q1 j
 .rw[hR.A,hR.Af]at j;exact qx j q1
 by_cases e:1<=call/\call<=14
 .have e:call=1\/call=2\/call=3\/call=4\/call=5\/call=6\/call=7\/call=8\/call=9\/call=10\/call=11\/call=12\/call=13\/call=14:=wB
  obtain rfl|rfl|rfl|rfl|rfl|rfl|rfl|rfl|rfl|rfl|rfl|rfl|rfl|rfl:=e
  .obtain⟨p,rfl,rfl,q⟩:=hX;obtain⟨v1,rfl,rfl,v4⟩:=u;rw[<-d 0]at v1 v4;obtain rfl:x=x':=p.trans v1.symm;exact IW.same (h.end_ w B C i q v4) g
  .exact as6 h g z hR hX u
  .have u:dJ L b s (DR s 0) L' x' y' f':=u;rw[<-d 0]at u;exact ar6 h g z w B C hX u
  .have u:Yx L b s (DR s 0) L' x' y' f':=u;rw[<-d 0]at u;exact as5 h g z w B C hX u
  .have u:dN L b s (DR s 0) L' x' y' f':=u;rw[<-d 0]at u;exact as2 h n o z w hR i k hX u
  .have u:dL L b s (DR s 0) (DR s 1) (DR s 2) L' x' y' f':=u;rw[<-d 0,<-d 1,<-d 2]at u;exact ar9 h g z w hR hX u
  .have u:VX L s (DR s 0) (DR s 1) (DR s 2) L' x' y' f':=u;rw[<-d 0,<-d 1,<-d 2]at u;exact aa3 h g z hR hX u
  .have u:VY L b s (DR s 0) L' x' y' f':=u;rw[<-d 0]at u;exact aa5 h g z w hR hX u
  .have u:ϔ L b s (DR s 0) L' x' y' f':=u;rw[<-d 0]at u;exact bh9 h g z w hR hX u
  .have u:Tn L b s (DR s 0) (DR s 1) L' x' y' f':=u;rw[<-d 0,<-d 1]at u;exact as3 h n o z w hR i k hX u
  .have u:dO L b s (DR s 0) L' x' y' f':=u;rw[<-d 0]at u;exact as7 h g z w B C hX u
  .obtain⟨rfl,p,rfl,rfl⟩:=hX;obtain⟨rfl,v1,rfl,rfl⟩:=u;obtain rfl:x=x':=(by rw[p,v1,hR.pid]);exact IW.same h z
  .have u:RH L (DR s 0) L' x' y' f':=u;rw[<-d 0]at u;exact xP h g z hX u
  .have u:dK L s (DR s 0) (DR s 1) L' x' y' f':=u;rw[<-d 0,<-d 1]at u;exact ar8 h g z hR hX u
 .rw[yB e]at hX u;exact IW.no h z hX u
def TR (c:Bool)(R:Nat->Nat->Prop)(p q:Nat×Nat×PR):Prop:=p.1=q.1/\p.2.1=q.2.1/\Ep c R p.2.2 q.2.2
theorem TR.ite [Decidable P]{p q p' e:Nat×Nat×PR}(g:TR c R p p')(j:TR c R q e):TR c R (if P then p else q) (if P then p' else e):=by
 by_cases h:P
 .rw[rW h,rW h];exact g
 .rw[ru h,ru h];exact j
theorem Ep.ite [Decidable P]{p q p' e:PR}(g:Ep c R p p')(j:Ep c R q e):Ep c R (if P then p else q) (if P then p' else e):=by
 by_cases h:P
 .rw[rW h,rW h];exact g
 .rw[ru h,ru h];exact j
theorem Ep.step (hR:Ep c R r s):TR c R (EO r) (EO s):=by
 have e1:=hR.P;have e2:=hR.Af;have e3:=hR.A;have e4:=hR.B;unfold EO XR EF FV;dsimp only;rw[<-e1,<-e2,<-e3,<-e4]
 repeat' refine TR.ite ?_ ?_
 all_goals refine⟨rfl,rfl,?_⟩
 all_goals try refine Ep.ite ?_ ?_
 all_goals exact⟨hR.pid,hR.par,hR.st,by first|rfl|exact e3,by first|rfl|exact e4,by first|rfl|exact e1,hR.sw,hR.en,by first|rfl|exact e2,hR.fds,hR.co,hR.bl⟩
def Nx (c:Bool)(S:Nat->Nat->Prop)(K L:KS):Prop:=∃u u' R' S',CJ c u u' R' S' K L/\Jo u u' R' K L/\∀p q,S p q->S' p q
theorem Y1 {g e:Nat}{h j:PR}(hR:Ep c R r s)(l:EO r=(n,call,h))(m:EO s=(g,e,j)):n=g/\call=e/\Ep c R h j:=by
 have:=hR.step;rw[l,m]at this;exact⟨this.1,this.2.1,this.2.2⟩
theorem ar7 (h:CJ c t t' R S K L)(g:Jo t t' R K L)(H:S a b)(I:Tu a K ev K')(J:Tu b L ev' L'):Nx c S K' L'/\ev=ev':=by
 obtain⟨r,n,call,B,e1,e2,I⟩:=I;obtain⟨s,z,f,D,w1,w2,J⟩:=J;have hR:=h.row H e1 w1;obtain⟨rfl,rfl,i⟩:=Y1 hR e2 w2;have hI:=h.Bj H i;obtain⟨m,rfl,rfl⟩|⟨m,v,x,y,C,p2,p3,p4,rfl,rfl⟩:=I<;>obtain⟨q1,rfl,rfl⟩|⟨q1,w,F,G,E,o,p,A,rfl,rfl⟩:=J
 .exact⟨⟨t,t',R,S,hI,g,λ_ _ e=>e⟩,rfl⟩
 .omega
 .omega
 .obtain⟨u,q,j,k,hN,l,up,rfl,rfl,_⟩:=Za hI g H Ag Ag p2 o;have d:=hN.row (up _ _ H) p3 p;exact⟨⟨u,q,j,k,hN.Bj (up _ _ H) ⟨d.pid,d.par,d.st,rfl,rfl,d.P,d.sw,d.en,d.Af,d.fds,d.co,d.bl⟩,l,up⟩,by rw[d.pid]⟩
theorem Wv (h:CJ c t t' R S K L)(g:Jo t t' R K L)(J:S a b)(M:Tu a K ev K')(N:Last b L ev' L'):False:=by
 obtain⟨r,n,call,C,e1,e2,M⟩:=M;obtain⟨s,B,f,E,w1,w2,N⟩:=N;have hR:=h.row J e1 w1;obtain⟨rfl,rfl,i⟩:=Y1 hR e2 w2;have hI:=h.Bj J i;obtain⟨l,_⟩|⟨l,p,x,y,D,p2,p3,p4,_⟩:=M<;>obtain⟨q1,_⟩|⟨q1,q,H,I,z,F,m,o,d⟩:=N
 .omega
 .omega
 .omega
 .obtain⟨u,G,v,w,hN,A,up,rfl,rfl,k⟩:=Za hI g J Ag Ag p2 m;have j:=hN.row (up _ _ J) p3 o;obtain⟨_,d,_⟩|⟨⟨_,_,_,rfl⟩,_⟩:=d
  .rw[<-j.en,p4]at d;cases d
  .obtain⟨_,e⟩|⟨⟨_,_,_,e⟩,_⟩:=k
   .cases e
   .cases e
theorem as4 (h:CJ c t t' R S K L)(g:Jo t t' R K L)(T:S a b)(U:Last a K ev K')(V:Last b L ev' L'):Nx c S K' L'/\ev=ev':=by
 obtain⟨r,n,call,M,e1,e2,U⟩:=U;obtain⟨s,J,i,N,w1,w2,V⟩:=V;have hR:=h.row T e1 w1;obtain⟨rfl,rfl,j⟩:=Y1 hR e2 w2;have hI:=h.Bj T j;obtain⟨z,⟨p2,p3,p4,_⟩,E,C,rfl⟩|⟨z,G,x,y,f,E,p2,p3,p4⟩:=U<;>obtain⟨q1,⟨l,m,o,_⟩,F,D,rfl⟩|⟨q1,H,O,Q,I,F,l,m,o⟩:=V
 .have hE:=hI.end_ T Ag Ag p4 p2 l;have d:=hE.row T C D;exact⟨⟨t,t',R,S,hE,g.ext p3 m,λ_ _ e=>e⟩,by rw[d.pid]⟩
 .omega
 .omega
 .obtain⟨u,w,p,q,hN,v,up,rfl,rfl,k⟩:=Za hI g T Ag Ag p2 l;have d:=hN.row (up _ _ T) p3 m;obtain⟨rfl,p4,rfl,rfl⟩|⟨⟨_,_,_,rfl⟩,rfl,rfl⟩:=p4<;>obtain⟨rfl,o,rfl,rfl⟩|⟨⟨_,_,_,rfl⟩,rfl,rfl⟩:=o
  .exact⟨⟨u,w,p,q,hN,v,up⟩,by rw[d.pid]⟩
  .obtain⟨_,e⟩|⟨⟨_,_,_,e⟩,_⟩:=k<;>cases e
  .obtain⟨e,_⟩|⟨_,⟨_,_,_,e⟩,_⟩:=k<;>cases e
  .obtain⟨e,_⟩|⟨_,_,hb⟩:=k
   .cases e
   .exact⟨⟨u,w,p,q,hN.Bj (up _ _ T) ⟨d.pid,d.par,d.st,d.A,d.B,by simp only[d.P],d.sw,d.en,d.Af,d.fds,d.co,hb⟩,v,up⟩,rfl⟩
end
end Go.Fxa
