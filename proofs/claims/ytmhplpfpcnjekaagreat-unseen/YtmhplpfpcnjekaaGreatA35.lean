/- Two kernels that are alike sta -/
import Derived.Test.YtmhplpfpcnjekaaGreatA34
import Derived.Maps.OwnIn
namespace Go.Fxa
open Conc Proofs RowKit Proofs.Tryz
set_option maxRecDepth 1000000
set_option maxHeartbeats 0
variable {p p' i j call res wr:Nat} {k k':Nat×Nat} {v:n_} {d:Nat->Nat} {P:Prop} {ev ev':List Ev} {r:PR}
section
variable {c:Bool} {t t':Tag} {R S:Nat->Nat->Prop} {K L K' L':KS} {a b:Nat} {r s:PR} {x y x' y':Nat} {f f':n_}
theorem Ϯ.mono {l:Nat->Nat->Prop} (h:∀p q,R p q->l p q) {u o:Nat×Nat} {c m:Ct} (g:Ϯ R u o c m):Ϯ l u o c m:=⟨g.k,λe=>h _ _ (g.f e),g.ws,g.x,g.y,g.n,λe=>h _ _ (g.e e)⟩
def TS (R:Nat->Nat->Prop) (p p':Nat):Nat->Nat->Prop:=λu v=>R u v\/(u=p/\v=p')
theorem CZ.add (h:CZ c t t' R S K L) {c1 c2:Ct} (A:∀z,¬R p z) (B:∀z,¬R z p') (D:K.op p=L.op p') (C:Ϯ (TS R p p') k k' c1 c2):CZ c (Bg t p k) (Bg t' p' k') (TS R p p') S { K with ct:=Ag K.ct p c1 } { L with ct:=Ag L.ct p' c2 }:=by
 have up:∀u v,R u v->TS R p p' u v:=λ_ _ e=>.inl e
 have f:∀{u v},R u v->u≠p:=λa e=>by subst e;exact A _ a
 have g:∀{u v},R u v->v≠p':=λa e=>by subst e;exact B _ a
 refine⟨?_,?_,?_,h.sl,h.sr,λu v a=>?_,h.Aw,h.BD,h.core,h.swap,λi=>(h.nm i).mono up,h.nl.mono up,h.desc,λi j=>(h.ef i j).mono up,λi j=>?_⟩
 .rintro u v m (a|⟨rfl,rfl⟩) (d|⟨e,rfl⟩)
  .exact h.rl u v m a d
  .subst e;exact ql a (A v)
  .exact ql d (A m)
  .rfl
 .rintro u l v (a|⟨rfl,rfl⟩) (d|⟨rfl,e⟩)
  .exact h.rr u l v a d
  .subst e;exact ql a (B u)
  .exact ql d (B l)
  .rfl
 .rintro u v (a|⟨rfl,rfl⟩)
  .obtain⟨n,o⟩:=h.rd u v a;refine⟨?_,o⟩;show Ϯ _ (Bg t p k u) (Bg t' p' k' v) (Ag K.ct p c1 u) (Ag L.ct p' c2 v);rw[AP (f a),AP (g a)];unfold Ag;rw[ru (f a),ru (g a)];exact n.mono up
  .refine⟨?_,D⟩;show Ϯ _ (Bg t u k u) (Bg t' v k' v) (Ag K.ct u c1 u) (Ag L.ct v c2 v);rw[AY,AY];unfold Ag;rw[rC rfl,rC rfl];exact C
 .obtain⟨r,s,e1,e2,q⟩:=h.sd u v a;exact⟨r,s,e1,e2,q.mono up⟩
 .obtain e|⟨w,u,v,e1,e2,b,k1,k2⟩:=h.tv i j
  .exact .inl e
  .refine .inr ⟨w,u,v,e1,e2,.inl b,?_,?_⟩
   .rw[AP (f b),AP (g b)];exact k1
   .rw[AP (f b),AP (g b)];exact k2
theorem CZ.entry (h:CZ c t t' R S K L) {o o':d_ Nat} {v':n_} (e:Ko R o o') (g:TvR t t' R v v'):CZ c t t' R S { K with desc:=Ag K.desc i 1,ef:=Ag K.ef i o,tv:=Ag K.tv i v } { L with desc:=Ag L.desc i 1,ef:=Ag L.ef i o',tv:=Ag L.tv i v' }:=
 ⟨h.rl,h.rr,h.rd,h.sl,h.sr,h.sd,h.Aw,h.BD,h.core,h.swap,h.nm,h.nl,Lj h.desc rfl,Lj (P:=Ko R) h.ef e,Lj (P:=TvR t t' R) h.tv g⟩
theorem CZ.more (h:CZ c t t' R S K L) (e:R a b):CZ c t t' R S { K with op:=Ag K.op a (K.op a+1) } { L with op:=Ag L.op b (L.op b+1) }:=
 ⟨h.rl,h.rr,λp q d=>⟨(h.rd p q d).1,h.upd (P:=Eq) e (h.rd p q d).2 (by rw[(h.rd a b e).2]) d⟩,h.sl,h.sr,h.sd,h.Aw,h.BD,h.core,h.swap,h.nm,h.nl,h.desc,h.ef,h.tv⟩
theorem YW {e:Nat->d_ Nat} (h:∀i,i<20->e i≠some p):DI d e p=0:=by
 cases hz:DI d e p with
 |zero=>rfl
 |succ n=>
  exfalso
  obtain⟨i,c,a⟩:=Qz (f:=λi=>if 0<d i/\e i=some p then 1 else 0) (l:=List.range 20) (by unfold DI at hz;omega)
  split at a
  .rename_i b;exact h i (List.mem_range.1 c) b.2
  .omega
theorem CZ.op0 (h:CZ c t t' R S K L) (m:∀z,¬R p z) (n:∀z,¬R z p') (g:∃NC NS,Eo NC NS K) (l:∃NC NS,Eo NC NS L):K.op p=L.op p':=by
 obtain⟨_,_,g⟩:=g;obtain⟨_,_,l⟩:=l;have z1:DI K.desc K.ef p=0:=YW λi a e=>by
  have:=h.ef i a
  rw[e]at this
  obtain⟨q,_,b⟩:=this.jM rfl
  exact m q b
 have d:DI L.desc L.ef p'=0:=YW λi a e=>by
  have:=(h.ef i a).swap
  rw[e]at this
  obtain⟨q,_,b⟩:=this.jM rfl
  exact n q b
 rw[g.Ef.op,l.Ef.op,z1,d]
theorem aw7 {l:List Nat} {q:Nat} (e:p∈l) (g:q∈l) (h:p≠q):2<=l.length:=by
 match l with
 |[]=>cases e
 |[z]=>simp at e g;omega
 |_::_::_=>simp
theorem ak5 (l:i<20) (m:j<20) (h:Least d i) (g:Least (Ag d i 1) j):2<=Ff d 20:=by
 have a:i≠j:=λe=>by have:=g.1;subst e;simp[Ag]at this
 have b:d j=0:=by have:=g.1;simpa [Ag,ik a]using this
 unfold Ff;exact aw7 (List.mem_filter.2 ⟨List.mem_range.2 l,by simp[h.1]⟩) (List.mem_filter.2 ⟨List.mem_range.2 m,by simp[b]⟩) a
theorem kQ (g:i<20) (e:d i=0):1<=Ff d 20:=by
 unfold Ff;exact List.length_pos_of_mem (List.mem_filter.2 ⟨List.mem_range.2 g,by simp[e]⟩)
theorem bn {v:Int} (g:v≠-1):∀{l:List Int} {i j:Nat},l[i]?=some (-1)->(l.set i v)[j]?=some (-1)->2<=DC l
 |[],_,_,h,_=>by simp at h
 |n::l,0,0,_,h=>by simp at h;exact ql h g
 |n::l,0,j+1,a,b=>by
  simp at a b
  subst a
  have:(-1:Int)∈l.filter SN:=List.mem_filter.2 ⟨t_ b,rfl⟩
  have:=List.length_pos_of_mem this
  show 2<=(List.filter SN (-1::l)).length
  rw[List.filter_cons_of_pos rfl];simp;omega
 |n::l,i+1,0,a,b=>by
  simp at a b
  subst b
  have:(-1:Int)∈l.filter SN:=List.mem_filter.2 ⟨t_ a,rfl⟩
  have:=List.length_pos_of_mem this
  show 2<=(List.filter SN (-1::l)).length
  rw[List.filter_cons_of_pos rfl];simp;omega
 |n::l,i+1,j+1,a,b=>by
  simp at a b
  have:=bn g a b
  show 2<=(List.filter SN (n::l)).length
  unfold DC at this
  by_cases e:SN n=true
  .rw[List.filter_cons_of_pos e];simp;omega
  .rw[List.filter_cons_of_neg e];exact this
theorem JK.add (g:JK t t' R K L) (m:∀z,¬R p z) (n:∀z,¬R z p') (e1:K.T p=k) (e2:L.T p'=k') (h:k≠(0,0)) (l:k'≠(0,0)):JK (Bg t p k) (Bg t' p' k') (TS R p p') K L:=by
 rintro u v (a|⟨rfl,rfl⟩)
 .rw[AP (λe=>by subst e;exact m v a),AP (λe=>by subst e;exact n u a)];exact g u v a
 .rw[AY,AY];exact⟨⟨e1,h⟩,e2,l⟩
theorem JK.Jn (g:JK t t' R K L) (e:K.T p=(0,0)) (z:Nat):¬R p z:=λa=>by
 obtain⟨⟨e1,b⟩,_⟩:=g _ _ a;exact b (e1.symm.trans e)
theorem JK.Jm (g:JK t t' R K L) (e:L.T p=(0,0)) (z:Nat):¬R z p:=λa=>by
 obtain⟨_,e1,b⟩:=g _ _ a;exact b (e1.symm.trans e)
theorem Eu.ffS (g:Eu c R r s) {l m:List Int} {u v:List Nat} (e:l=m) (h:u=v):Eu c R { r with fds:=l,Af:=u } { s with fds:=m,Af:=v }:=⟨g.pid,g.par,g.st,g.A,g.B,g.P,g.sw,g.en,h,e,g.co,g.bl⟩
theorem an9 {at_:Nat} (h:CZ c t t' R S K L) (t1:Si K.T K'.T) (t2:Si L.T L'.T) (g0:JK t t' R K L) (hab:S a b) (hR:Eu c R r s) (o1:∃NC NS,Eo NC NS K) (o2:∃NC NS,Eo NC NS L) (h1:aG K a r at_ K' x y f) (h2:aG L b s at_ L' x' y' f'):IM c S K' L' x y f x' y' f':=by
 have E:=Wj h.desc;have key:∀{d:Nat->Nat} {l:List Int} {m w A G:Nat},m<20->w<20->Least d m->Least (Ag d m 1) w->IK l A->IK (l.set A (m:Int)) G->2<=DC l/\2<=Ff d 20:=λz1 z2 z3 z4 z5 z6=>⟨bn zD z5.1 z6.1,ak5 z1 z2 z3 z4⟩
 obtain⟨B,h1⟩|⟨B,p2,h1⟩|⟨B,p2,p3,h1⟩|⟨B,p,e1,e2,T3,m,w,A,G,⟨p2,p3,p4,p5,p6,p7,p8,p9⟩,a1,a2,J,M,N,O,rfl,rfl,rfl,rfl⟩:=h1<;>obtain⟨q1,h2⟩|⟨q1,u,h2⟩|⟨q1,u,I,h2⟩|⟨q1,j,X,Y,T3',i1',i2',F,H,⟨u,I,W,q5,q6,q7,q8,q9⟩,P,Q,U,V,C,D,rfl,rfl,rfl,rfl⟩:=h2
 all_goals first
  |exact IM.no h g0 h1 h2
  |(exfalso;rw[hR.Af]at B;omega)
  |(exfalso;rw[hR.fds]at p2;omega)
  |(exfalso;omega)
  |(exfalso;have:=key P U Q V C D;rw[<-hR.fds]at this;omega)
  |(exfalso;have:=key a1 J a2 M N O;rw[hR.fds]at this;omega)
  |skip
 obtain rfl:=Least.one h.desc a1 P a2 Q;obtain rfl:A=F:=by rw[<-hR.fds]at C;exact N.one C
 obtain rfl:=Least.one (Lj h.desc rfl) J U M V;obtain rfl:G=H:=by rw[<-hR.fds]at D;exact O.one D
 subst p5 p6 q5 q6;have hA:=h.add (k:=(11,0)) (k':=(11,0)) (c1:=⟨[],true,true,0⟩) (c2:=⟨[],true,true,0⟩) (g0.Jn p2) (g0.Jm u) (h.op0 (g0.Jn p2) (g0.Jm u) o1 o2) ⟨rfl,λe=>by simp at e,rfl,rfl,rfl,λ_ _=>rfl,λe=>by simp at e⟩;have m1:∀z,¬TS R p j (p+1) z:=λz g=>by
  obtain g|⟨e,_⟩:=g
  .exact g0.Jn p3 z g
  .omega
 have n:∀z,¬TS R p j z (j+1):=λz g=>by
  obtain g|⟨_,e⟩:=g
  .exact g0.Jm I z g
  .omega
 have hB:=hA.add (k:=(13,0)) (k':=(13,0)) (c1:=⟨[],false,false,p⟩) (c2:=⟨[],false,false,j⟩) m1 n (h.op0 (g0.Jn p3) (g0.Jm I) o1 o2) ⟨rfl,λe=>by simp at e,rfl,rfl,rfl,λe _=>by simp at e,λ_=>.inl (.inr ⟨rfl,rfl⟩)⟩;have m2:∀z,¬TS (TS R p j) (p+1) (j+1) (p+2) z:=λz g=>by
  obtain(g|⟨e,_⟩)|⟨e,_⟩:=g
  .exact g0.Jn p4 z g
  .omega
  .omega
 have q:∀z,¬TS (TS R p j) (p+1) (j+1) z (j+2):=λz g=>by
  obtain(g|⟨_,e⟩)|⟨_,e⟩:=g
  .exact g0.Jm W z g
  .omega
  .omega
 have hC:=hB.add (k:=(14,0)) (k':=(14,0)) (c1:=⟨[],false,false,p⟩) (c2:=⟨[],false,false,j⟩) m2 q (h.op0 (g0.Jn p4) (g0.Jm W) o1 o2) ⟨rfl,λe=>by simp at e,rfl,rfl,rfl,λ_ e=>by simp at e,λ_=>.inl (.inl (.inr ⟨rfl,rfl⟩))⟩;have hD:=hC.entry (i:=m) (o:=none) (o':=none) (v:=.iface 330 (ptr (p+1))) (v':=.iface 330 (ptr (j+1))) trivial (.inr ⟨330,p+1,j+1,rfl,rfl,.inl (.inr ⟨rfl,rfl⟩),λ_=>⟨by rw[AP zD,AY],by rw[AP zD,AY]⟩,λe=>by simp at e⟩);have hE:=hD.entry (i:=w) (o:=none) (o':=none) (v:=.iface 334 (ptr (p+2))) (v':=.iface 334 (ptr (j+2))) trivial (.inr ⟨334,p+2,j+2,rfl,rfl,.inr ⟨rfl,rfl⟩,λe=>by simp at e,λ_=>⟨by rw[AY],by rw[AY]⟩⟩);have hF:=hE.tags (T1:=T3) (T2:=T3');have gA:=(g0.ext t1 t2).add (g0.Jn p2) (g0.Jm u) p7 q7 zF zF;have Z:=gA.add m1 n p8 q8 zF zF;have gC:=Z.add m2 q p9 q9 zF zF;refine⟨_,_,_,S,CZ.Bi hF hab ((hR.mono λ_ _ e=>.inl (.inl (.inl e))).ffS ?_ ?_),gC,λ_ _ e=>e,rfl,rfl,.inl ⟨rfl,rfl⟩⟩
 .rw[hR.fds]
 .rw[hR.Af]
theorem ao1 {num:Nat} (h:CZ c t t' R S K L) (t1:Si K.T K'.T) (t2:Si L.T L'.T) (g0:JK t t' R K L) (hab:S a b) (hR:Eu c R r s) (o1:∃NC NS,Eo NC NS K) (o2:∃NC NS,Eo NC NS L) (h1:RZ K a r i num K' x y f) (h2:RZ L b s i num L' x' y' f'):IM c S K' L' x y f x' y' f':=by
 have N:=Wj h.desc;have C:=h.nm i;have F:=C.none;obtain⟨p1,h1⟩|⟨p1,⟨p2,p3,h1⟩|⟨p2,⟨p3,h1⟩|⟨p3,p4,h1⟩|⟨l,n,nm,T,ct,w,j,p3,p4,p5,p6,p7,rfl,rfl,rfl,rfl⟩⟩⟩:=h1<;>obtain⟨q1,h2⟩|⟨q1,⟨J,H,h2⟩|⟨J,⟨H,h2⟩|⟨H,B,h2⟩|⟨g,d,G,I,X,O,j',H,B,q5,q6,U,rfl,rfl,rfl,rfl⟩⟩⟩:=h2
 all_goals first
  |(exfalso;omega)
  |exact IM.no h g0 h1 h2
  |(exfalso;rw[F]at p2;exact J ⟨p2,p3⟩)
  |(exfalso;rw[<-F]at J;exact p2 ⟨J,H⟩)
  |(exfalso;rw[hR.fds]at p3;omega)
  |(exfalso;have:=Rh U;rw[<-hR.fds]at this;omega)
  |(exfalso;have:=Rh p7;rw[hR.fds]at this;omega)
  |(exfalso;have:=kQ q5 q6.1;omega)
  |(exfalso;have:=kQ p5 p6.1;omega)
  |skip
 obtain rfl:w=O:=Least.one h.desc p5 q5 p6 q6;obtain rfl:x=x':=by rw[<-hR.fds]at U;exact p7.one U
 have fin:∀{u V:Tag} {A:Nat->Nat->Prop},CZ c u V A S { K with nm:=nm,T:=T,ct:=ct } { L with nm:=G,T:=I,ct:=X }->(∀p q,R p q->A p q)->A l g->(∀z,¬A n z)->(∀z,¬A z d)->K.op n=L.op d->JK u V A { K with T:=Bg T n (12,l) } { L with T:=Bg I d (12,g) }->IM c S (KS.Bi { K with nm:=nm,op:=Ag K.op l (K.op l+1),T:=Bg T n (12,l),desc:=Ag K.desc w 1,ef:=Ag K.ef w (some l),tv:=Ag K.tv w (.iface 337 (ptr n)),ct:=Ag ct n Ct.nil } a { r with fds:=r.fds.set x (w:Int) }) (KS.Bi { L with nm:=G,op:=Ag L.op g (L.op g+1),T:=Bg I d (12,g),desc:=Ag L.desc w 1,ef:=Ag L.ef w (some g),tv:=Ag L.tv w (.iface 337 (ptr d)),ct:=Ag X d Ct.nil } b { s with fds:=s.fds.set x (w:Int) }) x 0 .nilFunc x 0 .nilFunc:=by
  intro u V A hI up D Z nb AZ hT
  have m:=hI.add (k:=(12,l)) (k':=(12,g)) (c1:=Ct.nil) (c2:=Ct.nil) Z nb AZ ⟨rfl,λ_=>.inl D,rfl,rfl,rfl,λ_ _=>rfl,λe=>by simp at e⟩
  have M:=m.more (a:=l) (b:=g) (.inl D)
  have hC:=M.entry (i:=w) (o:=some l) (o':=some g) (v:=.iface 337 (ptr n)) (v':=.iface 337 (ptr d)) (show TS A n d l g from .inl D) (.inr ⟨337,n,d,rfl,rfl,.inr ⟨rfl,rfl⟩,λe=>by simp at e,λe=>by simp at e⟩)
  have hD:=hC.tags (T1:=Bg T n (12,l)) (T2:=Bg I d (12,g))
  have gA:=hT.add Z nb (k:=(12,l)) (k':=(12,g)) AY AY zF zF
  exact⟨_,_,_,S,CZ.Bi hD hab ((hR.mono λ_ _ e=>.inl (up _ _ e)).bm7 (by rw[hR.fds])),gA,λ_ _ e=>e,rfl,rfl,.inl ⟨rfl,rfl⟩⟩
 have Y:=g0.ext t1 t2;obtain⟨z1,rfl,rfl,rfl⟩|⟨z1,W,rfl,rfl,rfl⟩:=p3<;>obtain⟨w1,rfl,rfl,rfl⟩|⟨w1,w2,rfl,rfl,rfl⟩:=H
 .rw[z1,w1]at C;exact fin h (λ_ _ e=>e) C (g0.Jn p4) (g0.Jm B) (h.op0 (g0.Jn p4) (g0.Jm B) o1 o2) Y
 .rw[z1,w1]at C;exact C.elim
 .rw[z1,w1]at C;exact C.elim
 .have P:n≠l:=λe=>by subst e;rw[AY]at p4;simp at p4
  have Q:d≠g:=λe=>by subst e;rw[AY]at B;simp at B
  rw[AP P]at p4;rw[AP Q]at B;have m:=h.add (k:=(10,0)) (k':=(10,0)) (c1:=Ct.nil) (c2:=Ct.nil) (g0.Jn W) (g0.Jm w2) (h.op0 (g0.Jn W) (g0.Jm w2) o1 o2) ⟨rfl,λe=>by simp at e,rfl,rfl,rfl,λ_ _=>rfl,λe=>by simp at e⟩;have M:CZ c (Bg t l (10,0)) (Bg t' g (10,0)) (TS R l g) S { K with nm:=Ag K.nm i (some l),T:=Bg K.T l (10,0),ct:=Ag K.ct l Ct.nil } { L with nm:=Ag L.nm i (some g),T:=Bg L.T g (10,0),ct:=Ag L.ct g Ct.nil }:=⟨m.rl,m.rr,m.rd,m.sl,m.sr,m.sd,m.Aw,m.BD,m.core,m.swap,λk=>by
   show Ko _ (Ag K.nm i (some l) k) (Ag L.nm i (some g) k)
   unfold Ag
   split
   .exact .inr ⟨rfl,rfl⟩
   .exact m.nm k,m.nl,m.desc,m.ef,m.tv⟩
  have m1:∀z,¬TS R l g n z:=λz E=>by
   obtain E|⟨e,_⟩:=E
   .exact g0.Jn p4 z E
   .exact P e
  have m2:∀z,¬TS R l g z d:=λz E=>by
   obtain E|⟨_,e⟩:=E
   .exact g0.Jm B z E
   .exact Q e
  exact fin M (λ_ _ e=>.inl e) (.inr ⟨rfl,rfl⟩) m1 m2 (h.op0 (g0.Jn p4) (g0.Jm B) o1 o2) (Y.add (g0.Jn W) (g0.Jm w2) ((AP (ik P)).trans AY) ((AP (ik Q)).trans AY) zF zF)
theorem wR (h:¬(1<=call/\call<=14)):yc K b r call=GU K 12:=by
 unfold yc;split<;>first|rfl|(exfalso;omega)
theorem Yp (h:CZ c t t' R S K L) (C:JK t t' R K L) (B:S a b) (D:K.ps a=some r) (E:L.ps b=some s) (z:kE K a r call K' x y f) (w:kE L b s call L' x' y' f'):IM c S K' L' x y f x' y' f':=by
 obtain⟨z,o,⟨_,_,j,_⟩,_⟩:=z;obtain⟨w,p,⟨_,_,l,_⟩,_⟩:=w
 replace j:∃m n,Eo m n K:=⟨_,_,j⟩
 replace l:∃m n,Eo m n L:=⟨_,_,l⟩
 have i:=h.row B D E;have g:=C.ext o p;have d:=i.DZ;obtain⟨k,z⟩|⟨k,z⟩:=z<;>obtain⟨q1,w⟩|⟨q1,w⟩:=w
 .exact IM.no h C z w
 .rw[i.A,i.Af]at k;exact ql q1 k
 .rw[i.A,i.Af]at k;exact ql k q1
 by_cases e:1<=call/\call<=14
 .have e:call=1\/call=2\/call=3\/call=4\/call=5\/call=6\/call=7\/call=8\/call=9\/call=10\/call=11\/call=12\/call=13\/call=14:=zD
  obtain rfl|rfl|rfl|rfl|rfl|rfl|rfl|rfl|rfl|rfl|rfl|rfl|rfl|rfl:=e
  .obtain⟨q,rfl,rfl,u⟩:=z;obtain⟨v1,rfl,rfl,v4⟩:=w;rw[<-d 0]at v1 v4;obtain rfl:x=x':=q.trans v1.symm;exact IM.same (h.end_ B D E j u v4) g
  .exact ao4 h g C i z w
  .have w:az L b s (DZ s 0) L' x' y' f':=w;rw[<-d 0]at w;exact an5 h g C B D E z w
  .have w:XK L b s (DZ s 0) L' x' y' f':=w;rw[<-d 0]at w;exact ao3 h g C B D E z w
  .have w:aG L b s (DZ s 0) L' x' y' f':=w;rw[<-d 0]at w;exact an9 h o p C B i j l z w
  .have w:aF L b s (DZ s 0) (DZ s 1) (DZ s 2) L' x' y' f':=w;rw[<-d 0,<-d 1,<-d 2]at w;exact an8 h g C B i z w
  .have w:Vm L s (DZ s 0) (DZ s 1) (DZ s 2) L' x' y' f':=w;rw[<-d 0,<-d 1,<-d 2]at w;exact ό h g C i z w
  .have w:Vo L b s (DZ s 0) L' x' y' f':=w;rw[<-d 0]at w;exact ώ h g C B i z w
  .have w:zZ L b s (DZ s 0) L' x' y' f':=w;rw[<-d 0]at w;exact bc7 h g C B i z w
  .have w:RZ L b s (DZ s 0) (DZ s 1) L' x' y' f':=w;rw[<-d 0,<-d 1]at w;exact ao1 h o p C B i j l z w
  .have w:aH L b s (DZ s 0) L' x' y' f':=w;rw[<-d 0]at w;exact ao5 h g C B D E z w
  .obtain⟨rfl,q,rfl,rfl⟩:=z;obtain⟨rfl,v1,rfl,rfl⟩:=w;obtain rfl:x=x':=(by rw[q,v1,i.pid]);exact IM.same h C
  .have w:Q4 L (DZ s 0) L' x' y' f':=w;rw[<-d 0]at w;exact vS h g C z w
  .have w:aC L s (DZ s 0) (DZ s 1) L' x' y' f':=w;rw[<-d 0,<-d 1]at w;exact an7 h g C i z w
 .rw[wR e]at z w;exact IM.no h C z w
def TR (c:Bool) (R:Nat->Nat->Prop) (p q:Nat×Nat×PR):Prop:=p.1=q.1/\p.2.1=q.2.1/\Eu c R p.2.2 q.2.2
theorem TR.ite [Decidable P] {p q p' e:Nat×Nat×PR} (g:TR c R p p') (l:TR c R q e):TR c R (if P then p else q) (if P then p' else e):=by
 by_cases h:P
 .rw[rC h,rC h];exact g
 .rw[ru h,ru h];exact l
theorem Eu.ite [Decidable P] {p q p' e:PR} (g:Eu c R p p') (l:Eu c R q e):Eu c R (if P then p else q) (if P then p' else e):=by
 by_cases h:P
 .rw[rC h,rC h];exact g
 .rw[ru h,ru h];exact l
theorem Eu.step (e:Eu c R r s):TR c R (FY r) (FY s):=by
 have e1:=e.P;have e2:=e.Af;have e3:=e.A;have e4:=e.B;unfold FY Xu ED FK;dsimp only;rw[<-e1,<-e2,<-e3,<-e4]
 repeat' refine TR.ite ?_ ?_
 all_goals refine⟨rfl,rfl,?_⟩
 all_goals try refine Eu.ite ?_ ?_
 all_goals exact⟨e.pid,e.par,e.st,by first|rfl|exact e3,by first|rfl|exact e4,by first|rfl|exact e1,e.sw,e.en,by first|rfl|exact e2,e.fds,e.co,e.bl⟩
def Nx (c:Bool) (S:Nat->Nat->Prop) (K L:KS):Prop:=∃u u' R' S',CZ c u u' R' S' K L/\JK u u' R' K L/\∀p q,S p q->S' p q
theorem Yl {n g e:Nat} {h l:PR} (q:Eu c R r s) (m:FY r=(n,call,h)) (o:FY s=(g,e,l)):n=g/\call=e/\Eu c R h l:=by
 have:=q.step;rw[m,o]at this;exact⟨this.1,this.2.1,this.2.2⟩
theorem an6 (h:CZ c t t' R S K L) (g:JK t t' R K L) (M:S a b) (N:VX a K ev K') (O:VX b L ev' L'):Nx c S K' L'/\ev=ev':=by
 obtain⟨r,n,call,E,e1,e2,N⟩:=N;obtain⟨s,C,f,G,w1,w2,O⟩:=O;have p:=h.row M e1 w1;obtain⟨rfl,rfl,i⟩:=Yl p e2 w2;have j:=h.Bi M i;obtain⟨q,rfl,rfl⟩|⟨q,A,x,y,F,p2,p3,p4,rfl,rfl⟩:=N<;>obtain⟨q1,rfl,rfl⟩|⟨q1,B,I,J,H,v,w,D,rfl,rfl⟩:=O
 .exact⟨⟨t,t',R,S,j,g,λ_ _ e=>e⟩,rfl⟩
 .omega
 .omega
 .obtain⟨u,z,l,m,k,o,up,rfl,rfl,_⟩:=Yp j g M Aj Aj p2 v;have d:=k.row (up _ _ M) p3 w;exact⟨⟨u,z,l,m,k.Bi (up _ _ M) ⟨d.pid,d.par,d.st,rfl,rfl,d.P,d.sw,d.en,d.Af,d.fds,d.co,d.bl⟩,o,up⟩,by rw[d.pid]⟩
theorem VH (h:CZ c t t' R S K L) (g:JK t t' R K L) (O:S a b) (Q:VX a K ev K') (T:Last b L ev' L'):False:=by
 obtain⟨r,n,call,F,e1,e2,Q⟩:=Q;obtain⟨s,E,f,H,w1,w2,T⟩:=T;have m:=h.row O e1 w1;obtain⟨rfl,rfl,i⟩:=Yl m e2 w2;have k:=h.Bi O i;obtain⟨p,_⟩|⟨p,w,x,y,G,p2,p3,p4,_⟩:=Q<;>obtain⟨q1,_⟩|⟨q1,z,M,N,C,I,q,v,d⟩:=T
 .omega
 .omega
 .omega
 .obtain⟨u,J,A,B,l,D,up,rfl,rfl,o⟩:=Yp k g O Aj Aj p2 q;have j:=l.row (up _ _ O) p3 v;obtain⟨_,d,_⟩|⟨⟨_,_,_,rfl⟩,_⟩:=d
  .rw[<-j.en,p4]at d;cases d
  .obtain⟨_,e⟩|⟨⟨_,_,_,e⟩,_⟩:=o
   .cases e
   .cases e
theorem ao2 (h:CZ c t t' R S K L) (g:JK t t' R K L) (Y:S a b) (Z:Last a K ev K') (h2:Last b L ev' L'):Nx c S K' L'/\ev=ev':=by
 obtain⟨r,n,call,U,e1,e2,Z⟩:=Z;obtain⟨s,T,i,V,w1,w2,h2⟩:=h2;have E:=h.row Y e1 w1;obtain⟨rfl,rfl,k⟩:=Yl E e2 w2;have C:=h.Bi Y k;obtain⟨G,⟨p2,p3,p4,_⟩,J,H,rfl⟩|⟨G,N,x,y,f,J,p2,p3,p4⟩:=Z<;>obtain⟨q1,⟨m,o,p,_⟩,M,I,rfl⟩|⟨q1,O,W,X,Q,M,m,o,p⟩:=h2
 .have z:=C.end_ Y Aj Aj p4 p2 m;have d:=z.row Y H I;exact⟨⟨t,t',R,S,z,g.ext p3 o,λ_ _ e=>e⟩,by rw[d.pid]⟩
 .omega
 .omega
 .obtain⟨u,D,q,v,j,w,up,rfl,rfl,l⟩:=Yp C g Y Aj Aj p2 m;have d:=j.row (up _ _ Y) p3 o;obtain⟨rfl,p4,rfl,rfl⟩|⟨⟨_,_,_,rfl⟩,rfl,rfl⟩:=p4<;>obtain⟨rfl,p,rfl,rfl⟩|⟨⟨_,_,_,rfl⟩,rfl,rfl⟩:=p
  .exact⟨⟨u,D,q,v,j,w,up⟩,by rw[d.pid]⟩
  .obtain⟨_,e⟩|⟨⟨_,_,_,e⟩,_⟩:=l<;>cases e
  .obtain⟨e,_⟩|⟨_,⟨_,_,_,e⟩,_⟩:=l<;>cases e
  .obtain⟨e,_⟩|⟨_,_,F⟩:=l
   .cases e
   .exact⟨⟨u,D,q,v,j.Bi (up _ _ Y) ⟨d.pid,d.par,d.st,d.A,d.B,by simp only[d.P],d.sw,d.en,d.Af,d.fds,d.co,F⟩,w,up⟩,rfl⟩
end
def GK (P:l_) (f:h_):Code:=match (((P.funcs[f]?).bind λf=>f.body):d_ Code)with
 |some c=>c
 |none=>Code.skip
def behind:Nat->Code->Code
 |0,c=>c
 |n+1,.seq _ c=>behind n c
 |_+1,_=>.skip
def piece:Code->Code
 |.seq c _=>c
 |c=>c
theorem Qu:GK prog 56=Tryz.f56.body.getD .skip:=sJ
theorem bf4:GK prog 136=Tryz.f136.body.getD .skip:=sJ
theorem bf3:GK prog 187=Tryz.f187.body.getD .skip:=sJ
def gA (P:l_):Code:=match GK P 56 with | .seq _ (.seq _ (.seq _ (.seq _ (.seq _ (.seq _ (.block _ (.loop (.block _ (.seq _ (.seq _ (.block _ (.cond _ a c))))))))))))=>.seq a c|_=>.skip
def gR2 (P:l_):Code:=match GK P 56 with | .seq _ (.seq _ (.seq c _))=>c|_=>.skip
theorem cd1:R2 prog=gR2 prog:=sJ
def gR3 (P:l_):Code:=match GK P 56 with | .seq _ (.seq _ (.seq _ (.seq c _)))=>c|_=>.skip
theorem cd0:R3 prog=gR3 prog:=sJ
def bi9 (P:l_):Code:=match GK P 136 with | .seq (.seq _ (.block _ (.loop (.seq _ (.seq _ (.seq (.block _ (.seq c _)) _)))))) _=>c|_=>.skip
theorem ay8:WI prog=bi9 prog:=sJ
def bv6 (P:l_):Code:=match gA P with | .seq (.seq _ (.seq _ (.seq (.seq c _) _))) _=>c|_=>.skip
theorem bs2:R11 prog=bv6 prog:=sJ
def bv5 (P:l_):Code:=match gA P with | .seq (.seq _ (.seq _ (.seq (.seq _ (.cond _ (.seq c _) _)) _))) _=>c|_=>.skip
theorem bs1:R12 prog=bv5 prog:=sJ
def bv3 (P:l_):Code:=match gA P with | .seq (.seq _ (.seq _ (.seq _ (.seq _ (.seq (.seq c _) _))))) _=>c|_=>.skip
theorem br9:R16 prog=bv3 prog:=sJ
def RJ (f:Y_) (a b c d e g h:n_):X_:=#[a,b,c,f 3,f 4,f 5,f 6,d,e,g,h,f 11,f 12,f 13,f 14,f 15,f 16,f 17,f 18,f 19,f 20,f 21,f 22,f 23,f 24,f 25,f 26,f 27,f 28,f 29,f 30,f 31,f 32,f 33,f 34,f 35,f 36,f 37,f 38,f 39,f 40,f 41,f 42,f 43,f 44,f 45,f 46,f 47,f 48,f 49,f 50,f 51,f 52,f 53,f 54,f 55,f 56,f 57,f 58,f 59,f 60,f 61,f 62,f 63,f 64,f 65,f 66,f 67,f 68,f 69,f 70,f 71,f 72,f 73,f 74,f 75]
theorem ba4 {fn:Fn} {ca cb:X_} {w:o_}:(binOp .neq 32 (.func fn ca cb) .nilFunc).run prog w=.ok (.bool true) w:=sJ
section
variable {NC NS b:Nat} {K0:KS} {v0:o_} {n:Nat} {m:Nat} {w:o_} {q:Nat} {i:Int} {told x:n_} {bA:Nat} {f:Nat->n_}
theorem Ok.bi2 {A B P:Nat} {Af:List Nat} (o:r.Ok) (c:A<65536) (g:B<65536) (l:P<65536) (a:Af.length=r.Af.length) (s:∀x∈Af,x<65536):({ r with A:=A,B:=B,P:=P,Af:=Af }:PR).Ok:=
 ⟨c,g,l,o.st,o.pid,o.par,s,o.fds,o.fd,λe=>by obtain⟨k,h⟩:=o.len e;exact⟨k,by show Af.length=_/\_;rw[a];exact h⟩,λe=>⟨(o.off e).1,by have:=(o.off e).2.1;rw[this]at a;exact List.length_eq_zero_iff.1 a,(o.off e).2.2⟩⟩
theorem Ok.bt0 (o:r.Ok):({ r with bl:=v }:PR).Ok:=⟨o.A,o.B,o.P,o.st,o.pid,o.par,o.Af,o.fds,o.fd,o.len,o.off⟩
theorem nS (h:SO NC NS b K0 v0 CY w) (s:Int):(R2 prog).wpIn NF m prog (Ends λu w'=>∃t,u=TN 76 (A8 t (pO (ptr K0.kb) (R_ b) s CY))/\SM NC NS b K0 v0 CY w') ⟨TN 76 (A8 f (pO (ptr K0.kb) (R_ b) s CY)),[]⟩ w:=by
 obtain⟨r,g,q,l⟩:=h;have p:=λm=>dm m w K0 b NC r g.ka g.ok.th g.ps l g.ok.nd g.ok.co (by have:=g.ok.len;omega)
 rw[cd1];unfold gR2;rw[Qu];dsimp only[Tryz.f56,Option.getD];show Code.wpIn (Fence.list LF none) m prog _ _ ⟨RJ f (ptr K0.kb) (Q_ b) (b_ s) CY (f 8) (f 9) (f 10),[]⟩ _;unfold RJ ptr;gi_wp2_with fail;refine(p _).mono ?_;rintro e w1 ⟨rfl,n,o,a,k,j,_,d⟩;gi_wp2;obtain⟨c,i⟩:=a.get g.ps;exact⟨rfl,rfl,_,Ea rfl (by simp[pO,pv,CY]),n,_,g.next o (g.ok.Ku a k) (a.rel b) j i,q,by rw[a.Aw];exact l,a,d,j.ext,_,_,g.ok.Ku a k⟩
theorem nR (h:SM NC NS b K0 v0 CY w) (o:Int):(R3 prog).wpIn NF m prog (Ends λt w'=>∃s,t=TN 76 (A8 s (pO (ptr K0.kb) (R_ b) o CY))/\SI NC NS b K0 v0 0 CY w') ⟨TN 76 (A8 f (pO (ptr K0.kb) (R_ b) o CY)),[]⟩ w:=by
 obtain⟨K,r,g,k,j,e,a⟩:=h;have c4:=g.ka.Il g.ps 4;have l:=g.ka.jy g.ps 4;simp[PR.arr]at c4;rw[cd0];unfold gR3;rw[Qu];dsimp only[Tryz.f56,Option.getD];show Code.wpIn (Fence.list LF none) m prog _ _ ⟨RJ f (ptr K0.kb) (Q_ b) (b_ o) CY (f 8) (f 9) (f 10),[]⟩ _;unfold RJ ptr;gi_wp2;have d:=g.ka.GH (r':={ r with bl:=.nilFunc }) (i:=4) (v:=.nilFunc) g.ps ⟨rfl,rfl,rfl,rfl,rfl⟩ rfl (.inl rfl);have c:=g.ok.GH (r':={ r with bl:=.nilFunc }) g.ps rfl rfl rfl rfl rfl rfl (Ok.bt0 (g.ok.pr b r g.ps));exact⟨rfl,rfl,_,Ea rfl (by simp[pO,pv,CY]),0,[],_,_,rfl,g.next d c.1 c.2 (g.ka.Ez g.ps) Aj,k,j,_,⟨K,r,e,g.ps,rfl,a⟩,rfl,rfl⟩
theorem step_ok (o:r.Ok) (y:r.en=false):(FY r).2.2.Ok/\(FY r).1<=2/\(FY r).2.1<65536/\(FY r).2.2.Af.length=r.Af.length/\(FY r).2.2.pid=r.pid/\(FY r).2.2.en=r.en/\(FY r).2.2.co=r.co/\(FY r).2.2.sw=r.sw/\(FY r).2.2.fds=r.fds:=by
 have d:=o.A;have c:=o.B;have u:=o.P;obtain⟨k,v,_,t⟩:=o.len y;have g:∀i:Nat,(r.Af[i]?).getD 0<65536:=λi=>by
  cases h:r.Af[i]? with
  |none=>decide
  |some x=>exact o.Af x (t_ h)
 have mk:∀{A B P:Nat} {Af:List Nat},A<65536->B<65536->P<65536->Af.length=r.Af.length->(∀x∈Af,x<65536)->({ r with A:=A,B:=B,P:=P,Af:=Af }:PR).Ok/\True:=λj l m p q=>⟨Ok.bi2 o j l m p q,eu⟩
 unfold FY;split
 .have b:r.P+2<65536:=zD
  have e:=g (r.P+1);generalize (r.Af[r.P+1]?).getD 0=n at*;generalize (r.Af[r.P]?).getD 0=op at*;unfold Xu;split
  .exact⟨(mk e c b rfl o.Af).1,zF,zF,rfl,rfl,rfl,rfl,rfl,rfl⟩
  split
  .exact⟨(mk d c e rfl o.Af).1,zF,zF,rfl,rfl,rfl,rfl,rfl,rfl⟩
  split
  .simp only;split
   .exact⟨(mk d c e rfl o.Af).1,zF,zF,rfl,rfl,rfl,rfl,rfl,rfl⟩
   .exact⟨(mk d c b rfl o.Af).1,zF,zF,rfl,rfl,rfl,rfl,rfl,rfl⟩
  split
  .exact⟨(mk c d b rfl o.Af).1,zF,zF,rfl,rfl,rfl,rfl,rfl,rfl⟩
  split
  .exact⟨(mk d c b rfl o.Af).1,zF,e,rfl,rfl,rfl,rfl,rfl,rfl⟩
  unfold ED;generalize FK { r with P:=r.P+2 } op n=a;have s:=g a;split
  .split
   .exact⟨(mk s c b rfl o.Af).1,zF,zF,rfl,rfl,rfl,rfl,rfl,rfl⟩
   split
   .exact⟨(mk d c b zF λx f=>by obtain f|rfl:=List.mem_or_eq_of_mem_set f;exact o.Af x f;exact d).1,zF,zF,zF,rfl,rfl,rfl,rfl,rfl⟩
   split
   .exact⟨(mk (Nat.mod_lt _ wB) c b rfl o.Af).1,zF,zF,rfl,rfl,rfl,rfl,rfl,rfl⟩
   split
   .exact⟨(mk (Nat.mod_lt _ wB) c b rfl o.Af).1,zF,zF,rfl,rfl,rfl,rfl,rfl,rfl⟩
   .exact⟨(mk d c b rfl o.Af).1,zF,zF,rfl,rfl,rfl,rfl,rfl,rfl⟩
  .exact⟨(mk d c b rfl o.Af).1,zF,zF,rfl,rfl,rfl,rfl,rfl,rfl⟩
 .exact⟨o,zF,zF,rfl,rfl,rfl,rfl,rfl,rfl⟩
theorem uZ (h:SI NC NS b K0 v0 i told w) (Y:i<(n:Nat)):(WI prog).wpIn NF m prog (Ends λX w'=>∃W V x,X=xA (A8 W (Fa q (Va (R_ b)) (n:Nat) i V x))/\((V=0/\SI NC NS b K0 v0 (i+1) told w')\/(V=1/\SC NC NS b K0 v0 n i told x w')\/(V=2/\SB NC NS b K0 v0 n told w'))) ⟨xA (A8 f (NY q (Va (R_ b)) (n:Nat) i)),[]⟩ w:=by
 obtain⟨j,p,K,r,rfl,g,L,J,t⟩:=h;have N:j<n:=zD
 have o:=g.ok.pr b r g.ps;have S:=(g.ok.co.pl b r g.ps).1;have O:=λm=>ax0 m w K b r g.ka g.ps L o S
 obtain⟨u,x1,M,z,A,l,B,C,D⟩:=step_ok o L;obtain⟨v,V,y,c,k⟩:∃v V y c,v=FY r/\v=(V,y,c):=⟨_,_,_,_,rfl,rfl⟩;obtain⟨k,F⟩:=k;rw[<-k,F]at O u x1 M z A l B C D;simp only at u x1 M z A l B C D;have s:FY r=(V,y,c):=k.symm.trans F;have E:=g.ok.GH (r':=c) g.ps A l B C z D u;have a:c.en=false:=l.trans L;have d:∀{w1:o_},AV (K.Bi b c) w1->BN K.T K.T w w1->(((V:Nat):Int)=0/\SI NC NS b K0 v0 ((j:Int)+1) told w1)\/(((V:Nat):Int)=1/\SC NC NS b K0 v0 n j told (a_ (y:Nat)) w1)\/(((V:Nat):Int)=2/\SB NC NS b K0 v0 n told w1):=λI G=>by
  have H:=g.next I E.1 E.2 G Aj
  have Q:V=0\/V=1\/V=2:=zD
  obtain rfl|rfl|rfl:=Q
  .obtain⟨P,R,U⟩:=t;exact .inl ⟨rfl,j+1,p,_,_,zD,H,a,J,P,R,p,[],K,U,⟨r,0,y,c,g.ps,s,.inl ⟨rfl,rfl,rfl⟩⟩,zF⟩
  .exact .inr (.inl ⟨rfl,j,p,_,_,y,rfl,N,rfl,M,H,a,J,K,r,t,g.ps,s,rfl⟩)
  .exact .inr (.inr ⟨rfl,j,p,_,_,y,N,H,a,J,K,r,t,g.ps,s,rfl⟩)
 clear x1 z A l B C D k F s E a t u v;rw[ay8];unfold bi9;rw[bf4];dsimp only[Tryz.f136,Option.getD];show Code.wpIn (Fence.list LF none) m prog _ _ ⟨#[pr q,.pointer (some (S_ b 5)),f 2,f 3,f 4,f 5,f 6,f 7,b_ (n:Nat),b_ (j:Nat),f 10,f 11,f 12,f 13,f 14,f 15,f 16,f 17,f 18,f 19,f 20,f 21,f 22,f 23,f 24,f 25,f 26,f 27,f 28,f 29,f 30,f 31],[]⟩ _;gi_wp2_with fail;refine(O _).mono ?_;rintro e w1 ⟨rfl,I,G⟩;gi_wp2;exact⟨rfl,rfl,_,(V:Nat),a_ (y:Nat),Ea (n:=32) rfl (by simp[Fa,Va,Addr.add]),d I G⟩
theorem nT (h:SD NC NS b K0 v0 n i told x bA w):(R11 prog).wpIn NF m prog (Ends λz w'=>∃y c,z=TN 76 (A8 (A8 y (WU (ptr K0.kb) (R_ b) told q x bA)) [(39,.bool c)])/\((c=false/\SDn NC NS b K0 v0 n i told x bA w')\/(c=true/\SDb NC NS b K0 v0 n i told x bA w'))) ⟨TN 76 (A8 f (WU (ptr K0.kb) (R_ b) told q x bA)),[]⟩ w:=by
 obtain⟨j,l,K,r,call,d,wr,k,rfl,p,rfl,t,g,u,e,o,s⟩:=h;have c2:w.cell? (S_ bA 2)=some k:=by rw[Ah e.blk];rfl
 rw[bs2];unfold bv6 gA;rw[Qu];dsimp only[Tryz.f56,Option.getD];show Code.wpIn (Fence.list LF none) m prog _ _ ⟨RJ f (ptr K0.kb) (Q_ b) (f 2) told (pr q) (a_ (call:Nat)) (Q_ bA),[]⟩ _;unfold RJ ptr;have a:k=.nilFunc\/∃fn ca cb,k=.func fn ca cb:=by
  obtain h|⟨_,_,h,_⟩|⟨_,h|h,_⟩:=o
  .exact .inl h
  all_goals exact .inr ⟨_,_,_,h⟩
 obtain rfl|⟨fn,ca,cb,rfl⟩:=a
 .have v:=VD w;gi_wp2;exact⟨rfl,rfl,_,false,af7 rfl (by simp[WU,pv,pr]) zF,.inl ⟨rfl,j,l,K,r,call,d,wr,rfl,p,rfl,t,g,u,e,s⟩⟩
 .have v:=ba4 (w:=w) (fn:=fn) (ca:=ca) (cb:=cb);gi_wp2;exact⟨rfl,rfl,_,true,af7 rfl (by simp[WU,pv,pr]) zF,.inr ⟨rfl,j,l,K,r,call,d,wr,_,rfl,p,g,e,o,⟨_,_,_,rfl⟩,s⟩⟩
theorem iW (h:SDb NC NS b K0 v0 n i told x bA w):(R12 prog).wpIn NF m prog (Ends λB w'=>∃A,B=TN 76 (A8 A (xq (ptr K0.kb) (R_ b) told q bA))/\SBc NC NS b K0 v0 n told bA w') ⟨TN 76 (A8 f (WU (ptr K0.kb) (R_ b) told q x bA)),[]⟩ w:=by
 obtain⟨j,l,K,r,call,d,wr,y,rfl,s,g,e,bl,⟨fn,a,c,rfl⟩,u⟩:=h;have c2:w.cell? (S_ bA 2)=some (.func fn a c):=by rw[Ah e.blk];rfl
 have z:=g.ka.jy g.ps 4;have c4:=g.ka.Il g.ps 4;simp[PR.arr]at c4;have o:=g.ka.GH (r':={ r with bl:=.func fn a c }) (i:=4) (v:=.func fn a c) g.ps ⟨rfl,rfl,rfl,rfl,rfl⟩ rfl bl;have k:=g.ok.GH (r':={ r with bl:=.func fn a c }) g.ps rfl rfl rfl rfl rfl rfl (Ok.bt0 (g.ok.pr b r g.ps));have p:(w.setCell (S_ b 4) (.func fn a c)).heap[bA]?=some (N_ #[a_ (d:Nat),a_ (wr:Nat),.func fn a c] 206):=(g.ka.Ez g.ps).old e.blk e.t;rw[bs1];unfold bv5 gA;rw[Qu];dsimp only[Tryz.f56,Option.getD];show Code.wpIn (Fence.list LF none) m prog _ _ ⟨RJ f (ptr K0.kb) (Q_ b) (f 2) told (pr q) x (Q_ bA),[]⟩ _;unfold RJ ptr;gi_wp2;exact⟨rfl,rfl,_,Ea rfl (by simp[xq,pv,pr]),⟨l,_,_,g.next o k.1 k.2 (g.ka.Ez g.ps) Aj,j,call,d,wr,_,K,r,s,u,g.ps,⟨_,_,_,rfl⟩,rfl⟩,d,wr,fn,a,c,p⟩
theorem XE.ended {CQ:List Ev} {K:KS} (h:XE b K0 j CQ res wr K r) (s:j<n) (o:K.ps b=some r) (t:r.en=true):Α b n K0 CQ K:=by
 obtain⟨e1,call,⟨l,rc,⟨c,k,⟨a,d,e⟩,f,g,rfl⟩,i⟩,rfl⟩:=h;exact⟨a,d,.inr ⟨j,e1,_,c,s,e,⟨k,1,call,rc,f,g,.inr ⟨rfl,K,res,wr,.nilFunc,r,i,o,.inl ⟨rfl,t,rfl,rfl⟩⟩⟩,rfl⟩⟩
theorem nO (h:SE0 NC NS b K0 v0 n i told bA w):(R16 prog).wpIn NF m prog (Ends λt w'=>∃s c,t=TN 76 (A8 s (slG (ptr K0.kb) (R_ b) told q bA c))/\((c=true/\SF NC NS b K0 v0 n told w')\/(c=false/\SE NC NS b K0 v0 n i told bA w'))) ⟨TN 76 (A8 f (xq (ptr K0.kb) (R_ b) told q bA)),[]⟩ w:=by
 obtain⟨j,d,K,r,a,wr,rfl,e,g,o,l,k⟩:=h;have c2:=g.ka.Il g.ps 2;simp[PR.arr]at c2;rw[br9];unfold bv3 gA;rw[Qu];dsimp only[Tryz.f56,Option.getD];show Code.wpIn (Fence.list LF none) m prog _ _ ⟨RJ f (ptr K0.kb) (Q_ b) (f 2) told (pr q) (f 9) (Q_ bA),[]⟩ _;unfold RJ ptr;cases hn:r.en with
 |false=>
  rw[hn]at c2
  gi_wp2
  exact⟨rfl,rfl,_,false,Ea rfl (by simp[slG,pv,pr]),.inr ⟨rfl,j,d,K,r,a,wr,rfl,e,g,hn,o hn,l,k⟩⟩
 |true=>
  rw[hn]at c2
  gi_wp2
  exact⟨rfl,rfl,_,true,Ea rfl (by simp[slG,pv,pr]),.inl ⟨rfl,d,K,r,g,k.ended e g.ps hn⟩⟩
end
def bv7 (P:l_):Code:=match gA P with | .seq (.seq _ (.seq c _)) _=>c|_=>.skip
theorem bs3:R10 prog=bv7 prog:=sJ
def bv4 (P:l_):Code:=match gA P with | .seq (.seq _ (.seq _ (.seq _ (.seq c _)))) _=>c|_=>.skip
theorem bs0:R15 prog=bv4 prog:=sJ
def bv2 (P:l_):Code:=match gA P with | .seq _ (.cond _ (.seq _ (.seq (.seq _ (.cond _ c _)) _)) _)=>c|_=>.skip
theorem br8:R21 prog=bv2 prog:=sJ
def bj0 (P:l_):Code:=match GK P 187 with | .seq _ (.seq _ (.seq _ (.seq _ (.block _ (.cond _ c _)))))=>c|_=>.skip
theorem bg8:ZH prog=bj0 prog:=sJ
theorem ag6:(prog.info? 59).map (λi=>(i.zero,i.size,i.bytes))=some (some (.agg #[b_ 0,b_ 0,b_ 0,b_ 0]),4,32):=sJ
section
variable {NC NS b:Nat} {K0:KS} {v0:o_} {n:Nat} {m:Nat} {w:o_} {q:Nat} {i:Int} {told x:n_} {bA:Nat} {f:Nat->n_} {K:KS} {r:PR} {CQ:List Ev} {v v':o_}
theorem VW.keep {base:Nat} {T:Tag} {S:Nat->Prop} (h:VW base T told v CQ) (l:Ac S v v') (o:∀g,told.ownBlock=some g->¬S g):VW base T told v' CQ:=by
 obtain⟨⟨f,e⟩,i⟩:=h;refine⟨⟨f,?_⟩,i⟩;obtain e|⟨g,cap,a,rfl,b,c,d⟩:=e
 .exact .inl e
 .exact .inr ⟨g,cap,a,rfl,b,l.old c (o g rfl),d⟩
theorem VQ.box {rb:Nat} (h:VQ NC NS b K0 v0 CQ told v K r) (c:Ac (At rb) v v') (o:K.T rb=(0,0)) (l:v0.heap.size<=rb) (s:∀g,told.ownBlock=some g->g≠rb):VQ NC NS b K0 v0 CQ told v' K r:=
 ⟨h.ka.own c o,h.ok,h.rel,h.mv.own c (λk e=>by rw[show k=rb from e];exact l),h.told.keep c (λg a e=>s g a e),h.ps,h.z⟩
theorem VQ.push {ev:Ev} {l:n_} (h:VQ NC NS b K0 v0 CQ told v K r) (s:v'.ownsRow v0.heap.size 59 4 l (CQ.length+1) (SQ CQ++dJ ev)) (t:v.grownBy v' told.ownBlock) (o:l.ownBlock=told.ownBlock\/l.ownBlock=some v.heap.size):VQ NC NS b K0 v0 (CQ++[ev]) l v' K r:=by
 have a:Ac (λk=>told.ownBlock=some k) v v':=DD t (λk d _=>d);refine⟨h.ka.keep (a.on λk _ e=>h.told.no k e) λk d=>h.ka.lt k (pV a.size d),h.ok,h.rel,h.mv.own a (λk e=>(h.told.row.lt k e).1),⟨?_,λg c=>?_⟩,h.ps,h.z⟩
 .rw[lU];simpa [SQ]using s
 .obtain e|e:=o
  .exact h.told.no g (by rw[<-e];exact c)
  .rw[e]at c;cases c;exact h.ka.lt _ (w_ _)
theorem ah5 {w:o_} {k:Nat} {ev:Ev} (h:w.heap[k]?=some (N_ #[b_ ev.1,b_ ev.2.1,b_ ev.2.2.1,b_ ev.2.2.2] 59)):∀j u,(dJ ev)[j]?=some u->w.cell? (((R_ k):f_).add j)=some u:=by
 intro j u a;have b:((R_ k):f_).add j=(S_ k j):=by rw[Addr.add_lit,Nat.zero_add]
 rw[b];refine(Ah h j).trans ?_
 match j,a with
 |0,a=>simpa [dJ]using a
 |1,a=>simpa [dJ]using a
 |2,a=>simpa [dJ]using a
 |3,a=>simpa [dJ]using a
theorem nN (X:Vp NC NS b K0 n) (h:SC NC NS b K0 v0 n i told x w):(R10 prog).wpIn NF m prog (Ends λZ w'=>∃Y bA,Z=TN 76 (A8 Y (WU (ptr K0.kb) (R_ b) told q x bA))/\SD NC NS b K0 v0 n i told x bA w') ⟨TN 76 (A8 f (slX (ptr K0.kb) (R_ b) told q x)),[]⟩ w:=by
 obtain⟨j,u,K,r,call,rfl,E,rfl,R,g,U,F,G⟩:=h;have c:=λm=>X m w j u K r call E G g.ka g.ok F g.ps U
 rw[g.rel.kb]at c;rw[bs3];unfold bv7 gA;rw[Qu];dsimp only[Tryz.f56,Option.getD];show Code.wpIn (Fence.list LF none) m prog _ _ ⟨RJ f (ptr K0.kb) (Q_ b) (f 2) told (pr q) (a_ (call:Nat)) (f 10),[]⟩ _;unfold RJ ptr;gi_wp2_with (first|(gi_at_call 96;refine(c _).mono ?_;rintro e w1 ⟨v,d,wr,C,rfl,N,O,D,J,a,o,B,⟨V,I,p⟩,P⟩;obtain⟨W,H,A,L⟩:=AA (w:=w1.alloc V_) (rb:=w1.heap.size) (x:=d) (y:=wr) (f:=C) (Y7 rfl) D.one)|refine EX H ?_);have l:=g.next J a o B I;have z:Ac No w1 (w1.alloc V_):=(Ac.refl _ _).alloc _;have s:v.T w1.heap.size=(0,0):=l.ka.lt _ (w_ _);have M:=(l.no z).box A s l.mv.keep.size (λg S e=>by have:=(l.told.row.lt g S).2;omega);exact⟨rfl,rfl,_,w1.heap.size,Ea rfl (by simp[WU,pv,pr]),j,u,v,V,call,d,wr,C,rfl,E,rfl,R,M,p,⟨L,s,N,O⟩,(D.no z).keep (A.on (Q:=λt=>t=(0,0)) λk _ e=>by rw[show k=w1.heap.size from e];exact s) zF,K,r,G,P,B.ext,⟨_,_,g.ok,a⟩,F⟩
theorem nM (h:SDn NC NS b K0 v0 n i told x bA w) (X:n<=1000):(R15 prog).wpIn NF m prog (Ends λW w'=>∃V U,W=TN 76 (A8 V (xq (ptr K0.kb) (R_ b) U q bA))/\SE0 NC NS b K0 v0 n i U bA w') ⟨TN 76 (A8 f (WU (ptr K0.kb) (R_ b) told q x bA)),[]⟩ w:=by
 obtain⟨j,d,K,r,call,a,wr,rfl,M,rfl,J,g,O,c,B⟩:=h;have T:d.length<=j:=by obtain⟨_,_,⟨_,_,⟨_,_,h⟩,_⟩,_⟩:=B;exact h.len
 obtain⟨P,L,s,u,v⟩:=info_parts ag6;have z:=g.ka.Il g.ps 0;simp[PR.arr]at z;have R:w.cell? (R_ bA)=some (a_ a):=by rw[Ah c.blk];rfl
 have S:w.cell? (S_ bA 1)=some (a_ wr):=by rw[Ah c.blk];rfl
 have c2:w.cell? (S_ bA 2)=some .nilFunc:=by rw[Ah c.blk];rfl
 rw[bs0];unfold bv4 gA;rw[Qu];dsimp only[Tryz.f56,Option.getD];show Code.wpIn (Fence.list LF none) m prog _ _ ⟨RJ f (ptr K0.kb) (Q_ b) (f 2) told (pr q) (a_ (call:Nat)) (Q_ bA),[]⟩ _;unfold RJ ptr;gi_wp2_with fail;refine(yY _ w b r.pid call a wr z J c.res c.wr).mono ?_;rintro e w1 ⟨D,rfl⟩;have o:Ac No w (w1.alloc (.cells #[b_ r.pid,b_ call,b_ a,b_ wr] 59)):=D.alloc _;have l:=g.no o;have F:(w1.alloc (.cells #[b_ r.pid,b_ call,b_ a,b_ wr] 59)).heap[w1.heap.size]?=some (N_ #[b_ ((r.pid,call,a,wr):Ev).1,b_ ((r.pid,call,a,wr):Ev).2.1,b_ ((r.pid,call,a,wr):Ev).2.2.1,b_ ((r.pid,call,a,wr):Ev).2.2.2] 59):=Y7 rfl;gi_wp2_with (gi_at_builtin;refine wpListIn_append_own_at _ rfl (.tmp 49) (.tmp 54) 43 rfl v0.heap.size 59 P (.agg #[b_ 0,b_ 0,b_ 0,b_ 0]) 4 32 underlying43 L s u v rfl wB told d.length (SQ d) rfl l.told.row (R_ w1.heap.size) 1 1 (dJ (r.pid,call,a,wr)) rfl rfl (ah5 F) (by simp[dJ,Value.oneCell']) (by unfold maxLen;omega) zD (by have:=l.mv.keep.size;omega) ?_;intro Q w3 C y _ p);have H:=l.push C y p;have E:Ac (λk=>told.ownBlock=some k) (w1.alloc (.cells #[b_ r.pid,b_ call,b_ a,b_ wr] 59)) w3:=DD y (λk N _=>N);refine⟨rfl,rfl,_,Q,Ea rfl (by simp[xq,pv,pr]),j,_,K,r,a,wr,rfl,M,H,O,⟨E.old (c.no o).blk λh=>?_,c.t,c.res,c.wr⟩,d,call,B,rfl⟩;obtain⟨rfl,_⟩|⟨I,cap,G,rfl,_,A,_⟩:=l.told.row.2
 .cases h
 .obtain rfl:I=bA:=x_ h;rw[(c.no o).blk]at A;cases A
theorem XS.bad {K':KS} {r':PR} (h:XS b K0 j CQ 2 call K r) (s:j<n) (l:bx3 K b r 65535 K') (o:K'.ps b=some r'):Α b n K0 (CQ++[(r'.pid,1,65535,0)]) K':=by
 obtain⟨c,i,⟨a,d,e⟩,f,g,rfl⟩:=h;exact⟨a,d,.inr ⟨j,CQ,_,c,s,e,⟨i,2,call,r,f,g,.inl ⟨rfl,l,r',o,rfl⟩⟩,rfl⟩⟩
theorem ν (U:n<=1000) (h:SB NC NS b K0 v0 n told w):(R21 prog).wpIn NF m prog (Ends λT w'=>∃S R,T=TN 76 (A8 S [(7,R)])/\SF NC NS b K0 v0 n R w') ⟨TN 76 (A8 f (slS (ptr K0.kb) (R_ b) told q)),[]⟩ w:=by
 obtain⟨j,d,K,r,call,N,g,A,y,z⟩:=h;have Q:d.length<=j:=by obtain⟨_,_,⟨_,_,h⟩,_⟩:=z;exact h.len
 obtain⟨O,M,p,s,t⟩:=info_parts ag6;have c:=λm=>ah6 m w K NC NS b 65535 r g.ka g.ok y g.ps A zD
 rw[g.rel.kb]at c;rw[br8];unfold bv2 gA;rw[Qu];dsimp only[Tryz.f56,Option.getD];show Code.wpIn (Fence.list LF none) m prog _ _ ⟨RJ f (ptr K0.kb) (Q_ b) (f 2) told (pr q) (f 9) (f 10),[]⟩ _;unfold RJ ptr;gi_wp2_with fail;refine(c _).mono ?_;rintro e w1 ⟨rfl,D,H,I,J,v,⟨a,u,L⟩,l⟩;have i:=g.next H I J v u;have x:=i.ka.Il i.ps 0;simp[PR.arr]at x;gi_wp2_with fail;refine(yY _ w1 b a.pid 1 65535 0 x wB wB wB).mono ?_;rintro e w2 ⟨E,rfl⟩;have F:Ac No w1 (w2.alloc (.cells #[b_ a.pid,b_ (1:Nat),b_ (65535:Nat),b_ (0:Nat)] 59)):=E.alloc _;have k:=i.no F;have G:(w2.alloc (.cells #[b_ a.pid,b_ (1:Nat),b_ (65535:Nat),b_ (0:Nat)] 59)).heap[w2.heap.size]?=some (N_ #[b_ ((a.pid,1,65535,0):Ev).1,b_ ((a.pid,1,65535,0):Ev).2.1,b_ ((a.pid,1,65535,0):Ev).2.2.1,b_ ((a.pid,1,65535,0):Ev).2.2.2] 59):=Y7 rfl;gi_wp2_with (gi_at_builtin;refine wpListIn_append_own_at _ rfl (.tmp 67) (.tmp 73) 43 rfl v0.heap.size 59 O (.agg #[b_ 0,b_ 0,b_ 0,b_ 0]) 4 32 underlying43 M p s t rfl wB told d.length (SQ d) rfl k.told.row (R_ w2.heap.size) 1 1 (dJ (a.pid,1,65535,0)) rfl rfl (ah5 G) (by simp[dJ,Value.oneCell']) (by unfold maxLen;omega) zD (by have:=k.mv.keep.size;omega) ?_;intro P w3 B C _ o);exact⟨rfl,rfl,_,P,Ea rfl zF,_,D,a,k.push B C o,z.bad N ⟨l,v.ext,⟨_,_,g.ok⟩,y⟩ u⟩
theorem aq9 (q1 a:Nat) (A:n_):commResult (GM q1 a) .select 0 A true=.tuple #[b_ 0,.bool true,A,.agg #[]]:=sJ
theorem jl {X:Obj} (y:res<65536) (z:wr<65536) (g:VQ NC NS b K0 v0 CQ told w K r) (C:r.en=false) (D:b∈K.Aw) (E:XE b K0 j CQ res wr K r):
  SI NC NS b K0 v0 ((j:Int)+1) told (((w.setCell (S_ b 5) (a_ res)).setCell (S_ b 6) (a_ wr)).alloc X).drew:=by
 have a:=g.ka.GH (r':={ r with A:=res }) (i:=5) (v:=a_ (res:Nat)) g.ps ⟨rfl,rfl,rfl,rfl,rfl⟩ rfl (g.ka.ps b r g.ps).bl;have l:=g.ka.Ez g.ps (i:=5) (v:=a_ (res:Nat));have c:=a.GH (b:=b) (r:={ r with A:=res }) (r':={ r with A:=res,B:=wr }) (i:=6) (v:=a_ (wr:Nat)) Aj ⟨rfl,rfl,rfl,rfl,rfl⟩ rfl (a.ps b _ Aj).bl;have m:=a.Ez (b:=b) (r:={ r with A:=res }) Aj (i:=6) (v:=a_ (wr:Nat));have o:=g.ok.pr b r g.ps;have d:=g.ok.GH (r':={ r with A:=res,B:=wr }) g.ps rfl rfl rfl rfl rfl rfl ⟨y,z,o.P,o.st,o.pid,o.par,o.Af,o.fds,o.fd,o.len,o.off⟩;have e2:C9 (C9 K.ps b { r with A:=res }) b { r with A:=res,B:=wr }=C9 K.ps b { r with A:=res,B:=wr }:=by
  funext k
  by_cases e:k=b
  .subst e;rw[Aj,Aj]
  .rw[BH e,BH e,BH e]
 simp only[e2]at c;have n:=g.next (K':=K.Bi b { r with A:=res,B:=wr }) c d.1 d.2 (l.trans m) Aj;obtain⟨e1,call,⟨u,rc,⟨h,t,⟨f,a,c⟩,p,q,rfl⟩,s⟩,rfl⟩:=E;exact⟨j+1,_,_,_,zD,n.no (((Ac.refl No _).alloc X).drew),C,D,f,a,e1,_,h,c,⟨t,1,call,rc,p,q,.inr ⟨rfl,K,res,wr,r,s,g.ps,C,rfl,rfl⟩⟩,rfl⟩
theorem Zh (q1 C:Nat) (A:n_) (h:SA NC NS b K0 v0 n i told A w):(ZH prog).wpIn NF m prog (WM λD w'=>∃g,D=TN 49 (A8 g [(6,.bool true)])/\SI NC NS b K0 v0 (i+1) told w') ⟨TN 49 (A8 f (slA q1 C (Va (R_ b)) A)),[]⟩ w:=by
 obtain⟨j,u,K,r,a,wr,rfl,x,g,t,s,d,e,rfl,k⟩:=h;have l:=(g.ka.no ((Ac.refl No w).alloc (.cells #[a_ a,a_ wr,.nilFunc] 206))).Il g.ps 5;have v:=(g.ka.no ((Ac.refl No w).alloc (.cells #[a_ a,a_ wr,.nilFunc] 206))).jy g.ps 5;simp[PR.arr]at l;have c:=(g.ka.ps b r g.ps).o;have z:=Dt c;have p3:=((Ac.refl No _).alloc (.cells #[a_ a,a_ wr,.nilFunc] 206)).old (Ap (i:=5) c (a_ (a:Nat))) id;have q:=BQ p3 6;have p:((w.setCell (S_ b 5) (a_ a)).alloc (.cells #[a_ a,a_ wr,.nilFunc] 206)).cell? (S_ b 6)=some (a_ r.B):=bce p3 rfl;have y:=VD (w.alloc (.cells #[a_ a,a_ wr,.nilFunc] 206));have done:=λX=>jl (X:=X) d e g t s k
 clear k p3;rw[bg8];unfold bj0;rw[bf3];dsimp only[Tryz.f187,Option.getD];unfold slA;rw[aq9];show Code.wpIn (Fence.list LF none) m prog _ _ ⟨#[f 0,.pointer (some (S_ b 5)),f 2,f 3,f 4,f 5,f 6,f 7,f 8,f 9,f 10,f 11,f 12,f 13,f 14,f 15,f 16,f 17,f 18,f 19,f 20,f 21,f 22,f 23,f 24,f 25,f 26,f 27,f 28,.tuple #[b_ 0,.bool true,.agg #[a_ a,a_ wr,.nilFunc],.agg #[]],f 30,f 31,f 32,f 33,f 34,f 35,f 36,f 37,f 38,f 39,f 40,f 41,f 42,f 43,f 44,f 45,f 46,f 47,f 48],[]⟩ _;gi_wp2;gi_region
 all_goals gi_wp2
 all_goals exact⟨rfl,rfl,_,Ea rfl zF,done _⟩
end
end Go.Fxa
