/- A call is served: no argument. -/
import Derived.Test.YtmhplpfpcnjekaaGreatA31
namespace Go.Fxa
open Conc Proofs RowKit Proofs.Tryz
set_option maxRecDepth 1000000
set_option maxHeartbeats 0
variable {r:PR}{K:KS}{b:Nat}
def vK (call:Nat):Prop:=¬(call:Int)=1/\¬(call:Int)=2/\¬(call:Int)=3/\¬(call:Int)=4/\¬(call:Int)=5/\¬(call:Int)=6/\¬(call:Int)=7/\¬(call:Int)=8/\¬(call:Int)=9/\¬(call:Int)=10/\¬(call:Int)=11/\¬(call:Int)=12/\¬(call:Int)=13/\¬(call:Int)=14
def WO:Nat->Nat
 |1=>1|3=>1|4=>1|5=>1|6=>3|7=>3|8=>1|9=>1|10=>2|11=>1|13=>1|14=>2|_=>0
def DR (r:PR)(j:Nat):Nat:=(r.Af[r.A+j]?).getD 0
theorem RF {j a:Nat}(h:r.Af[r.A+j]?=some a):Yp (DR r j=a):=by unfold Yp DR;rw[h];rfl
def dY (K:KS)(b:Nat)(r:PR):Nat->KS->Nat->Nat->n_->Prop
 |1=>λK' x y f=>x=DR r 0/\y=0/\f=.nilFunc/\sZ K b r (DR r 0) K'
 |2=>zt K r
 |3=>dJ K b r (DR r 0)
 |4=>Yx K b r (DR r 0)
 |5=>dN K b r (DR r 0)
 |6=>dL K b r (DR r 0) (DR r 1) (DR r 2)
 |7=>VX K r (DR r 0) (DR r 1) (DR r 2)
 |8=>VY K b r (DR r 0)
 |9=>ϔ K b r (DR r 0)
 |10=>Tn K b r (DR r 0) (DR r 1)
 |11=>dO K b r (DR r 0)
 |12=>λK' x y f=>K'=K/\x=r.pid/\y=0/\f=.nilFunc
 |13=>RH K (DR r 0)
 |14=>dK K r (DR r 0) (DR r 1)
 |_=>GY K 12
def UM (K:KS)(b:Nat)(r:PR)(call:Nat):KS->Nat->Nat->n_->Prop:=λK' x y f=>(¬(WO call=0\/r.A+WO call<=r.Af.length)/\GY K 1 K' x y f)\/((WO call=0\/r.A+WO call<=r.Af.length)/\dY K b r call K' x y f)
theorem ap8 {call:Nat}(h:vK call):UM K b r call K 0 12 .nilFunc:=by
 obtain⟨g,i,j,k,l,m,n,o,p,a,c,d,e,f⟩:=h;refine .inr ⟨.inl ?_,?_⟩
 .unfold WO;split<;>first|rfl|(exfalso;omega)
 .unfold dY;split<;>first|exact GY.of|(exfalso;omega)
section
variable (m:Nat)(w:o_)
theorem jr (K:KS)(NC NS b call:Nat)(r:PR)(h:AY K w)(hO:DU NC NS K)(hm:b∈K.Ar)(hb:K.ps b=some r)(hn:r.en=false)(ca:∀m w,O_ m 139 #[a_ (call:Nat)] w fun e w'=>e=.returned (b_ 0)/\w'=w)(hc:call=2\/call=12\/vK call):
  O_ m 96 #[Q_ K.kb,Q_ b,a_ (call:Nat)] w (FX (UM K b r call) NC NS b K w):=by
 have o:=hO.pr b r hb;obtain⟨n,rb,q⟩:=IE w;have j:=h.no n;have J:K.T w.heap.size=(0,0):=h.lt _ w_;obtain⟨gi,ci,G,t,yK,R⟩:=j.lh hb hn;have C:=j.Iu hb 5;simp[PR.arr]at C;gi_enter func96,ntmps96;gi_wp2;generalize S:w.alloc V_=a at*;refine Cc 15 155 ?_;gi_wp2_with (first|(gi_at_call 139;refine(ca _ a.drew).mono ?_;rintro e w1 ⟨rfl,rfl⟩)|(gi_at_call 138;refine(Ue b r.A _ a.drew).mono ?_;rintro e w1 ⟨rfl,rfl⟩));refine Ee ?_ ?_
 .intro W k;have d5:=k.has (w:=a.drew) C;have d8:=k.has (w:=a.drew) G
  repeat' (refine AA ?_ ?_)
  all_goals first|exact dE|gi_wp2_with (first|(gi_at_call 139;refine(ca _ W).mono ?_;rintro e w1 ⟨rfl,rfl⟩)|(gi_at_call 138;refine(Ue b r.A _ W).mono ?_;rintro e w1 ⟨rfl,rfl⟩))
 .intro W k;have KW:Aa No a W:=(Aa.refl No a).drew.then k;gi_wp2_with fail;refine(gU _ W).mono ?_;rintro e w1 ⟨rfl,D⟩;have c:Aa No a w1:=KW.then D;have l:=c.old rb id;clear t D KW k C G;obtain rfl|rfl|hc:=hc
  .have O:=λm=>bj8 m w1 K NC NS b r (j.no c) hO hm hb hn
   gi_wp2_with (first|(gi_at_call 142;refine(O _).mono ?_;rintro e w2 ⟨M,x,y,f,rfl,U,V,F,Q,s,I,N,⟨r2,L,z⟩,u⟩;have E:=(BQ.no c j.lt).trans N;obtain⟨H,d,g,i⟩:=Az (x:=x) (y:=y) (f:=f) (E.old rb J) F.one)|refine Fa d ?_);refine bodyPost_ret (v:=.agg #[a_ x,a_ y,f]) (by simp[results,results96,go_sem,FU i]) rfl ?_;exact BD (K':=M) (x:=x) (y:=y) h.lt n q E Q g U V F s I L z (.inr ⟨.inl rfl,u⟩)
  .have P:=(j.no c).Iu hb 0;simp[PR.arr]at P;have hp:=o.pid;gi_wp2_with (first|(gi_at_call 152;refine(Eg _ _ r.pid wB).mono ?_;rintro e wz ⟨rfl,p⟩;obtain⟨H,d,g,i⟩:=Az (x:=r.pid) (y:=0) (f:=.nilFunc) (p.old (l) id) rfl)|refine Fa d ?_);refine T_ r.pid 0 (by simp[results,results96,go_sem,FU i]) rfl ?_;exact Ci h hO hm hb n q (c.then p) g wB sN (.inr ⟨.inl rfl,rfl,rfl,rfl,rfl⟩)
  .have B:=ap8 (K:=K) (b:=b) (r:=r) hc;obtain⟨n1,n2,n3,n4,n5,n6,n7,n8,n9,X,Y,Z,n13,n14⟩:=hc;gi_wp2_with (first|(gi_at_call 140;refine(Uy 12 l _).mono ?_;rintro e wz ⟨rfl,p,H,d,g,i⟩)|refine Fa d ?_);refine T_ 0 12 (by simp[results,results96,go_sem,FU i]) rfl ?_;exact Ci h hO hm hb n q (c.then p) g sN sN B
theorem Ot (K:KS)(NC NS b call:Nat)(r:PR)(h:AY K w)(hO:DU NC NS K)(hm:b∈K.Ar)(hb:K.ps b=some r)(hn:r.en=false)(ca:∀m w,O_ m 139 #[a_ (call:Nat)] w fun e w'=>e=.returned (b_ 1)/\w'=w)(hc:call=1\/call=3\/call=4\/call=5\/call=8\/call=9\/call=11\/call=13):
  O_ m 96 #[Q_ K.kb,Q_ b,a_ (call:Nat)] w (FX (UM K b r call) NC NS b K w):=by
 have o:=hO.pr b r hb;have hL:=(hO.co.pl b r hb).1;have hA:=o.A;obtain⟨J,rb,M⟩:=IE w;have n:=h.no J;have O:K.T w.heap.size=(0,0):=h.lt _ w_;obtain⟨S,ci,U,Q,yK,him⟩:=n.lh hb hn;have WE:=Q.le;have Y:=n.Iu hb 5;simp[PR.arr]at Y;by_cases I:r.A+1<=r.Af.length
 .obtain⟨a0,X⟩:∃v,r.Af[r.A+0]?=some v:=⟨_,JM wB⟩;have N:=o.Af a0 (t_ X);have j0:(w.alloc V_).cell? (S_ S (r.A+0))=some (a_ (a0:Nat)):=(Q.cell wB).trans (by rw[Aw,List.getElem?_map,X];rfl);have v0:=RF X;clear X;gi_enter func96,ntmps96;gi_wp2;generalize hw0:w.alloc V_=F at*;refine Cc 15 155 ?_;gi_wp2_with (first|(gi_at_call 139;refine(ca _ F.drew).mono ?_;rintro e w1 ⟨rfl,rfl⟩)|(gi_at_call 138;refine(Gq b S ci r.Af.length 1 r.A _ F.drew U wB hA hL WE I).mono ?_;rintro e w1 ⟨rfl,rfl⟩));refine Ee ?_ ?_
  .intro W L;have d5:=L.has (w:=F.drew) Y;have Z:=L.has (w:=F.drew) U
   repeat' (refine AA ?_ ?_)
   all_goals first|exact dE|gi_wp2_with (first|(gi_at_call 139;refine(ca _ W).mono ?_;rintro e w1 ⟨rfl,rfl⟩)|(gi_at_call 138;refine(Gq b S ci r.Af.length 1 r.A _ W Z wB hA hL WE I).mono ?_;rintro e w1 ⟨rfl,rfl⟩))
  .intro W L;have KW:Aa No F W:=(Aa.refl No F).drew.then L;gi_wp2_with fail;refine(Lr _ W (S_ S r.A) 1 1 [a_ (a0:Nat)] rfl (λj u V=>by
    match j,V with
    |0,V=>simp at V;subst V;exact KW.has j0
    ) (by simp[Value.oneCell']) wB).mono ?_;rintro e w1 ⟨K1,v,rfl,Ey⟩;obtain⟨g,cap,rfl,hR,_⟩:=Ru Ey wB (by simp[Value.oneCell']);have t:Aa No F w1:=KW.then K1;have d0:w1.cell? (R_ g)=some (a_ (a0:Nat)):=(hR.cell wB).trans rfl;clear Ey Q hR K1 KW L Y U j0;obtain rfl|rfl|rfl|rfl|rfl|rfl|rfl|rfl:=hc
   .have D:=λm=>al2 m w1 K NC NS b a0 r (n.no t) hO hm hb hn N
    gi_wp2_with (first|(gi_at_call 100;refine(D _).mono ?_;rintro e w2 ⟨rfl,k,E,a,z,C,⟨R,B,hn2⟩,hXe⟩;have i:=(BQ.no t n.lt).trans C;obtain⟨P,p,q,s⟩:=Az (x:=a0) (y:=0) (f:=.nilFunc) (i.old rb O) rfl)|refine Fa p ?_);refine T_ a0 0 (by simp[results,results96,go_sem,FU s]) rfl ?_;exact BD (K':=k) (x:=a0) (y:=0) h.lt J M i E q N wB (.inl rfl) a z B (λe=>qx e (by simp[hn2])) (.inr ⟨.inr I,v0.out.symm,rfl,rfl,by rw[v0.out];exact hXe⟩)
   .have D:=λm=>az1 m w1 K NC NS b a0 r (n.no t) hO hm hb hn N
    gi_wp2_with (first|(gi_at_call 143;refine(D _).mono ?_;rintro e w2 ⟨k,x,y,f,rfl,G,H,l,E,a,z,C,⟨R,B,d⟩,c⟩;have i:=(BQ.no t n.lt).trans C;obtain⟨P,p,q,s⟩:=Az (x:=x) (y:=y) (f:=f) (i.old rb O) l.one)|refine Fa p ?_);refine bodyPost_ret (v:=.agg #[a_ x,a_ y,f]) (by simp[results,results96,go_sem,FU s]) rfl ?_;exact BD (K':=k) (x:=x) (y:=y) h.lt J M i E q G H l a z B d (.inr ⟨.inr I,by show dJ K b r (DR r 0) k x y f;rw[v0.out];exact c⟩)
   .have D:=λm=>bj6 m w1 K NC NS b a0 r (n.no t) hO hm hb hn N
    gi_wp2_with (first|(gi_at_call 144;refine(D _).mono ?_;rintro e w2 ⟨k,x,y,f,rfl,G,H,l,E,a,z,C,⟨R,B,d⟩,c⟩;have i:=(BQ.no t n.lt).trans C;obtain⟨P,p,q,s⟩:=Az (x:=x) (y:=y) (f:=f) (i.old rb O) l.one)|refine Fa p ?_);refine bodyPost_ret (v:=.agg #[a_ x,a_ y,f]) (by simp[results,results96,go_sem,FU s]) rfl ?_;exact BD (K':=k) (x:=x) (y:=y) h.lt J M i E q G H l a z B d (.inr ⟨.inr I,by show Yx K b r (DR r 0) k x y f;rw[v0.out];exact c⟩)
   .have D:=λm=>Ϻ m w1 K NC NS b a0 r (n.no t) hO hm hb hn N
    gi_wp2_with (first|(gi_at_call 145;refine(D _).mono ?_;rintro e w2 ⟨k,x,y,f,rfl,G,H,l,E,a,z,C,⟨R,B,d⟩,c⟩;have i:=(BQ.no t n.lt).trans C;obtain⟨P,p,q,s⟩:=Az (x:=x) (y:=y) (f:=f) (i.old rb O) l.one)|refine Fa p ?_);refine bodyPost_ret (v:=.agg #[a_ x,a_ y,f]) (by simp[results,results96,go_sem,FU s]) rfl ?_;exact BD (K':=k) (x:=x) (y:=y) h.lt J M i E q G H l a z B d (.inr ⟨.inr I,by show dN K b r (DR r 0) k x y f;rw[v0.out];exact c⟩)
   .have D:=λm=>av8 m w1 K NC NS b a0 r (n.no t) hO hm hb hn N
    gi_wp2_with (first|(gi_at_call 148;refine(D _).mono ?_;rintro e w2 ⟨k,x,y,f,rfl,G,H,l,E,a,z,C,⟨R,B,d⟩,c⟩;have i:=(BQ.no t n.lt).trans C;obtain⟨P,p,q,s⟩:=Az (x:=x) (y:=y) (f:=f) (i.old rb O) l.one)|refine Fa p ?_);refine bodyPost_ret (v:=.agg #[a_ x,a_ y,f]) (by simp[results,results96,go_sem,FU s]) rfl ?_;exact BD (K':=k) (x:=x) (y:=y) h.lt J M i E q G H l a z B d (.inr ⟨.inr I,by show VY K b r (DR r 0) k x y f;rw[v0.out];exact c⟩)
   .have D:=λm=>by4 m w1 K NC NS b a0 r (n.no t) hO hm hb hn N
    gi_wp2_with (first|(gi_at_call 149;refine(D _).mono ?_;rintro e w2 ⟨k,x,y,f,rfl,G,H,l,E,a,z,C,⟨R,B,d⟩,c⟩;have i:=(BQ.no t n.lt).trans C;obtain⟨P,p,q,s⟩:=Az (x:=x) (y:=y) (f:=f) (i.old rb O) l.one)|refine Fa p ?_);refine bodyPost_ret (v:=.agg #[a_ x,a_ y,f]) (by simp[results,results96,go_sem,FU s]) rfl ?_;exact BD (K':=k) (x:=x) (y:=y) h.lt J M i E q G H l a z B d (.inr ⟨.inr I,by show ϔ K b r (DR r 0) k x y f;rw[v0.out];exact c⟩)
   .have D:=λm=>bk6 m w1 K NC NS b a0 r (n.no t) hO hm hb hn N
    gi_wp2_with (first|(gi_at_call 151;refine(D _).mono ?_;rintro e w2 ⟨k,x,y,f,rfl,G,H,l,E,a,z,C,⟨R,B,d⟩,c⟩;have i:=(BQ.no t n.lt).trans C;obtain⟨P,p,q,s⟩:=Az (x:=x) (y:=y) (f:=f) (i.old rb O) l.one)|refine Fa p ?_);refine bodyPost_ret (v:=.agg #[a_ x,a_ y,f]) (by simp[results,results96,go_sem,FU s]) rfl ?_;exact BD (K':=k) (x:=x) (y:=y) h.lt J M i E q G H l a z B d (.inr ⟨.inr I,by show dO K b r (DR r 0) k x y f;rw[v0.out];exact c⟩)
   .have D:=λm=>ϝ m w1 K NC NS b a0 r (n.no t) hO hm hb N
    gi_wp2_with (first|(gi_at_call 153;refine(D _).mono ?_;rintro e w2 ⟨k,x,y,f,rfl,G,H,l,E,a,z,C,⟨R,B,d⟩,c⟩;have i:=(BQ.no t n.lt).trans C;obtain⟨P,p,q,s⟩:=Az (x:=x) (y:=y) (f:=f) (i.old rb O) l.one)|refine Fa p ?_);refine bodyPost_ret (v:=.agg #[a_ x,a_ y,f]) (by simp[results,results96,go_sem,FU s]) rfl ?_;exact BD (K':=k) (x:=x) (y:=y) h.lt J M i E q G H l a z B d (.inr ⟨.inr I,by show RH K (DR r 0) k x y f;rw[v0.out];exact c⟩)
 .gi_enter func96,ntmps96;gi_wp2;generalize hw0:w.alloc V_=F at*;refine Cc 15 155 ?_;gi_wp2_with (first|(gi_at_call 139;refine(ca _ F.drew).mono ?_;rintro e w1 ⟨rfl,rfl⟩)|(gi_at_call 138;refine(IJ b S ci r.Af.length 1 r.A _ F.drew U wB wB hA I).mono ?_;rintro e w1 ⟨rfl,rfl⟩));refine Ee ?_ ?_
  .intro W L;have d5:=L.has (w:=F.drew) Y;have Z:=L.has (w:=F.drew) U
   repeat' (refine AA ?_ ?_)
   all_goals first|exact dE|gi_wp2_with (first|(gi_at_call 139;refine(ca _ W).mono ?_;rintro e w1 ⟨rfl,rfl⟩)|(gi_at_call 138;refine(IJ b S ci r.Af.length 1 r.A _ W Z wB wB hA I).mono ?_;rintro e w1 ⟨rfl,rfl⟩))
  .intro W L;have KW:Aa No F W:=(Aa.refl No F).drew.then L;have rbW:=KW.old rb id;gi_wp2_with (first|(gi_at_call 140;refine(Uy 1 rbW _).mono ?_;rintro e wz ⟨rfl,Kz,P,p,q,s⟩)|refine Fa p ?_);refine T_ 0 1 (by simp[results,results96,go_sem,FU s]) rfl ?_;exact Ci h hO hm hb J M (KW.then Kz) q sN sN (.inl ⟨by rw[show WO call=1 by obtain rfl|rfl|rfl|rfl|rfl|rfl|rfl|rfl:=hc<;>rfl];omega,GY.of⟩)
theorem zJ (K:KS)(NC NS b call:Nat)(r:PR)(h:AY K w)(hO:DU NC NS K)(hm:b∈K.Ar)(hb:K.ps b=some r)(hn:r.en=false)(ca:∀m w,O_ m 139 #[a_ (call:Nat)] w fun e w'=>e=.returned (b_ 2)/\w'=w)(hc:call=10\/call=14):
  O_ m 96 #[Q_ K.kb,Q_ b,a_ (call:Nat)] w (FX (UM K b r call) NC NS b K w):=by
 have o:=hO.pr b r hb;have hL:=(hO.co.pl b r hb).1;have hA:=o.A;obtain⟨J,rb,O⟩:=IE w;have z:=h.no J;have Hl:K.T w.heap.size=(0,0):=h.lt _ w_;obtain⟨l,ci,H,i,yK,him⟩:=z.lh hb hn;have WE:=i.le;have N:=z.Iu hb 5;simp[PR.arr]at N;by_cases t:r.A+2<=r.Af.length
 .obtain⟨a0,L⟩:∃v,r.Af[r.A+0]?=some v:=⟨_,JM wB⟩;have b0:=o.Af a0 (t_ L);have j0:(w.alloc V_).cell? (S_ l (r.A+0))=some (a_ (a0:Nat)):=(i.cell wB).trans (by rw[Aw,List.getElem?_map,L];rfl);obtain⟨a1,M⟩:∃v,r.Af[r.A+1]?=some v:=⟨_,JM wB⟩;have b1:=o.Af a1 (t_ M);have j1:(w.alloc V_).cell? (S_ l (r.A+1))=some (a_ (a1:Nat)):=(i.cell wB).trans (by rw[Aw,List.getElem?_map,M];rfl);have v0:=RF L;have v1:=RF M;clear L M;gi_enter func96,ntmps96;gi_wp2;generalize X:w.alloc V_=a at*;refine Cc 15 155 ?_;gi_wp2_with (first|(gi_at_call 139;refine(ca _ a.drew).mono ?_;rintro e w1 ⟨rfl,rfl⟩)|(gi_at_call 138;refine(Gq b l ci r.Af.length 2 r.A _ a.drew H wB hA hL WE t).mono ?_;rintro e w1 ⟨rfl,rfl⟩));refine Ee ?_ ?_
  .intro W c;have d5:=c.has (w:=a.drew) N;have U:=c.has (w:=a.drew) H
   repeat' (refine AA ?_ ?_)
   all_goals first|exact dE|gi_wp2_with (first|(gi_at_call 139;refine(ca _ W).mono ?_;rintro e w1 ⟨rfl,rfl⟩)|(gi_at_call 138;refine(Gq b l ci r.Af.length 2 r.A _ W U wB hA hL WE t).mono ?_;rintro e w1 ⟨rfl,rfl⟩))
  .intro W c;have KW:Aa No a W:=(Aa.refl No a).drew.then c;gi_wp2_with fail;refine(Lr _ W (S_ l r.A) 2 2 [a_ (a0:Nat),a_ (a1:Nat)] rfl (λj u q=>by
    match j,q with
    |0,q=>simp at q;subst q;exact KW.has j0
    |1,q=>simp at q;subst q;exact KW.has j1
    ) (by simp[Value.oneCell']) wB).mono ?_;rintro e w1 ⟨K1,v,rfl,Ey⟩;obtain⟨g,cap,rfl,hR,_⟩:=Ru Ey wB (by simp[Value.oneCell']);have UC:Aa No a w1:=KW.then K1;have d0:w1.cell? (R_ g)=some (a_ (a0:Nat)):=(hR.cell wB).trans rfl;have d1:w1.cell? (S_ g 1)=some (a_ (a1:Nat)):=(hR.cell wB).trans rfl;clear Ey i hR K1 KW c N H j0 j1;obtain rfl|rfl:=hc
   .gi_wp2;refine Cc 8 155 ?_;gi_wp2;refine Ee ?_ ?_
    .intro k d;have e0:=d.has (w:=w1.drew) d0;have e1:=d.has (w:=w1.drew) d1
     repeat' (refine AA ?_ ?_)
     all_goals first|exact dE|gi_wp2
    .intro k d;have I:Aa No a k:=UC.then ((Aa.refl No w1).drew.then d);have S:=λm=>qw m k K NC NS b a0 a1 r (z.no I) hO hm hb hn b0
     gi_wp2_with (first|(gi_at_call 150;refine(S _).mono ?_;rintro e w2 ⟨C,x,y,f,rfl,Y,Z,G,V,n,P,R,⟨r2,Q,s⟩,p⟩;have E:=(BQ.no I z.lt).trans R;obtain⟨w8,B,D,F⟩:=Az (x:=x) (y:=y) (f:=f) (E.old rb Hl) G.one)|refine Fa B ?_);refine bodyPost_ret (v:=.agg #[a_ x,a_ y,f]) (by simp[results,results96,go_sem,FU F]) rfl ?_;exact BD (K':=C) (x:=x) (y:=y) h.lt J O E V D Y Z G n P Q s (.inr ⟨.inr t,by show Tn K b r (DR r 0) (DR r 1) C x y f;rw[v0.out,v1.out];exact p⟩)
   .gi_wp2;refine Cc 8 155 ?_;gi_wp2;refine Ee ?_ ?_
    .intro k d;have e0:=d.has (w:=w1.drew) d0;have e1:=d.has (w:=w1.drew) d1
     repeat' (refine AA ?_ ?_)
     all_goals first|exact dE|gi_wp2
    .intro k d;have I:Aa No a k:=UC.then ((Aa.refl No w1).drew.then d);have S:=λm=>bb7 m k K NC NS b a0 a1 r (z.no I) hO hm hb hn b0 b1
     gi_wp2_with (first|(gi_at_call 154;refine(S _).mono ?_;rintro e w2 ⟨C,x,y,f,rfl,Y,Z,G,V,n,P,R,⟨r2,Q,s⟩,p⟩;have E:=(BQ.no I z.lt).trans R;obtain⟨w8,B,D,F⟩:=Az (x:=x) (y:=y) (f:=f) (E.old rb Hl) G.one)|refine Fa B ?_);refine bodyPost_ret (v:=.agg #[a_ x,a_ y,f]) (by simp[results,results96,go_sem,FU F]) rfl ?_;exact BD (K':=C) (x:=x) (y:=y) h.lt J O E V D Y Z G n P Q s (.inr ⟨.inr t,by show dK K r (DR r 0) (DR r 1) C x y f;rw[v0.out,v1.out];exact p⟩)
 .gi_enter func96,ntmps96;gi_wp2;generalize X:w.alloc V_=a at*;refine Cc 15 155 ?_;gi_wp2_with (first|(gi_at_call 139;refine(ca _ a.drew).mono ?_;rintro e w1 ⟨rfl,rfl⟩)|(gi_at_call 138;refine(IJ b l ci r.Af.length 2 r.A _ a.drew H wB wB hA t).mono ?_;rintro e w1 ⟨rfl,rfl⟩));refine Ee ?_ ?_
  .intro W c;have d5:=c.has (w:=a.drew) N;have U:=c.has (w:=a.drew) H
   repeat' (refine AA ?_ ?_)
   all_goals first|exact dE|gi_wp2_with (first|(gi_at_call 139;refine(ca _ W).mono ?_;rintro e w1 ⟨rfl,rfl⟩)|(gi_at_call 138;refine(IJ b l ci r.Af.length 2 r.A _ W U wB wB hA t).mono ?_;rintro e w1 ⟨rfl,rfl⟩))
  .intro W c;have KW:Aa No a W:=(Aa.refl No a).drew.then c;have rbW:=KW.old rb id;gi_wp2_with (first|(gi_at_call 140;refine(Uy 1 rbW _).mono ?_;rintro e wz ⟨rfl,Kz,w8,B,D,F⟩)|refine Fa B ?_);refine T_ 0 1 (by simp[results,results96,go_sem,FU F]) rfl ?_;exact Ci h hO hm hb J O (KW.then Kz) D sN sN (.inl ⟨by rw[show WO call=2 by obtain rfl|rfl:=hc<;>rfl];omega,GY.of⟩)
theorem zI (K:KS)(NC NS b call:Nat)(r:PR)(h:AY K w)(hO:DU NC NS K)(hm:b∈K.Ar)(hb:K.ps b=some r)(hn:r.en=false)(ca:∀m w,O_ m 139 #[a_ (call:Nat)] w fun e w'=>e=.returned (b_ 3)/\w'=w)(hc:call=6\/call=7):
  O_ m 96 #[Q_ K.kb,Q_ b,a_ (call:Nat)] w (FX (UM K b r call) NC NS b K w):=by
 have o:=hO.pr b r hb;have hL:=(hO.co.pl b r hb).1;have hA:=o.A;obtain⟨J,rb,P⟩:=IE w;have z:=h.no J;have Hl:K.T w.heap.size=(0,0):=h.lt _ w_;obtain⟨l,ci,H,d,yK,him⟩:=z.lh hb hn;have WE:=d.le;have O:=z.Iu hb 5;simp[PR.arr]at O;by_cases t:r.A+3<=r.Af.length
 .obtain⟨a0,L⟩:∃v,r.Af[r.A+0]?=some v:=⟨_,JM wB⟩;have b0:=o.Af a0 (t_ L);have j0:(w.alloc V_).cell? (S_ l (r.A+0))=some (a_ (a0:Nat)):=(d.cell wB).trans (by rw[Aw,List.getElem?_map,L];rfl);obtain⟨a1,M⟩:∃v,r.Af[r.A+1]?=some v:=⟨_,JM wB⟩;have b1:=o.Af a1 (t_ M);have j1:(w.alloc V_).cell? (S_ l (r.A+1))=some (a_ (a1:Nat)):=(d.cell wB).trans (by rw[Aw,List.getElem?_map,M];rfl);obtain⟨a2,N⟩:∃v,r.Af[r.A+2]?=some v:=⟨_,JM wB⟩;have b2:=o.Af a2 (t_ N);have j2:(w.alloc V_).cell? (S_ l (r.A+2))=some (a_ (a2:Nat)):=(d.cell wB).trans (by rw[Aw,List.getElem?_map,N];rfl);have v0:=RF L;have v1:=RF M;have v2:=RF N;clear L M N;gi_enter func96,ntmps96;gi_wp2;generalize Y:w.alloc V_=a at*;refine Cc 15 155 ?_;gi_wp2_with (first|(gi_at_call 139;refine(ca _ a.drew).mono ?_;rintro e w1 ⟨rfl,rfl⟩)|(gi_at_call 138;refine(Gq b l ci r.Af.length 3 r.A _ a.drew H wB hA hL WE t).mono ?_;rintro e w1 ⟨rfl,rfl⟩));refine Ee ?_ ?_
  .intro W i;have d5:=i.has (w:=a.drew) O;have V:=i.has (w:=a.drew) H
   repeat' (refine AA ?_ ?_)
   all_goals first|exact dE|gi_wp2_with (first|(gi_at_call 139;refine(ca _ W).mono ?_;rintro e w1 ⟨rfl,rfl⟩)|(gi_at_call 138;refine(Gq b l ci r.Af.length 3 r.A _ W V wB hA hL WE t).mono ?_;rintro e w1 ⟨rfl,rfl⟩))
  .intro W i;have KW:Aa No a W:=(Aa.refl No a).drew.then i;gi_wp2_with fail;refine(Lr _ W (S_ l r.A) 3 3 [a_ (a0:Nat),a_ (a1:Nat),a_ (a2:Nat)] rfl (λj u k=>by
    match j,k with
    |0,k=>simp at k;subst k;exact KW.has j0
    |1,k=>simp at k;subst k;exact KW.has j1
    |2,k=>simp at k;subst k;exact KW.has j2
    ) (by simp[Value.oneCell']) wB).mono ?_;rintro e w1 ⟨K1,v,rfl,Ey⟩;obtain⟨g,cap,rfl,hR,_⟩:=Ru Ey wB (by simp[Value.oneCell']);have UC:Aa No a w1:=KW.then K1;have d0:w1.cell? (R_ g)=some (a_ (a0:Nat)):=(hR.cell wB).trans rfl;have d1:w1.cell? (S_ g 1)=some (a_ (a1:Nat)):=(hR.cell wB).trans rfl;have d2:w1.cell? (S_ g 2)=some (a_ (a2:Nat)):=(hR.cell wB).trans rfl;clear Ey d hR K1 KW i O H j0 j1 j2;obtain rfl|rfl:=hc
   .gi_wp2;refine Cc 11 155 ?_;gi_wp2;refine Ee ?_ ?_
    .intro n c;have e0:=c.has (w:=w1.drew) d0;have e1:=c.has (w:=w1.drew) d1;have e2:=c.has (w:=w1.drew) d2
     repeat' (refine AA ?_ ?_)
     all_goals first|exact dE|gi_wp2
    .intro n c;have I:Aa No a n:=UC.then ((Aa.refl No w1).drew.then c);have U:=λm=>be3 m n K NC NS b a0 a1 a2 r (z.no I) hO hm hb hn b0 b1 b2
     gi_wp2_with (first|(gi_at_call 146;refine(U _).mono ?_;rintro e w2 ⟨C,x,y,f,rfl,Z,hy,G,X,p,Q,S,⟨r2,R,s⟩,q⟩;have E:=(BQ.no I z.lt).trans S;obtain⟨w8,B,D,F⟩:=Az (x:=x) (y:=y) (f:=f) (E.old rb Hl) G.one)|refine Fa B ?_);refine bodyPost_ret (v:=.agg #[a_ x,a_ y,f]) (by simp[results,results96,go_sem,FU F]) rfl ?_;exact BD (K':=C) (x:=x) (y:=y) h.lt J P E X D Z hy G p Q R s (.inr ⟨.inr t,by show dL K b r (DR r 0) (DR r 1) (DR r 2) C x y f;rw[v0.out,v1.out,v2.out];exact q⟩)
   .gi_wp2;refine Cc 11 155 ?_;gi_wp2;refine Ee ?_ ?_
    .intro n c;have e0:=c.has (w:=w1.drew) d0;have e1:=c.has (w:=w1.drew) d1;have e2:=c.has (w:=w1.drew) d2
     repeat' (refine AA ?_ ?_)
     all_goals first|exact dE|gi_wp2
    .intro n c;have I:Aa No a n:=UC.then ((Aa.refl No w1).drew.then c);have U:=λm=>am3 m n K NC NS b a0 a1 a2 r (z.no I) hO hm hb hn b0 b1 b2
     gi_wp2_with (first|(gi_at_call 147;refine(U _).mono ?_;rintro e w2 ⟨C,x,y,f,rfl,Z,hy,G,X,p,Q,S,⟨r2,R,s⟩,q⟩;have E:=(BQ.no I z.lt).trans S;obtain⟨w8,B,D,F⟩:=Az (x:=x) (y:=y) (f:=f) (E.old rb Hl) G.one)|refine Fa B ?_);refine bodyPost_ret (v:=.agg #[a_ x,a_ y,f]) (by simp[results,results96,go_sem,FU F]) rfl ?_;exact BD (K':=C) (x:=x) (y:=y) h.lt J P E X D Z hy G p Q R s (.inr ⟨.inr t,by show VX K r (DR r 0) (DR r 1) (DR r 2) C x y f;rw[v0.out,v1.out,v2.out];exact q⟩)
 .gi_enter func96,ntmps96;gi_wp2;generalize Y:w.alloc V_=a at*;refine Cc 15 155 ?_;gi_wp2_with (first|(gi_at_call 139;refine(ca _ a.drew).mono ?_;rintro e w1 ⟨rfl,rfl⟩)|(gi_at_call 138;refine(IJ b l ci r.Af.length 3 r.A _ a.drew H wB wB hA t).mono ?_;rintro e w1 ⟨rfl,rfl⟩));refine Ee ?_ ?_
  .intro W i;have d5:=i.has (w:=a.drew) O;have V:=i.has (w:=a.drew) H
   repeat' (refine AA ?_ ?_)
   all_goals first|exact dE|gi_wp2_with (first|(gi_at_call 139;refine(ca _ W).mono ?_;rintro e w1 ⟨rfl,rfl⟩)|(gi_at_call 138;refine(IJ b l ci r.Af.length 3 r.A _ W V wB wB hA t).mono ?_;rintro e w1 ⟨rfl,rfl⟩))
  .intro W i;have KW:Aa No a W:=(Aa.refl No a).drew.then i;have rbW:=KW.old rb id;gi_wp2_with (first|(gi_at_call 140;refine(Uy 1 rbW _).mono ?_;rintro e wz ⟨rfl,Kz,w8,B,D,F⟩)|refine Fa B ?_);refine T_ 0 1 (by simp[results,results96,go_sem,FU F]) rfl ?_;exact Ci h hO hm hb J P (KW.then Kz) D sN sN (.inl ⟨by rw[show WO call=3 by obtain rfl|rfl:=hc<;>rfl];omega,GY.of⟩)
theorem G7 (call n:Nat)(h:(call,n)∈[(1,1),(2,0),(3,1),(4,1),(5,1),(6,3),(7,3),(8,1),(9,1),(10,2),(11,1),(12,0),(13,1),(14,2)]):O_ m 139 #[a_ (call:Nat)] w λe w'=>e=.returned (b_ n)/\w'=w:=by
 simp only[r_,lQ,lG,or_false]at h;obtain⟨rfl,rfl⟩|⟨rfl,rfl⟩|⟨rfl,rfl⟩|⟨rfl,rfl⟩|⟨rfl,rfl⟩|⟨rfl,rfl⟩|⟨rfl,rfl⟩|⟨rfl,rfl⟩|⟨rfl,rfl⟩|⟨rfl,rfl⟩|⟨rfl,rfl⟩|⟨rfl,rfl⟩|⟨rfl,rfl⟩|⟨rfl,rfl⟩:=h
 all_goals
  gi_enter func139,ntmps139
  gi_wp2
  go_ret
  exact⟨sJ,rfl⟩
theorem rD (call:Nat)(h:vK call):O_ m 139 #[a_ (call:Nat)] w λe w'=>e=.returned (b_ 0)/\w'=w:=by
 obtain⟨g,i,j,k,l,n,o,p,q,a,b,c,d,f⟩:=h;gi_enter func139,ntmps139;gi_wp2;go_ret;exact⟨sJ,rfl⟩
theorem bb4 (K:KS)(NC NS b call:Nat)(r:PR)(h:AY K w)(n:DU NC NS K)(o:b∈K.Ar)(hb:K.ps b=some r)(p:r.en=false):
  O_ m 96 #[Q_ K.kb,Q_ b,a_ (call:Nat)] w (FX (UM K b r call) NC NS b K w):=by
 by_cases e1:call=1
 .subst e1;exact Ot m w K NC NS b 1 r h n o hb p (λm w=>G7 m w 1 1 sJ) sJ
 by_cases e2:call=2
 .subst e2;exact jr m w K NC NS b 2 r h n o hb p (λm w=>G7 m w 2 0 sJ) sJ
 by_cases e3:call=3
 .subst e3;exact Ot m w K NC NS b 3 r h n o hb p (λm w=>G7 m w 3 1 sJ) sJ
 by_cases e4:call=4
 .subst e4;exact Ot m w K NC NS b 4 r h n o hb p (λm w=>G7 m w 4 1 sJ) sJ
 by_cases g:call=5
 .subst g;exact Ot m w K NC NS b 5 r h n o hb p (λm w=>G7 m w 5 1 sJ) sJ
 by_cases i:call=6
 .subst i;exact zI m w K NC NS b 6 r h n o hb p (λm w=>G7 m w 6 3 sJ) sJ
 by_cases j:call=7
 .subst j;exact zI m w K NC NS b 7 r h n o hb p (λm w=>G7 m w 7 3 sJ) sJ
 by_cases k:call=8
 .subst k;exact Ot m w K NC NS b 8 r h n o hb p (λm w=>G7 m w 8 1 sJ) sJ
 by_cases l:call=9
 .subst l;exact Ot m w K NC NS b 9 r h n o hb p (λm w=>G7 m w 9 1 sJ) sJ
 by_cases a:call=10
 .subst a;exact zJ m w K NC NS b 10 r h n o hb p (λm w=>G7 m w 10 2 sJ) sJ
 by_cases c:call=11
 .subst c;exact Ot m w K NC NS b 11 r h n o hb p (λm w=>G7 m w 11 1 sJ) sJ
 by_cases d:call=12
 .subst d;exact jr m w K NC NS b 12 r h n o hb p (λm w=>G7 m w 12 0 sJ) sJ
 by_cases e:call=13
 .subst e;exact Ot m w K NC NS b 13 r h n o hb p (λm w=>G7 m w 13 1 sJ) sJ
 by_cases f:call=14
 .subst f;exact zJ m w K NC NS b 14 r h n o hb p (λm w=>G7 m w 14 2 sJ) sJ
 exact jr m w K NC NS b call r h n o hb p (λm w=>rD m w call ⟨wB,wB,wB,wB,wB,wB,wB,wB,wB,wB,wB,wB,wB,wB⟩) (.inr (.inr ⟨wB,wB,wB,wB,wB,wB,wB,wB,wB,wB,wB,wB,wB,wB⟩))
end
def FV (r:PR)(op n:Nat):Nat:=if op=9 then r.A else if op=10 then r.B else n
def EF (r:PR)(op n:Nat):Nat×Nat×PR:=
 if FV r op n<r.Af.length then
  if op=2\/op=9 then(0,0,{r with A:=(r.Af[FV r op n]?).getD 0})
  else if op=3\/op=10 then(0,0,{r with Af:=r.Af.set (FV r op n) r.A})
  else if op=4 then(0,0,{r with A:=(r.A+(r.Af[FV r op n]?).getD 0) % 65536})
  else if op=5 then(0,0,{r with A:=(r.A+65536-(r.Af[FV r op n]?).getD 0) % 65536})
  else(2,0,r)
 else(2,0,r)
def XR (r:PR)(op n:Nat):Nat×Nat×PR:=
 if op=1 then(0,0,{r with P:=r.P+2,A:=n})
 else if op=6 then(0,0,{r with P:=n})
 else if op=7 then(0,0,if r.A=0 then {r with P:=n} else {r with P:=r.P+2})
 else if op=8 then(0,0,{r with P:=r.P+2,A:=r.B,B:=r.A})
 else if op=11 then(1,n,{r with P:=r.P+2})
 else EF {r with P:=r.P+2} op n
def EO (r:PR):Nat×Nat×PR:=if r.P+2<=r.Af.length then XR r ((r.Af[r.P]?).getD 0) ((r.Af[r.P+1]?).getD 0)else(2,0,r)
def ϗ (K:KS)(b:Nat)(w:o_)(s:Nat×Nat×PR)(e:Ending)(w':o_):Prop:=e=.returned (.tuple #[b_ (s.1:Nat),a_ (s.2.1:Nat)])/\AY (K.Bj b s.2.2) w'/\BQ K.T K.T w w'
def iK (K:KS)(b:Nat)(w:o_)(s:Nat×Nat×PR)(e:Ending)(w':o_):Prop:=e=.returned (b_ (s.1:Nat))/\AY (K.Bj b s.2.2) w'/\BQ K.T K.T w w'
theorem Τ {A B P:Nat}{w w':o_}(h:AY K w)(hb:K.ps b=some r)(n:Aa (At b) w w')(o:w'.heap[b]?=some ({r with A:=A,B:=B,P:=P}:PR).obj):AY (K.Bj b {r with A:=A,B:=B,P:=P}) w'/\BQ K.T K.T w w':=by
 have a:=h.ps b r hb;have M:CG K.T K.T (λt=>t=(6,b)\/t=(7,b)\/t=(8,b)\/t=(9,b)) (λt=>t=(6,b)\/t=(7,b)\/t=(8,b)\/t=(9,b)) w w':=CG.of (n.on λk _ e=>by subst e;exact .inl a.t) h.lt;have ne:∀{x:Nat} {t:Nat×Nat},K.T x=t->t≠(6,b)->¬At b x:=fun {x t} f i e=>by
  have e:x=b:=e
  subst e;exact i (f.symm.trans a.t)
 refine⟨h.lL M ⟨a.t,o,λe=>?_,λe=>?_,?_,a.no⟩,M.Xu (by rintro t (rfl|rfl|rfl|rfl)<;>simp)⟩
 .obtain⟨g,c,a1,a2,d⟩:=a.im e;exact⟨g,c,a1,a2.keep n (ne d sJ),d⟩
 .obtain⟨g,c,a1,a2,d⟩:=a.fd e;exact⟨g,c,a1,a2.keep n (ne d sJ),d⟩
 .obtain h|⟨x,y,f,i,m,j,l⟩|h:=a.bl
  .exact .inl h
  .exact .inr (.inl ⟨x,y,f,n.old i (ne j sJ),n.old m (ne l sJ),j,l⟩)
  .exact .inr (.inr h)
section
variable (m:Nat)(w:o_)
theorem yH (b op n:Nat)(r:PR)(h:w.cell? (S_ b 5)=some (a_ (r.A:Nat)))(i:w.cell? (S_ b 6)=some (a_ (r.B:Nat))):
  O_ m 244 #[.pointer (some (S_ b 5)),a_ (op:Nat),a_ (n:Nat)] w λe w'=>e=.returned (a_ (FV r op n:Nat))/\w'=w:=by
 obtain⟨a,c⟩:∃a,a=FV r op n:=⟨_,rfl⟩;rw[<-c];have f:(op=9/\a=r.A)\/(op=10/\a=r.B)\/(¬(op:Int)=9/\¬(op:Int)=10/\a=n):=by
  unfold FV at c
  split at c
  .exact .inl ⟨by assumption,c⟩
  .split at c
   .exact .inr (.inl ⟨by assumption,c⟩)
   .exact .inr (.inr ⟨wB,wB,c⟩)
 clear c;gi_enter func244,ntmps244;obtain⟨rfl,rfl⟩|⟨rfl,rfl⟩|⟨g,d,rfl⟩:=f
 all_goals gi_wp2
 all_goals go_ret
 all_goals exact⟨sJ,rfl⟩
def Yi (op:Nat):Prop:=¬(op:Int)=2/\¬(op:Int)=9/\¬(op:Int)=3/\¬(op:Int)=10/\¬(op:Int)=4/\¬(op:Int)=5
theorem am6 (K:KS)(b op n:Nat)(r:PR)(h:AY K w)(hb:K.ps b=some r)(Z:r.en=false)(o:r.Ok)(hL:r.Af.length<=128)(hx:n<65536):
  O_ m 226 #[.pointer (some (S_ b 5)),a_ (op:Nat),a_ (n:Nat)] w (iK K b w (EF r op n)):=by
 obtain⟨l,ci,I,g,W,s⟩:=h.lh hb Z;have P:=g.le;have G:=h.Iu hb 5;have H:=h.Iu hb 6;simp[PR.arr]at G H;have z5:=h.lF hb 5;have t:=λm=>yH m w b op n r G H
 have hA:=o.A;have F:FV r op n<65536:=by have:=o.A;have:=o.B;unfold FV;split<;>(try split)<;>omega
 have no:iK K b w (2,0,r) (.returned (b_ 2)) w:=⟨rfl,by show AY (K.Bj b r) w;rw[FD hb];exact h,BQ.no (Aa.refl _ _) h.lt⟩;by_cases j:FV r op n<r.Af.length
 .obtain⟨y,k⟩:∃v,r.Af[FV r op n]?=some v:=⟨_,JM wB⟩;have U:=o.Af y (t_ k);have d:w.cell? (S_ l (FV r op n))=some (a_ (y:Nat)):=(g.cell wB).trans (by rw[Aw,List.getElem?_map,k];rfl);have Y:=g.fz (FV r op n);have p:∀x:Nat,EF r op n=(0,0,{r with A:=x})->iK K b w (EF r op n) (.returned (b_ 0)) (w.setCell (S_ b 5) (a_ (x:Nat))):=λx e=>by
   rw[e]
   exact⟨rfl,h.GR (r':={r with A:=x}) (i:=5) (v:=a_ (x:Nat)) hb ⟨rfl,rfl,rfl,rfl,rfl⟩ rfl (h.ps b r hb).bl,h.EG hb⟩
  have sD:Yp (∀e f,iK K b w (EF r op n) e f->iK K b w (EF r op n) e f.drew):=λe f h=>⟨h.1,h.2.1.no (Aa.refl No f).drew,h.2.2.then (Aa.refl No f).drew⟩
  have q:=h.XZ (i:=FV r op n) (x:=r.A) hb Z s;have r0:(op=2\/op=9)->EF r op n=(0,0,{r with A:=y}):=λe=>by unfold EF;rw[rW j,rW e,k];rfl
  have J:(op=3\/op=10)->EF r op n=(0,0,{r with Af:=r.Af.set (FV r op n) r.A}):=λe=>by unfold EF;rw[rW j,ru wB,rW e]
  have L:op=4->EF r op n=(0,0,{r with A:=(r.A+y) % 65536}):=λe=>by unfold EF;rw[rW j,ru wB,ru wB,rW e,k];rfl
  have M:op=5->EF r op n=(0,0,{r with A:=(r.A+65536-y) % 65536}):=λe=>by unfold EF;rw[rW j,ru wB,ru wB,ru wB,rW e,k];rfl
  have N:Yi op->EF r op n=(2,0,r):=λ⟨e1,e2,e3,e4,u,C⟩=>by unfold EF;rw[rW j,ru wB,ru wB,ru wB,ru wB]
  have w4:IntKind.u16.wrap ((r.A:Int)+(y:Int))=(((r.A+y) % 65536:Nat):Int):=by rw[wrap_u16];omega
  have V:IntKind.u16.wrap ((r.A:Int)-(y:Int))=(((r.A+65536-y) % 65536:Nat):Int):=by rw[wrap_u16];omega
  have O:(op=2\/op=9\/op=3\/op=10\/op=4\/op=5)\/Yi op:=by unfold Yi;omega
  generalize hX:iK K b w (EF r op n)=X at*;have Q:Yp ((op=2\/op=9)->∀e,e=.returned (b_ 0)->X e (w.setCell (S_ b 5) (a_ (y:Nat)))):=λe=>by rintro _ rfl;exact p _ (r0 e)
  have R:Yp ((op=3\/op=10)->∀e,e=.returned (b_ 0)->X e (w.setCell (S_ l (FV r op n)) (a_ (r.A:Nat)))):=λe=>by rintro _ rfl;exact(by rw[<-hX,J e];exact⟨rfl,q.1,q.2⟩)
  have D:Yp (op=4->∀e (z:Int),e=.returned (b_ 0)->z=(((r.A+y) % 65536:Nat):Int)->X e (w.setCell (S_ b 5) (a_ z))):=λe=>by rintro _ _ rfl rfl;exact p _ (L e)
  have E:Yp (op=5->∀e (z:Int),e=.returned (b_ 0)->z=(((r.A+65536-y) % 65536:Nat):Int)->X e (w.setCell (S_ b 5) (a_ z))):=λe=>by rintro _ _ rfl rfl;exact p _ (M e)
  have S:Yp (Yi op->∀e,e=.returned (b_ 2)->X e w):=λe=>by rintro _ rfl;exact(by rw[<-hX,N e];exact no)
  clear p r0 J L M N q no hX k;generalize FV r op n=a at*;gi_enter func226,ntmps226;gi_wp2_with (first|(gi_at_call 244;refine(t _).mono ?_;rintro e f ⟨rfl,c⟩;have c:=c.symm;subst c)|(gi_at_call 138;refine(Gq b l ci r.Af.length 1 a _ w I wB F hL P wB).mono ?_;rintro e f ⟨rfl,c⟩;have c:=c.symm;subst c;obtain(rfl|rfl|rfl|rfl|rfl|rfl)|⟨e1,e2,e3,e4,u,C⟩:=O))
  all_goals (try gi_region)
  all_goals (try gi_wp2)
  all_goals (try go_ret)
  all_goals first|exact Q.out sJ _ sJ|exact R.out sJ _ sJ|exact D.out sJ _ _ sJ wB|exact E.out sJ _ _ sJ wB|exact sD.out _ _ (D.out sJ _ _ sJ wB)|exact sD.out _ _ (E.out sJ _ _ sJ wB)|exact S.out ⟨e1,e2,e3,e4,u,C⟩ _ sJ
 .have e:EF r op n=(2,0,r):=by unfold EF;rw[ru j]
  rw[e];clear e;generalize FV r op n=a at*;have no:Yp (∀e,e=.returned (b_ 2)->iK K b w (2,0,r) e w):=λe T=>by rw[T];exact no
  generalize iK K b w (2,0,r)=X at*;gi_enter func226,ntmps226;gi_wp2_with (first|(gi_at_call 244;refine(t _).mono ?_;rintro e f ⟨rfl,c⟩;have c:=c.symm;subst c)|(gi_at_call 138;refine(IJ b l ci r.Af.length 1 a _ w I wB wB F wB).mono ?_;rintro e f ⟨rfl,c⟩;have c:=c.symm;subst c))
  try go_ret
  exact no.out _ sJ
end
theorem Yp.in {p:Prop}(h:p):Yp p:=h
def jK (op:Nat):Prop:=¬(op:Int)=1/\¬(op:Int)=6/\¬(op:Int)=7/\¬(op:Int)=8/\¬(op:Int)=11
section
variable (m:Nat)(w:o_)
theorem ba7 (K:KS)(b:Nat)(r:PR)(h:AY K w)(hb:K.ps b=some r)(hn:r.en=false)(o:r.Ok)(hL:r.Af.length<=128):
  O_ m 185 #[.pointer (some (S_ b 5))] w (ϗ K b w (EO r)):=by
 obtain⟨f,ci,Q,j,yK,V⟩:=h.lh hb hn;have R:=j.le;have L:=o.P;by_cases y:r.P+2<=r.Af.length
 .obtain⟨op,C⟩:∃v,r.Af[r.P]?=some v:=⟨_,JM wB⟩;obtain⟨n,g⟩:∃v,r.Af[r.P+1]?=some v:=⟨_,JM wB⟩;have e:EO r=XR r op n:=by unfold EO;rw[rW y,C,g];rfl
  rw[e];clear e;have W:=(h.ps b r hb).o;have q5:=h.Iu hb 5;have q6:=h.Iu hb 6;have F:=h.Iu hb 7;simp[PR.arr]at q5 q6 F;have z5:=h.lF hb 5;have z6:=h.lF hb 6;have z7:=h.lF hb 7;have E:=o.Af n (t_ g);have d:w.cell? (S_ f r.P)=some (a_ (op:Nat)):=(j.cell wB).trans (by rw[Aw,List.getElem?_map,C];rfl);have d1:w.cell? (S_ f (r.P+1))=some (a_ (n:Nat)):=(j.cell wB).trans (by rw[Aw,List.getElem?_map,g];rfl);clear C g;have w2:IntKind.u16.wrap ((r.P:Int)+2)=(r.P:Int)+2:=by rw[wrap_u16];omega
  have q:=h.GR (r':={r with P:=r.P+2}) (i:=7) (v:=a_ ((r.P:Int)+2)) hb ⟨rfl,rfl,rfl,rfl,rfl⟩ rfl (h.ps b r hb).bl;have G:=h.EG hb (i:=7) (v:=a_ ((r.P:Int)+2));have N:({r with P:=r.P+2}:PR).Ok:=⟨o.A,o.B,(by show r.P+2<65536;omega),o.st,o.pid,o.par,o.Af,o.fds,o.fd,o.len,o.off⟩;have t:=q.no (Aa.refl No _).drew;have H:=λm=>am6 m _ _ b op n {r with P:=r.P+2} t Ag hn N hL E
  have k:((op=1/\r.A=r.A/\XR r op n=(0,0,{r with A:=n,B:=r.B,P:=r.P+2}))\/(op=6/\r.A=r.A/\XR r op n=(0,0,{r with A:=r.A,B:=r.B,P:=n}))\/(op=7/\(((r.A:Int)==0)=true)/\XR r op n=(0,0,{r with A:=r.A,B:=r.B,P:=n}))\/(op=7/\(((r.A:Int)==0)=false)/\XR r op n=(0,0,{r with A:=r.A,B:=r.B,P:=r.P+2}))\/(op=8/\r.A=r.A/\XR r op n=(0,0,{r with A:=r.B,B:=r.A,P:=r.P+2}))\/(op=11/\r.A=r.A/\XR r op n=(1,n,{r with A:=r.A,B:=r.B,P:=r.P+2})))\/jK op:=by
   by_cases z:op=7
   .by_cases c:r.A=0
    .exact .inl (.inr (.inr (.inl ⟨z,by simpa using c,by simp[XR,z,c]⟩)))
    .exact .inl (.inr (.inr (.inr (.inl ⟨z,by simpa using c,by simp[XR,z,c]⟩))))
   .by_cases q:op=1
    .exact .inl (.inl ⟨q,rfl,by simp[XR,q]⟩)
    .by_cases I:op=6
     .exact .inl (.inr (.inl ⟨I,rfl,by simp[XR,I]⟩))
     .by_cases J:op=8
      .exact .inl (.inr (.inr (.inr (.inr (.inl ⟨J,rfl,by simp[XR,J]⟩)))))
      .by_cases s:op=11
       .exact .inl (.inr (.inr (.inr (.inr (.inr ⟨s,rfl,by simp[XR,s]⟩)))))
       .unfold jK;omega
  have tail:∀{A B P O x:Nat} {e:Ending} {a:o_},XR r op n=(O,x,{r with A:=A,B:=B,P:=P})->e=.returned (.tuple #[b_ (O:Nat),a_ (x:Nat)])/\Aa (At b) w a/\a.heap[b]?=some ({r with A:=A,B:=B,P:=P}:PR).obj->ϗ K b w (XR r op n) e a:=λe ⟨u,T,D⟩=>by
   have:=Τ h hb T D
   rw[e]
   exact⟨u,this.1,this.2⟩
  have tou:∀{e:Ending} {a:o_},jK op->iK (K.Bj b {r with P:=r.P+2}) b (w.setCell (S_ b 7) (a_ ((r.P:Int)+2))).drew (EF {r with P:=r.P+2} op n) e a->∃x:Nat,e=.returned (b_ (x:Nat))/\ϗ K b w (XR r op n) (.returned (.tuple #[b_ (x:Nat),a_ 0])) a:=fun {e a} ⟨Y,Z,n3,n4,n5⟩ ⟨u,M,U⟩=>by
   refine⟨_,u,?_⟩
   have e1:XR r op n=EF {r with P:=r.P+2} op n:=by unfold XR;rw[ru wB,ru wB,ru wB,ru wB,ru wB]
   have e2:(EF {r with P:=r.P+2} op n).2.1=0:=by unfold EF;(repeat' split)<;>rfl
   rw[e1]
   refine⟨by rw[e2];rfl,?_,(G.then (Aa.refl No _).drew).trans U⟩
   rw[Vf]at M
   exact M
  generalize hX:ϗ K b w (XR r op n)=X at*;clear hX;obtain(⟨rfl,c,hE⟩|⟨rfl,c,hE⟩|⟨rfl,c,hE⟩|⟨rfl,c,hE⟩|⟨rfl,c,hE⟩|⟨rfl,c,hE⟩)|l:=k
  all_goals first|replace d:w.cell? (S_ f r.P)=some (a_ 1):=d|replace d:w.cell? (S_ f r.P)=some (a_ 6):=d|replace d:w.cell? (S_ f r.P)=some (a_ 7):=d|replace d:w.cell? (S_ f r.P)=some (a_ 8):=d|replace d:w.cell? (S_ f r.P)=some (a_ 11):=d|skip
  all_goals first|(replace tail:=Yp.in λe a=>@tail _ _ _ _ _ e a hE;clear hE tou H)|skip
  all_goals first|(have c:=l;obtain⟨Y,Z,n3,n4,n5⟩:=c;replace tou:=fun {e a}=>@tou e a l;clear tail l)|skip
  all_goals (try clear q t G N)
  all_goals gi_enter func185,ntmps185
  all_goals gi_wp2_with (gi_at_call 138;refine(Gq b f ci r.Af.length 2 r.P _ _ Q wB L hL R y).mono ?_;rintro e a ⟨rfl,p⟩;have p:=p.symm;subst p)
  all_goals gi_region
  all_goals gi_wp2_with (gi_at_call 226;refine(H _).mono ?_;rintro e w3 hC;obtain⟨x,rfl,S⟩:=tou hC;clear hC)
  all_goals (try gi_region)
  all_goals (try gi_wp2)
  all_goals (try go_ret2)
  all_goals first|(refine tail.out _ _ ⟨sJ,?_,?_⟩;(repeat (first|exact Aa.refl (At b) _|refine Aa.drew ?_|refine Aa.setCell ?_ _ (λ_=>rfl)));(simp[World.setCell,World.drew,iF,W,PR.obj,PR.arr];done))|exact S
 .have e:EO r=(2,0,r):=by unfold EO;rw[ru y]
  rw[e];have no:Yp (∀e,e=.returned (.tuple #[b_ 2,a_ 0])->ϗ K b w (2,0,r) e w):=λe u=>⟨u,by show AY (K.Bj b r) w;rw[FD hb];exact h,BQ.no (Aa.refl _ _) h.lt⟩
  clear e;have F:=h.Iu hb 7;simp[PR.arr]at F;generalize ϗ K b w (2,0,r)=X at*;gi_enter func185,ntmps185;gi_wp2_with (gi_at_call 138;refine(IJ b f ci r.Af.length 2 r.P _ _ Q wB wB L y).mono ?_;rintro e a ⟨rfl,p⟩;have p:=p.symm;subst p)
  try go_ret2
  exact no.out _ (by first|rfl|simp)
end
end Go.Fxa
