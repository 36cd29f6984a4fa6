/- A call is served -/
import Derived.Test.YtmhplpfpcnjekaaGreatA27
namespace Go.Fxa
open Conc Proofs RowKit Proofs.Tryz
set_option maxRecDepth 1000000
set_option maxHeartbeats 0
section
variable (m:Nat)(w:o_)
theorem Ot (K:KS)(NC NS b call:Nat)(r:PR)(h:AY K w)(hO:DU NC NS K)(hm:b∈K.Ar)(hb:K.ps b=some r)(hn:r.en=false)(ca:∀m w,O_ m 139 #[a_ (call:Nat)] w fun e w'=>e=.returned (b_ 1)/\w'=w)(hc:call=1\/call=3\/call=4\/call=5\/call=8\/call=9\/call=11\/call=13):
  O_ m 96 #[Q_ K.kb,Q_ b,a_ (call:Nat)] w (FX (UM K b r call) NC NS b K w):=by
 have o:=hO.pr b r hb;have hL:=(hO.co.pl b r hb).1;have hA:=o.A;obtain⟨J,rb,M⟩:=IE w;have n:=h.no J;have O:K.T w.heap.size=(0,0):=h.lt _ w_;obtain⟨S,ci,U,Q,yK,him⟩:=n.lh hb hn;have WE:=Q.le;have Y:=n.Iu hb 5;simp[PR.arr]at Y;by_cases I:r.A+1<=r.Af.length
 .obtain⟨a0,X⟩:∃v,r.Af[r.A+0]?=some v:=⟨_,JM wB⟩;have N:=o.Af a0 (t_ X);have j0:(w.alloc V_).cell? (S_ S (r.A+0))=some (a_ (a0:Nat)):=(Q.cell wB).trans (by rw[Aw,List.getElem?_map,X];rfl);have v0:=RF X;clear X;gi_enter func96,ntmps96;gi_wp2;generalize hw0:w.alloc V_=F at*;refine Cc 15 155 ?_;gi_wp2_with (first|(gi_at_call 139;refine(ca _ F.drew).mono ?_;rintro e w1 ⟨rfl,rfl⟩)|(gi_at_call 138;refine(Gq b S ci r.Af.length 1 r.A _ F.drew U wB hA hL WE I).mono ?_;rintro e w1 ⟨rfl,rfl⟩));refine Ee ?_ ?_
  .intro W L;have d5:=L.has (w:=F.drew) Y;have Z:=L.has (w:=F.drew) U
   repeat' (refine AA ?_ ?_)
   all_goals first|exact dE|gi_wp2_with (first|(gi_at_call 139;refine(ca _ W).mono ?_;rintro e w1 ⟨rfl,rfl⟩)|(gi_at_call 138;refine(Gq b S ci r.Af.length 1 r.A _ W Z wB hA hL WE I).mono ?_;rintro e w1 ⟨rfl,rfl⟩))
  .intro W L;have KW:Aa No F W:=(Aa.refl No F).drew.then L;gi_wp2_with fail;refine(Lr _ W (S_ S r.A) 1 1 [a_ (a0:Nat)] rfl (λj u V=>by
    match j,V with
    |0,V=>simp at V;subst V;exact KW.has j0
    ) (by simp[Value.oneCell']) wB).mono ?_;rintro e w1 ⟨K1,v,rfl,Ey⟩;obtain⟨g,cap,rfl,hR,_⟩:=Ru Ey wB (by simp[Value.oneCell']);have t:Aa No F w1:=KW.then K1;have d0:w1.cell? (R_ g)=some (a_ (a0:Nat)):=(hR.cell wB).trans rfl;clear Ey Q hR K1 KW L Y U j0;obtain rfl|rfl|rfl|rfl|rfl|rfl|rfl|rfl:=hc
   .have D:=λm=>al2 m w1 K NC NS b a0 r (n.no t) hO hm hb hn N
    gi_wp2_with (first|(gi_at_call 100;refine(D _).mono ?_;rintro e w2 ⟨rfl,k,E,a,z,C,⟨R,B,hn2⟩,hXe⟩;have i:=(BQ.no t n.lt).trans C;obtain⟨P,p,q,s⟩:=Az (x:=a0) (y:=0) (f:=.nilFunc) (i.old rb O) rfl)|refine Fa p ?_);refine T_ a0 0 (by simp[results,results96,go_sem,FU s]) rfl ?_;exact BD (K':=k) (x:=a0) (y:=0) h.lt J M i E q N wB (.inl rfl) a z B (λe=>qx e (by simp[hn2])) (.inr ⟨.inr I,v0.out.symm,rfl,rfl,by rw[v0.out];exact hXe⟩)
   .have D:=λm=>az1 m w1 K NC NS b a0 r (n.no t) hO hm hb hn N
    gi_wp2_with (first|(gi_at_call 143;refine(D _).mono ?_;rintro e w2 ⟨k,x,y,f,rfl,G,H,l,E,a,z,C,⟨R,B,d⟩,c⟩;have i:=(BQ.no t n.lt).trans C;obtain⟨P,p,q,s⟩:=Az (x:=x) (y:=y) (f:=f) (i.old rb O) l.one)|refine Fa p ?_);refine bodyPost_ret (v:=.agg #[a_ x,a_ y,f]) (by simp[results,results96,go_sem,FU s]) rfl ?_;exact BD (K':=k) (x:=x) (y:=y) h.lt J M i E q G H l a z B d (.inr ⟨.inr I,by show dJ K b r (DR r 0) k x y f;rw[v0.out];exact c⟩)
   .have D:=λm=>bj6 m w1 K NC NS b a0 r (n.no t) hO hm hb hn N
    gi_wp2_with (first|(gi_at_call 144;refine(D _).mono ?_;rintro e w2 ⟨k,x,y,f,rfl,G,H,l,E,a,z,C,⟨R,B,d⟩,c⟩;have i:=(BQ.no t n.lt).trans C;obtain⟨P,p,q,s⟩:=Az (x:=x) (y:=y) (f:=f) (i.old rb O) l.one)|refine Fa p ?_);refine bodyPost_ret (v:=.agg #[a_ x,a_ y,f]) (by simp[results,results96,go_sem,FU s]) rfl ?_;exact BD (K':=k) (x:=x) (y:=y) h.lt J M i E q G H l a z B d (.inr ⟨.inr I,by show Yx K b r (DR r 0) k x y f;rw[v0.out];exact c⟩)
   .have D:=λm=>Ϻ m w1 K NC NS b a0 r (n.no t) hO hm hb hn N
    gi_wp2_with (first|(gi_at_call 145;refine(D _).mono ?_;rintro e w2 ⟨k,x,y,f,rfl,G,H,l,E,a,z,C,⟨R,B,d⟩,c⟩;have i:=(BQ.no t n.lt).trans C;obtain⟨P,p,q,s⟩:=Az (x:=x) (y:=y) (f:=f) (i.old rb O) l.one)|refine Fa p ?_);refine bodyPost_ret (v:=.agg #[a_ x,a_ y,f]) (by simp[results,results96,go_sem,FU s]) rfl ?_;exact BD (K':=k) (x:=x) (y:=y) h.lt J M i E q G H l a z B d (.inr ⟨.inr I,by show dN K b r (DR r 0) k x y f;rw[v0.out];exact c⟩)
   .have D:=λm=>av8 m w1 K NC NS b a0 r (n.no t) hO hm hb hn N
    gi_wp2_with (first|(gi_at_call 148;refine(D _).mono ?_;rintro e w2 ⟨k,x,y,f,rfl,G,H,l,E,a,z,C,⟨R,B,d⟩,c⟩;have i:=(BQ.no t n.lt).trans C;obtain⟨P,p,q,s⟩:=Az (x:=x) (y:=y) (f:=f) (i.old rb O) l.one)|refine Fa p ?_);refine bodyPost_ret (v:=.agg #[a_ x,a_ y,f]) (by simp[results,results96,go_sem,FU s]) rfl ?_;exact BD (K':=k) (x:=x) (y:=y) h.lt J M i E q G H l a z B d (.inr ⟨.inr I,by show VY K b r (DR r 0) k x y f;rw[v0.out];exact c⟩)
   .have D:=λm=>by4 m w1 K NC NS b a0 r (n.no t) hO hm hb hn N
    gi_wp2_with (first|(gi_at_call 149;refine(D _).mono ?_;rintro e w2 ⟨k,x,y,f,rfl,G,H,l,E,a,z,C,⟨R,B,d⟩,c⟩;have i:=(BQ.no t n.lt).trans C;obtain⟨P,p,q,s⟩:=Az (x:=x) (y:=y) (f:=f) (i.old rb O) l.one)|refine Fa p ?_);refine bodyPost_ret (v:=.agg #[a_ x,a_ y,f]) (by simp[results,results96,go_sem,FU s]) rfl ?_;exact BD (K':=k) (x:=x) (y:=y) h.lt J M i E q G H l a z B d (.inr ⟨.inr I,by show ϔ K b r (DR r 0) k x y f;rw[v0.out];exact c⟩)
   .have D:=λm=>bk6 m w1 K NC NS b a0 r (n.no t) hO hm hb hn N
    gi_wp2_with (first|(gi_at_call 151;refine(D _).mono ?_;rintro e w2 ⟨k,x,y,f,rfl,G,H,l,E,a,z,C,⟨R,B,d⟩,c⟩;have i:=(BQ.no t n.lt).trans C;obtain⟨P,p,q,s⟩:=Az (x:=x) (y:=y) (f:=f) (i.old rb O) l.one)|refine Fa p ?_);refine bodyPost_ret (v:=.agg #[a_ x,a_ y,f]) (by simp[results,results96,go_sem,FU s]) rfl ?_;exact BD (K':=k) (x:=x) (y:=y) h.lt J M i E q G H l a z B d (.inr ⟨.inr I,by show dO K b r (DR r 0) k x y f;rw[v0.out];exact c⟩)
   .have D:=λm=>ϝ m w1 K NC NS b a0 r (n.no t) hO hm hb N
    gi_wp2_with (first|(gi_at_call 153;refine(D _).mono ?_;rintro e w2 ⟨k,x,y,f,rfl,G,H,l,E,a,z,C,⟨R,B,d⟩,c⟩;have i:=(BQ.no t n.lt).trans C;obtain⟨P,p,q,s⟩:=Az (x:=x) (y:=y) (f:=f) (i.old rb O) l.one)|refine Fa p ?_);refine bodyPost_ret (v:=.agg #[a_ x,a_ y,f]) (by simp[results,results96,go_sem,FU s]) rfl ?_;exact BD (K':=k) (x:=x) (y:=y) h.lt J M i E q G H l a z B d (.inr ⟨.inr I,by show RH K (DR r 0) k x y f;rw[v0.out];exact c⟩)
 .gi_enter func96,ntmps96;gi_wp2;generalize hw0:w.alloc V_=F at*;refine Cc 15 155 ?_;gi_wp2_with (first|(gi_at_call 139;refine(ca _ F.drew).mono ?_;rintro e w1 ⟨rfl,rfl⟩)|(gi_at_call 138;refine(IJ b S ci r.Af.length 1 r.A _ F.drew U wB wB hA I).mono ?_;rintro e w1 ⟨rfl,rfl⟩));refine Ee ?_ ?_
  .intro W L;have d5:=L.has (w:=F.drew) Y;have Z:=L.has (w:=F.drew) U
   repeat' (refine AA ?_ ?_)
   all_goals first|exact dE|gi_wp2_with (first|(gi_at_call 139;refine(ca _ W).mono ?_;rintro e w1 ⟨rfl,rfl⟩)|(gi_at_call 138;refine(IJ b S ci r.Af.length 1 r.A _ W Z wB wB hA I).mono ?_;rintro e w1 ⟨rfl,rfl⟩))
  .intro W L;have KW:Aa No F W:=(Aa.refl No F).drew.then L;have rbW:=KW.old rb id;gi_wp2_with (first|(gi_at_call 140;refine(Uy 1 rbW _).mono ?_;rintro e wz ⟨rfl,Kz,P,p,q,s⟩)|refine Fa p ?_);refine T_ 0 1 (by simp[results,results96,go_sem,FU s]) rfl ?_;exact Ci h hO hm hb J M (KW.then Kz) q sN sN (.inl ⟨by rw[show WO call=1 by obtain rfl|rfl|rfl|rfl|rfl|rfl|rfl|rfl:=hc<;>rfl];omega,GY.of⟩)
end
end Go.Fxa
