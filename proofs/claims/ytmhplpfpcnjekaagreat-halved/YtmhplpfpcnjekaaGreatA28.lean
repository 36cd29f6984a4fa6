/- A call is served -/
import Derived.Test.YtmhplpfpcnjekaaGreatA27
namespace Go.Fxa
open Conc Proofs RowKit Proofs.Tryz
set_option maxRecDepth 1000000
set_option maxHeartbeats 0
section
variable (m:Nat)(w:o_)
theorem zJ (K:KS)(NC NS b call:Nat)(r:PR)(h:AY K w)(hO:DU NC NS K)(hm:b∈K.Ar)(hb:K.ps b=some r)(hn:r.en=false)(ca:∀m w,O_ m 139 #[a_ (call:Nat)] w fun e w'=>e=.returned (b_ 2)/\w'=w)(hc:call=10\/call=14):
  O_ m 96 #[Q_ K.kb,Q_ b,a_ (call:Nat)] w (FX (UM K b r call) NC NS b K w):=by
 have o:=hO.pr b r hb;have hL:=(hO.co.pl b r hb).1;have hA:=o.A;obtain⟨J,rb,O⟩:=IE w;have z:=h.no J;have Hl:K.T w.heap.size=(0,0):=h.lt _ w_;obtain⟨l,ci,H,i,yK,him⟩:=z.lh hb hn;have WE:=i.le;have N:=z.Iu hb 5;simp[PR.arr]at N;by_cases t:r.A+2<=r.Af.length
 .obtain⟨a0,L⟩:∃v,r.Af[r.A+0]?=some v:=⟨_,JM wB⟩;have b0:=o.Af a0 (t_ L);have j0:(w.alloc V_).cell? (S_ l (r.A+0))=some (a_ (a0:Nat)):=(i.cell wB).trans (by rw[Aw,List.getElem?_map,L];rfl);obtain⟨a1,M⟩:∃v,r.Af[r.A+1]?=some v:=⟨_,JM wB⟩;have b1:=o.Af a1 (t_ M);have j1:(w.alloc V_).cell? (S_ l (r.A+1))=some (a_ (a1:Nat)):=(i.cell wB).trans (by rw[Aw,List.getElem?_map,M];rfl);have v0:=RF L;have v1:=RF M;clear L M;gi_enter func96,ntmps96;gi_wp2;generalize X:w.alloc V_=a at*;refine Cc 15 155 ?_;gi_wp2_with (first|(gi_at_call 139;refine(ca _ a.drew).mono ?_;rintro e w1 ⟨rfl,rfl⟩)|(gi_at_call 138;refine(Gq b l ci r.Af.length 2 r.A _ a.drew H wB hA hL WE t).mono ?_;rintro e w1 ⟨rfl,rfl⟩));refine Ee ?_ ?_
  .intro W c;have d5:=c.has (w:=a.drew) N;have U:=c.has (w:=a.drew) H
   repeat' (refine AA ?_ ?_)
   all_goals first|exact dE|gi_wp2_with (first|(gi_at_call 139;refine(ca _ W).mono ?_;rintro e w1 ⟨rfl,rfl⟩)|(gi_at_call 138;refine(Gq b l ci r.Af.length 2 r.A _ W U wB hA hL WE t).mono ?_;rintro e w1 ⟨rfl,rfl⟩))
  .intro W c;have KW:Aa No a W:=(Aa.refl No a).drew.then c;gi_wp2_with fail;refine(Lr _ W (S_ l r.A) 2 2 [a_ (a0:Nat),a_ (a1:Nat)] rfl (λj u q=>by
    match j,q with
    |0,q=>simp at q;subst q;exact KW.has j0
    |1,q=>simp at q;subst q;exact KW.has j1
    ) (by simp[Value.oneCell']) wB).mono ?_;rintro e w1 ⟨K1,v,rfl,Ey⟩;obtain⟨g,cap,rfl,hR,_⟩:=Ru Ey wB (by simp[Value.oneCell']);have UC:Aa No a w1:=KW.then K1;have d0:w1.cell? (R_ g)=some (a_ (a0:Nat)):=(hR.cell wB).trans rfl;have d1:w1.cell? (S_ g 1)=some (a_ (a1:Nat)):=(hR.cell wB).trans rfl;clear Ey i hR K1 KW c N H j0 j1;obtain rfl|rfl:=hc
   .gi_wp2;refine Cc 8 155 ?_;gi_wp2;refine Ee ?_ ?_
    .intro k d;have e0:=d.has (w:=w1.drew) d0;have e1:=d.has (w:=w1.drew) d1
     repeat' (refine AA ?_ ?_)
     all_goals first|exact dE|gi_wp2
    .intro k d;have I:Aa No a k:=UC.then ((Aa.refl No w1).drew.then d);have S:=λm=>qw m k K NC NS b a0 a1 r (z.no I) hO hm hb hn b0
     gi_wp2_with (first|(gi_at_call 150;refine(S _).mono ?_;rintro e w2 ⟨C,x,y,f,rfl,Y,Z,G,V,n,P,R,⟨r2,Q,s⟩,p⟩;have E:=(BQ.no I z.lt).trans R;obtain⟨w8,B,D,F⟩:=Az (x:=x) (y:=y) (f:=f) (E.old rb Hl) G.one)|refine Fa B ?_);refine bodyPost_ret (v:=.agg #[a_ x,a_ y,f]) (by simp[results,results96,go_sem,FU F]) rfl ?_;exact BD (K':=C) (x:=x) (y:=y) h.lt J O E V D Y Z G n P Q s (.inr ⟨.inr t,by show Tn K b r (DR r 0) (DR r 1) C x y f;rw[v0.out,v1.out];exact p⟩)
   .gi_wp2;refine Cc 8 155 ?_;gi_wp2;refine Ee ?_ ?_
    .intro k d;have e0:=d.has (w:=w1.drew) d0;have e1:=d.has (w:=w1.drew) d1
     repeat' (refine AA ?_ ?_)
     all_goals first|exact dE|gi_wp2
    .intro k d;have I:Aa No a k:=UC.then ((Aa.refl No w1).drew.then d);have S:=λm=>bb7 m k K NC NS b a0 a1 r (z.no I) hO hm hb hn b0 b1
     gi_wp2_with (first|(gi_at_call 154;refine(S _).mono ?_;rintro e w2 ⟨C,x,y,f,rfl,Y,Z,G,V,n,P,R,⟨r2,Q,s⟩,p⟩;have E:=(BQ.no I z.lt).trans R;obtain⟨w8,B,D,F⟩:=Az (x:=x) (y:=y) (f:=f) (E.old rb Hl) G.one)|refine Fa B ?_);refine bodyPost_ret (v:=.agg #[a_ x,a_ y,f]) (by simp[results,results96,go_sem,FU F]) rfl ?_;exact BD (K':=C) (x:=x) (y:=y) h.lt J O E V D Y Z G n P Q s (.inr ⟨.inr t,by show dK K r (DR r 0) (DR r 1) C x y f;rw[v0.out,v1.out];exact p⟩)
 .gi_enter func96,ntmps96;gi_wp2;generalize X:w.alloc V_=a at*;refine Cc 15 155 ?_;gi_wp2_with (first|(gi_at_call 139;refine(ca _ a.drew).mono ?_;rintro e w1 ⟨rfl,rfl⟩)|(gi_at_call 138;refine(IJ b l ci r.Af.length 2 r.A _ a.drew H wB wB hA t).mono ?_;rintro e w1 ⟨rfl,rfl⟩));refine Ee ?_ ?_
  .intro W c;have d5:=c.has (w:=a.drew) N;have U:=c.has (w:=a.drew) H
   repeat' (refine AA ?_ ?_)
   all_goals first|exact dE|gi_wp2_with (first|(gi_at_call 139;refine(ca _ W).mono ?_;rintro e w1 ⟨rfl,rfl⟩)|(gi_at_call 138;refine(IJ b l ci r.Af.length 2 r.A _ W U wB wB hA t).mono ?_;rintro e w1 ⟨rfl,rfl⟩))
  .intro W c;have KW:Aa No a W:=(Aa.refl No a).drew.then c;have rbW:=KW.old rb id;gi_wp2_with (first|(gi_at_call 140;refine(Uy 1 rbW _).mono ?_;rintro e wz ⟨rfl,Kz,w8,B,D,F⟩)|refine Fa B ?_);refine T_ 0 1 (by simp[results,results96,go_sem,FU F]) rfl ?_;exact Ci h hO hm hb J O (KW.then Kz) D sN sN (.inl ⟨by rw[show WO call=2 by obtain rfl|rfl:=hc<;>rfl];omega,GY.of⟩)
theorem zI (K:KS)(NC NS b call:Nat)(r:PR)(h:AY K w)(hO:DU NC NS K)(hm:b∈K.Ar)(hb:K.ps b=some r)(hn:r.en=false)(ca:∀m w,O_ m 139 #[a_ (call:Nat)] w fun e w'=>e=.returned (b_ 3)/\w'=w)(hc:call=6\/call=7):
  O_ m 96 #[Q_ K.kb,Q_ b,a_ (call:Nat)] w (FX (UM K b r call) NC NS b K w):=by
 have o:=hO.pr b r hb;have hL:=(hO.co.pl b r hb).1;have hA:=o.A;obtain⟨J,rb,P⟩:=IE w;have z:=h.no J;have Hl:K.T w.heap.size=(0,0):=h.lt _ w_;obtain⟨l,ci,H,d,yK,him⟩:=z.lh hb hn;have WE:=d.le;have O:=z.Iu hb 5;simp[PR.arr]at O;by_cases t:r.A+3<=r.Af.length
 .obtain⟨a0,L⟩:∃v,r.Af[r.A+0]?=some v:=⟨_,JM wB⟩;have b0:=o.Af a0 (t_ L);have j0:(w.alloc V_).cell? (S_ l (r.A+0))=some (a_ (a0:Nat)):=(d.cell wB).trans (by rw[Aw,List.getElem?_map,L];rfl);obtain⟨a1,M⟩:∃v,r.Af[r.A+1]?=some v:=⟨_,JM wB⟩;have b1:=o.Af a1 (t_ M);have j1:(w.alloc V_).cell? (S_ l (r.A+1))=some (a_ (a1:Nat)):=(d.cell wB).trans (by rw[Aw,List.getElem?_map,M];rfl);obtain⟨a2,N⟩:∃v,r.Af[r.A+2]?=some v:=⟨_,JM wB⟩;have b2:=o.Af a2 (t_ N);have j2:(w.alloc V_).cell? (S_ l (r.A+2))=some (a_ (a2:Nat)):=(d.cell wB).trans (by rw[Aw,List.getElem?_map,N];rfl);have v0:=RF L;have v1:=RF M;have v2:=RF N;clear L M N;gi_enter func96,ntmps96;gi_wp2;generalize Y:w.alloc V_=a at*;refine Cc 15 155 ?_;gi_wp2_with (first|(gi_at_call 139;refine(ca _ a.drew).mono ?_;rintro e w1 ⟨rfl,rfl⟩)|(gi_at_call 138;refine(Gq b l ci r.Af.length 3 r.A _ a.drew H wB hA hL WE t).mono ?_;rintro e w1 ⟨rfl,rfl⟩));refine Ee ?_ ?_
  .intro W i;have d5:=i.has (w:=a.drew) O;have V:=i.has (w:=a.drew) H
   repeat' (refine AA ?_ ?_)
   all_goals first|exact dE|gi_wp2_with (first|(gi_at_call 139;refine(ca _ W).mono ?_;rintro e w1 ⟨rfl,rfl⟩)|(gi_at_call 138;refine(Gq b l ci r.Af.length 3 r.A _ W V wB hA hL WE t).mono ?_;rintro e w1 ⟨rfl,rfl⟩))
  .intro W i;have KW:Aa No a W:=(Aa.refl No a).drew.then i;gi_wp2_with fail;refine(Lr _ W (S_ l r.A) 3 3 [a_ (a0:Nat),a_ (a1:Nat),a_ (a2:Nat)] rfl (λj u k=>by
    match j,k with
    |0,k=>simp at k;subst k;exact KW.has j0
    |1,k=>simp at k;subst k;exact KW.has j1
    |2,k=>simp at k;subst k;exact KW.has j2
    ) (by simp[Value.oneCell']) wB).mono ?_;rintro e w1 ⟨K1,v,rfl,Ey⟩;obtain⟨g,cap,rfl,hR,_⟩:=Ru Ey wB (by simp[Value.oneCell']);have UC:Aa No a w1:=KW.then K1;have d0:w1.cell? (R_ g)=some (a_ (a0:Nat)):=(hR.cell wB).trans rfl;have d1:w1.cell? (S_ g 1)=some (a_ (a1:Nat)):=(hR.cell wB).trans rfl;have d2:w1.cell? (S_ g 2)=some (a_ (a2:Nat)):=(hR.cell wB).trans rfl;clear Ey d hR K1 KW i O H j0 j1 j2;obtain rfl|rfl:=hc
   .gi_wp2;refine Cc 11 155 ?_;gi_wp2;refine Ee ?_ ?_
    .intro n c;have e0:=c.has (w:=w1.drew) d0;have e1:=c.has (w:=w1.drew) d1;have e2:=c.has (w:=w1.drew) d2
     repeat' (refine AA ?_ ?_)
     all_goals first|exact dE|gi_wp2
    .intro n c;have I:Aa No a n:=UC.then ((Aa.refl No w1).drew.then c);have U:=λm=>be3 m n K NC NS b a0 a1 a2 r (z.no I) hO hm hb hn b0 b1 b2
     gi_wp2_with (first|(gi_at_call 146;refine(U _).mono ?_;rintro e w2 ⟨C,x,y,f,rfl,Z,hy,G,X,p,Q,S,⟨r2,R,s⟩,q⟩;have E:=(BQ.no I z.lt).trans S;obtain⟨w8,B,D,F⟩:=Az (x:=x) (y:=y) (f:=f) (E.old rb Hl) G.one)|refine Fa B ?_);refine bodyPost_ret (v:=.agg #[a_ x,a_ y,f]) (by simp[results,results96,go_sem,FU F]) rfl ?_;exact BD (K':=C) (x:=x) (y:=y) h.lt J P E X D Z hy G p Q R s (.inr ⟨.inr t,by show dL K b r (DR r 0) (DR r 1) (DR r 2) C x y f;rw[v0.out,v1.out,v2.out];exact q⟩)
   .gi_wp2;refine Cc 11 155 ?_;gi_wp2;refine Ee ?_ ?_
    .intro n c;have e0:=c.has (w:=w1.drew) d0;have e1:=c.has (w:=w1.drew) d1;have e2:=c.has (w:=w1.drew) d2
     repeat' (refine AA ?_ ?_)
     all_goals first|exact dE|gi_wp2
    .intro n c;have I:Aa No a n:=UC.then ((Aa.refl No w1).drew.then c);have U:=λm=>am3 m n K NC NS b a0 a1 a2 r (z.no I) hO hm hb hn b0 b1 b2
     gi_wp2_with (first|(gi_at_call 147;refine(U _).mono ?_;rintro e w2 ⟨C,x,y,f,rfl,Z,hy,G,X,p,Q,S,⟨r2,R,s⟩,q⟩;have E:=(BQ.no I z.lt).trans S;obtain⟨w8,B,D,F⟩:=Az (x:=x) (y:=y) (f:=f) (E.old rb Hl) G.one)|refine Fa B ?_);refine bodyPost_ret (v:=.agg #[a_ x,a_ y,f]) (by simp[results,results96,go_sem,FU F]) rfl ?_;exact BD (K':=C) (x:=x) (y:=y) h.lt J P E X D Z hy G p Q R s (.inr ⟨.inr t,by show VX K r (DR r 0) (DR r 1) (DR r 2) C x y f;rw[v0.out,v1.out,v2.out];exact q⟩)
 .gi_enter func96,ntmps96;gi_wp2;generalize Y:w.alloc V_=a at*;refine Cc 15 155 ?_;gi_wp2_with (first|(gi_at_call 139;refine(ca _ a.drew).mono ?_;rintro e w1 ⟨rfl,rfl⟩)|(gi_at_call 138;refine(IJ b l ci r.Af.length 3 r.A _ a.drew H wB wB hA t).mono ?_;rintro e w1 ⟨rfl,rfl⟩));refine Ee ?_ ?_
  .intro W i;have d5:=i.has (w:=a.drew) O;have V:=i.has (w:=a.drew) H
   repeat' (refine AA ?_ ?_)
   all_goals first|exact dE|gi_wp2_with (first|(gi_at_call 139;refine(ca _ W).mono ?_;rintro e w1 ⟨rfl,rfl⟩)|(gi_at_call 138;refine(IJ b l ci r.Af.length 3 r.A _ W V wB wB hA t).mono ?_;rintro e w1 ⟨rfl,rfl⟩))
  .intro W i;have KW:Aa No a W:=(Aa.refl No a).drew.then i;have rbW:=KW.old rb id;gi_wp2_with (first|(gi_at_call 140;refine(Uy 1 rbW _).mono ?_;rintro e wz ⟨rfl,Kz,w8,B,D,F⟩)|refine Fa B ?_);refine T_ 0 1 (by simp[results,results96,go_sem,FU F]) rfl ?_;exact Ci h hO hm hb J P (KW.then Kz) D sN sN (.inl ⟨by rw[show WO call=3 by obtain rfl|rfl:=hc<;>rfl];omega,GY.of⟩)
end
end Go.Fxa
