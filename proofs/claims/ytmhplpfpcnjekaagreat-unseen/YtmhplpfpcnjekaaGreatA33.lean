/- A call is served: two and thre -/
import Derived.Test.YtmhplpfpcnjekaaGreatA32
namespace Go.Fxa
open Conc Proofs RowKit Proofs.Tryz
set_option maxRecDepth 1000000
set_option maxHeartbeats 0
variable {K:KS} {b n:Nat} {r:PR} {w w':o_} {a:X_} {l:List (Nat×n_)} {T T':Tag}
section
variable (m:Nat) (w:o_)
theorem yA (K:KS) (NC NS b call:Nat) (r:PR) (h:AV K w) (hO:Eo NC NS K) (hm:b∈K.Aw) (hb:K.ps b=some r) (hn:r.en=false) (ca:∀m w,O_ m 139 #[a_ (call:Nat)] w fun e w'=>e=.returned (b_ 2)/\w'=w) (hc:call=10\/call=14):
  O_ m 96 #[Q_ K.kb,Q_ b,a_ (call:Nat)] w (FO (Ue K b r call) NC NS b K w):=by
 have o:=hO.pr b r hb;have hL:=(hO.co.pl b r hb).1;have L:=o.A;obtain⟨J,rb,P⟩:=Iw w;have z:=h.no J;have GV:K.T w.heap.size=(0,0):=h.lt _ (w_ _);obtain⟨l,ci,H,i,xn,him⟩:=z.jm hb hn;have VN:=i.le;have O:=z.Il hb 5;simp[PR.arr]at O;by_cases t:r.A+2<=r.Af.length
 .obtain⟨a0,M⟩:∃v,r.Af[r.A+0]?=some v:=⟨_,IG zD⟩;have b0:=o.Af a0 (t_ M);have j0:(w.alloc V_).cell? (S_ l (r.A+0))=some (a_ (a0:Nat)):=(i.cell zD).trans (by rw[Az,List.getElem?_map,M];rfl);obtain⟨a1,N⟩:∃v,r.Af[r.A+1]?=some v:=⟨_,IG zD⟩;have b1:=o.Af a1 (t_ N);have j1:(w.alloc V_).cell? (S_ l (r.A+1))=some (a_ (a1:Nat)):=(i.cell zD).trans (by rw[Az,List.getElem?_map,N];rfl);have v0:=QZ M;have v1:=QZ N;clear M N;gi_enter func96,ntmps96;gi_wp2;generalize Z:w.alloc V_=a at*;refine BP 15 155 ?_;gi_wp2_with (first|(gi_at_call 139;refine(ca _ a.drew).mono ?_;rintro e w1 ⟨rfl,rfl⟩)|(gi_at_call 138;refine(Gh b l ci r.Af.length 2 r.A _ a.drew H zD L hL VN t).mono ?_;rintro e w1 ⟨rfl,rfl⟩));refine Eb ?_ ?_
  .intro W c;have d5:=c.has (w:=a.drew) O;have V:=c.has (w:=a.drew) H
   repeat' (refine Au ?_ ?_)
   all_goals first|exact eu|gi_wp2_with (first|(gi_at_call 139;refine(ca _ W).mono ?_;rintro e w1 ⟨rfl,rfl⟩)|(gi_at_call 138;refine(Gh b l ci r.Af.length 2 r.A _ W V zD L hL VN t).mono ?_;rintro e w1 ⟨rfl,rfl⟩))
  .intro W c;have KW:Ac No a W:=(Ac.refl No a).drew.then c;gi_wp2_with fail;refine(KQ _ W (S_ l r.A) 2 2 [a_ (a0:Nat),a_ (a1:Nat)] rfl (λj u q=>by
    match j,q with
    |0,q=>simp at q;subst q;exact KW.has j0
    |1,q=>simp at q;subst q;exact KW.has j1
    ) (by simp[Value.oneCell']) zD).mono ?_;rintro e w1 ⟨K1,v,rfl,Et⟩;obtain⟨g,cap,rfl,Y,_⟩:=QW Et zD (by simp[Value.oneCell']);have TL:Ac No a w1:=KW.then K1;have d0:w1.cell? (R_ g)=some (a_ (a0:Nat)):=(Y.cell zD).trans rfl;have d1:w1.cell? (S_ g 1)=some (a_ (a1:Nat)):=(Y.cell zD).trans rfl;clear Et i Y K1 KW c O H j0 j1;obtain rfl|rfl:=hc
   .gi_wp2;refine BP 8 155 ?_;gi_wp2;refine Eb ?_ ?_
    .intro k d;have e0:=d.has (w:=w1.drew) d0;have e1:=d.has (w:=w1.drew) d1
     repeat' (refine Au ?_ ?_)
     all_goals first|exact eu|gi_wp2
    .intro k d;have I:Ac No a k:=TL.then ((Ac.refl No w1).drew.then d);have U:=λm=>nX m k K NC NS b a0 a1 r (z.no I) hO hm hb hn b0
     gi_wp2_with (first|(gi_at_call 150;refine(U _).mono ?_;rintro e w2 ⟨C,x,y,f,rfl,hx,hy,G,X,n,Q,S,⟨r2,R,s⟩,p⟩;have E:=(BN.no I z.lt).trans S;obtain⟨w8,B,D,F⟩:=AA (x:=x) (y:=y) (f:=f) (E.old rb GV) G.one)|refine EX B ?_);refine bodyPost_ret (v:=.agg #[a_ x,a_ y,f]) (by simp[results,results96,go_sem,FI F]) rfl ?_;exact BB (K':=C) (x:=x) (y:=y) h.lt J P E X D hx hy G n Q R s (.inr ⟨.inr t,by show RZ K b r (DZ r 0) (DZ r 1) C x y f;rw[v0.out,v1.out];exact p⟩)
   .gi_wp2;refine BP 8 155 ?_;gi_wp2;refine Eb ?_ ?_
    .intro k d;have e0:=d.has (w:=w1.drew) d0;have e1:=d.has (w:=w1.drew) d1
     repeat' (refine Au ?_ ?_)
     all_goals first|exact eu|gi_wp2
    .intro k d;have I:Ac No a k:=TL.then ((Ac.refl No w1).drew.then d);have U:=λm=>ax6 m k K NC NS b a0 a1 r (z.no I) hO hm hb hn b0 b1
     gi_wp2_with (first|(gi_at_call 154;refine(U _).mono ?_;rintro e w2 ⟨C,x,y,f,rfl,hx,hy,G,X,n,Q,S,⟨r2,R,s⟩,p⟩;have E:=(BN.no I z.lt).trans S;obtain⟨w8,B,D,F⟩:=AA (x:=x) (y:=y) (f:=f) (E.old rb GV) G.one)|refine EX B ?_);refine bodyPost_ret (v:=.agg #[a_ x,a_ y,f]) (by simp[results,results96,go_sem,FI F]) rfl ?_;exact BB (K':=C) (x:=x) (y:=y) h.lt J P E X D hx hy G n Q R s (.inr ⟨.inr t,by show aC K r (DZ r 0) (DZ r 1) C x y f;rw[v0.out,v1.out];exact p⟩)
 .gi_enter func96,ntmps96;gi_wp2;generalize Z:w.alloc V_=a at*;refine BP 15 155 ?_;gi_wp2_with (first|(gi_at_call 139;refine(ca _ a.drew).mono ?_;rintro e w1 ⟨rfl,rfl⟩)|(gi_at_call 138;refine(IA b l ci r.Af.length 2 r.A _ a.drew H zD zD L t).mono ?_;rintro e w1 ⟨rfl,rfl⟩));refine Eb ?_ ?_
  .intro W c;have d5:=c.has (w:=a.drew) O;have V:=c.has (w:=a.drew) H
   repeat' (refine Au ?_ ?_)
   all_goals first|exact eu|gi_wp2_with (first|(gi_at_call 139;refine(ca _ W).mono ?_;rintro e w1 ⟨rfl,rfl⟩)|(gi_at_call 138;refine(IA b l ci r.Af.length 2 r.A _ W V zD zD L t).mono ?_;rintro e w1 ⟨rfl,rfl⟩))
  .intro W c;have KW:Ac No a W:=(Ac.refl No a).drew.then c;have rbW:=KW.old rb id;gi_wp2_with (first|(gi_at_call 140;refine(TI 1 rbW _).mono ?_;rintro e wz ⟨rfl,Kz,w8,B,D,F⟩)|refine EX B ?_);refine T_ 0 1 (by simp[results,results96,go_sem,FI F]) rfl ?_;exact BV h hO hm hb J P (KW.then Kz) D wB wB (.inl ⟨by rw[show VV call=2 by obtain rfl|rfl:=hc<;>rfl];omega,GU.of⟩)
theorem yz (K:KS) (NC NS b call:Nat) (r:PR) (h:AV K w) (hO:Eo NC NS K) (hm:b∈K.Aw) (hb:K.ps b=some r) (hn:r.en=false) (ca:∀m w,O_ m 139 #[a_ (call:Nat)] w fun e w'=>e=.returned (b_ 3)/\w'=w) (hc:call=6\/call=7):
  O_ m 96 #[Q_ K.kb,Q_ b,a_ (call:Nat)] w (FO (Ue K b r call) NC NS b K w):=by
 have o:=hO.pr b r hb;have hL:=(hO.co.pl b r hb).1;have L:=o.A;obtain⟨J,rb,R⟩:=Iw w;have z:=h.no J;have GV:K.T w.heap.size=(0,0):=h.lt _ (w_ _);obtain⟨l,ci,H,d,xn,him⟩:=z.jm hb hn;have VN:=d.le;have Q:=z.Il hb 5;simp[PR.arr]at Q;by_cases t:r.A+3<=r.Af.length
 .obtain⟨a0,N⟩:∃v,r.Af[r.A+0]?=some v:=⟨_,IG zD⟩;have b0:=o.Af a0 (t_ N);have j0:(w.alloc V_).cell? (S_ l (r.A+0))=some (a_ (a0:Nat)):=(d.cell zD).trans (by rw[Az,List.getElem?_map,N];rfl);obtain⟨a1,O⟩:∃v,r.Af[r.A+1]?=some v:=⟨_,IG zD⟩;have b1:=o.Af a1 (t_ O);have j1:(w.alloc V_).cell? (S_ l (r.A+1))=some (a_ (a1:Nat)):=(d.cell zD).trans (by rw[Az,List.getElem?_map,O];rfl);obtain⟨a2,P⟩:∃v,r.Af[r.A+2]?=some v:=⟨_,IG zD⟩;have b2:=o.Af a2 (t_ P);have j2:(w.alloc V_).cell? (S_ l (r.A+2))=some (a_ (a2:Nat)):=(d.cell zD).trans (by rw[Az,List.getElem?_map,P];rfl);have v0:=QZ N;have v1:=QZ O;have v2:=QZ P;clear N O P;gi_enter func96,ntmps96;gi_wp2;generalize hw0:w.alloc V_=a at*;refine BP 15 155 ?_;gi_wp2_with (first|(gi_at_call 139;refine(ca _ a.drew).mono ?_;rintro e w1 ⟨rfl,rfl⟩)|(gi_at_call 138;refine(Gh b l ci r.Af.length 3 r.A _ a.drew H zD L hL VN t).mono ?_;rintro e w1 ⟨rfl,rfl⟩));refine Eb ?_ ?_
  .intro W i;have d5:=i.has (w:=a.drew) Q;have Y:=i.has (w:=a.drew) H
   repeat' (refine Au ?_ ?_)
   all_goals first|exact eu|gi_wp2_with (first|(gi_at_call 139;refine(ca _ W).mono ?_;rintro e w1 ⟨rfl,rfl⟩)|(gi_at_call 138;refine(Gh b l ci r.Af.length 3 r.A _ W Y zD L hL VN t).mono ?_;rintro e w1 ⟨rfl,rfl⟩))
  .intro W i;have KW:Ac No a W:=(Ac.refl No a).drew.then i;gi_wp2_with fail;refine(KQ _ W (S_ l r.A) 3 3 [a_ (a0:Nat),a_ (a1:Nat),a_ (a2:Nat)] rfl (λj u k=>by
    match j,k with
    |0,k=>simp at k;subst k;exact KW.has j0
    |1,k=>simp at k;subst k;exact KW.has j1
    |2,k=>simp at k;subst k;exact KW.has j2
    ) (by simp[Value.oneCell']) zD).mono ?_;rintro e w1 ⟨K1,v,rfl,Et⟩;obtain⟨g,cap,rfl,M,_⟩:=QW Et zD (by simp[Value.oneCell']);have TL:Ac No a w1:=KW.then K1;have d0:w1.cell? (R_ g)=some (a_ (a0:Nat)):=(M.cell zD).trans rfl;have d1:w1.cell? (S_ g 1)=some (a_ (a1:Nat)):=(M.cell zD).trans rfl;have d2:w1.cell? (S_ g 2)=some (a_ (a2:Nat)):=(M.cell zD).trans rfl;clear Et d M K1 KW i Q H j0 j1 j2;obtain rfl|rfl:=hc
   .gi_wp2;refine BP 11 155 ?_;gi_wp2;refine Eb ?_ ?_
    .intro n c;have e0:=c.has (w:=w1.drew) d0;have e1:=c.has (w:=w1.drew) d1;have e2:=c.has (w:=w1.drew) d2
     repeat' (refine Au ?_ ?_)
     all_goals first|exact eu|gi_wp2
    .intro n c;have I:Ac No a n:=TL.then ((Ac.refl No w1).drew.then c);have X:=λm=>ay9 m n K NC NS b a0 a1 a2 r (z.no I) hO hm hb hn b0 b1 b2
     gi_wp2_with (first|(gi_at_call 146;refine(X _).mono ?_;rintro e w2 ⟨C,x,y,f,rfl,hx,hy,G,Z,p,S,V,⟨r2,U,s⟩,q⟩;have E:=(BN.no I z.lt).trans V;obtain⟨w8,B,D,F⟩:=AA (x:=x) (y:=y) (f:=f) (E.old rb GV) G.one)|refine EX B ?_);refine bodyPost_ret (v:=.agg #[a_ x,a_ y,f]) (by simp[results,results96,go_sem,FI F]) rfl ?_;exact BB (K':=C) (x:=x) (y:=y) h.lt J R E Z D hx hy G p S U s (.inr ⟨.inr t,by show aF K b r (DZ r 0) (DZ r 1) (DZ r 2) C x y f;rw[v0.out,v1.out,v2.out];exact q⟩)
   .gi_wp2;refine BP 11 155 ?_;gi_wp2;refine Eb ?_ ?_
    .intro n c;have e0:=c.has (w:=w1.drew) d0;have e1:=c.has (w:=w1.drew) d1;have e2:=c.has (w:=w1.drew) d2
     repeat' (refine Au ?_ ?_)
     all_goals first|exact eu|gi_wp2
    .intro n c;have I:Ac No a n:=TL.then ((Ac.refl No w1).drew.then c);have X:=λm=>ai6 m n K NC NS b a0 a1 a2 r (z.no I) hO hm hb hn b0 b1 b2
     gi_wp2_with (first|(gi_at_call 147;refine(X _).mono ?_;rintro e w2 ⟨C,x,y,f,rfl,hx,hy,G,Z,p,S,V,⟨r2,U,s⟩,q⟩;have E:=(BN.no I z.lt).trans V;obtain⟨w8,B,D,F⟩:=AA (x:=x) (y:=y) (f:=f) (E.old rb GV) G.one)|refine EX B ?_);refine bodyPost_ret (v:=.agg #[a_ x,a_ y,f]) (by simp[results,results96,go_sem,FI F]) rfl ?_;exact BB (K':=C) (x:=x) (y:=y) h.lt J R E Z D hx hy G p S U s (.inr ⟨.inr t,by show Vm K r (DZ r 0) (DZ r 1) (DZ r 2) C x y f;rw[v0.out,v1.out,v2.out];exact q⟩)
 .gi_enter func96,ntmps96;gi_wp2;generalize hw0:w.alloc V_=a at*;refine BP 15 155 ?_;gi_wp2_with (first|(gi_at_call 139;refine(ca _ a.drew).mono ?_;rintro e w1 ⟨rfl,rfl⟩)|(gi_at_call 138;refine(IA b l ci r.Af.length 3 r.A _ a.drew H zD zD L t).mono ?_;rintro e w1 ⟨rfl,rfl⟩));refine Eb ?_ ?_
  .intro W i;have d5:=i.has (w:=a.drew) Q;have Y:=i.has (w:=a.drew) H
   repeat' (refine Au ?_ ?_)
   all_goals first|exact eu|gi_wp2_with (first|(gi_at_call 139;refine(ca _ W).mono ?_;rintro e w1 ⟨rfl,rfl⟩)|(gi_at_call 138;refine(IA b l ci r.Af.length 3 r.A _ W Y zD zD L t).mono ?_;rintro e w1 ⟨rfl,rfl⟩))
  .intro W i;have KW:Ac No a W:=(Ac.refl No a).drew.then i;have rbW:=KW.old rb id;gi_wp2_with (first|(gi_at_call 140;refine(TI 1 rbW _).mono ?_;rintro e wz ⟨rfl,Kz,w8,B,D,F⟩)|refine EX B ?_);refine T_ 0 1 (by simp[results,results96,go_sem,FI F]) rfl ?_;exact BV h hO hm hb J R (KW.then Kz) D wB wB (.inl ⟨by rw[show VV call=3 by obtain rfl|rfl:=hc<;>rfl];omega,GU.of⟩)
theorem GN (call n:Nat) (h:(call,n)∈[(1,1),(2,0),(3,1),(4,1),(5,1),(6,3),(7,3),(8,1),(9,1),(10,2),(11,1),(12,0),(13,1),(14,2)]):O_ m 139 #[a_ (call:Nat)] w λe w'=>e=.returned (b_ n)/\w'=w:=by
 simp only[r_,lJ,p_,or_false]at h;obtain⟨rfl,rfl⟩|⟨rfl,rfl⟩|⟨rfl,rfl⟩|⟨rfl,rfl⟩|⟨rfl,rfl⟩|⟨rfl,rfl⟩|⟨rfl,rfl⟩|⟨rfl,rfl⟩|⟨rfl,rfl⟩|⟨rfl,rfl⟩|⟨rfl,rfl⟩|⟨rfl,rfl⟩|⟨rfl,rfl⟩|⟨rfl,rfl⟩:=h
 all_goals
  gi_enter func139,ntmps139
  gi_wp2
  go_ret
  exact⟨zF,rfl⟩
theorem pq (call:Nat) (h:sV call):O_ m 139 #[a_ (call:Nat)] w λe w'=>e=.returned (b_ 0)/\w'=w:=by
 obtain⟨g,i,j,k,l,n,o,p,q,a,b,c,d,f⟩:=h;gi_enter func139,ntmps139;gi_wp2;go_ret;exact⟨zF,rfl⟩
theorem ax3 (K:KS) (NC NS b call:Nat) (r:PR) (h:AV K w) (o:Eo NC NS K) (q:b∈K.Aw) (p:K.ps b=some r) (s:r.en=false):
  O_ m 96 #[Q_ K.kb,Q_ b,a_ (call:Nat)] w (FO (Ue K b r call) NC NS b K w):=by
 by_cases e1:call=1
 .subst e1;exact Og m w K NC NS b 1 r h o q p s (λm w=>GN m w 1 1 zF) zF
 by_cases e2:call=2
 .subst e2;exact gp m w K NC NS b 2 r h o q p s (λm w=>GN m w 2 0 zF) zF
 by_cases e3:call=3
 .subst e3;exact Og m w K NC NS b 3 r h o q p s (λm w=>GN m w 3 1 zF) zF
 by_cases e4:call=4
 .subst e4;exact Og m w K NC NS b 4 r h o q p s (λm w=>GN m w 4 1 zF) zF
 by_cases g:call=5
 .subst g;exact Og m w K NC NS b 5 r h o q p s (λm w=>GN m w 5 1 zF) zF
 by_cases i:call=6
 .subst i;exact yz m w K NC NS b 6 r h o q p s (λm w=>GN m w 6 3 zF) zF
 by_cases j:call=7
 .subst j;exact yz m w K NC NS b 7 r h o q p s (λm w=>GN m w 7 3 zF) zF
 by_cases k:call=8
 .subst k;exact Og m w K NC NS b 8 r h o q p s (λm w=>GN m w 8 1 zF) zF
 by_cases l:call=9
 .subst l;exact Og m w K NC NS b 9 r h o q p s (λm w=>GN m w 9 1 zF) zF
 by_cases a:call=10
 .subst a;exact yA m w K NC NS b 10 r h o q p s (λm w=>GN m w 10 2 zF) zF
 by_cases c:call=11
 .subst c;exact Og m w K NC NS b 11 r h o q p s (λm w=>GN m w 11 1 zF) zF
 by_cases d:call=12
 .subst d;exact gp m w K NC NS b 12 r h o q p s (λm w=>GN m w 12 0 zF) zF
 by_cases e:call=13
 .subst e;exact Og m w K NC NS b 13 r h o q p s (λm w=>GN m w 13 1 zF) zF
 by_cases f:call=14
 .subst f;exact yA m w K NC NS b 14 r h o q p s (λm w=>GN m w 14 2 zF) zF
 exact gp m w K NC NS b call r h o q p s (λm w=>pq m w call ⟨zD,zD,zD,zD,zD,zD,zD,zD,zD,zD,zD,zD,zD,zD⟩) (.inr (.inr ⟨zD,zD,zD,zD,zD,zD,zD,zD,zD,zD,zD,zD,zD,zD⟩))
end
def FK (r:PR) (op n:Nat):Nat:=if op=9 then r.A else if op=10 then r.B else n
def ED (r:PR) (op n:Nat):Nat×Nat×PR:=
 if FK r op n<r.Af.length then
  if op=2\/op=9 then(0,0,{ r with A:=(r.Af[FK r op n]?).getD 0 })
  else if op=3\/op=10 then(0,0,{ r with Af:=r.Af.set (FK r op n) r.A })
  else if op=4 then(0,0,{ r with A:=(r.A+(r.Af[FK r op n]?).getD 0) % 65536 })
  else if op=5 then(0,0,{ r with A:=(r.A+65536-(r.Af[FK r op n]?).getD 0) % 65536 })
  else(2,0,r)
 else(2,0,r)
def Xu (r:PR) (op n:Nat):Nat×Nat×PR:=
 if op=1 then(0,0,{ r with P:=r.P+2,A:=n })
 else if op=6 then(0,0,{ r with P:=n })
 else if op=7 then(0,0,if r.A=0 then { r with P:=n } else { r with P:=r.P+2 })
 else if op=8 then(0,0,{ r with P:=r.P+2,A:=r.B,B:=r.A })
 else if op=11 then(1,n,{ r with P:=r.P+2 })
 else ED { r with P:=r.P+2 } op n
def FY (r:PR):Nat×Nat×PR:=if r.P+2<=r.Af.length then Xu r ((r.Af[r.P]?).getD 0) ((r.Af[r.P+1]?).getD 0)else(2,0,r)
def Γ (K:KS) (b:Nat) (w:o_) (s:Nat×Nat×PR) (e:Ending) (w':o_):Prop:=e=.returned (.tuple #[b_ (s.1:Nat),a_ (s.2.1:Nat)])/\AV (K.Bi b s.2.2) w'/\BN K.T K.T w w'
def dY (K:KS) (b:Nat) (w:o_) (s:Nat×Nat×PR) (e:Ending) (w':o_):Prop:=e=.returned (b_ (s.1:Nat))/\AV (K.Bi b s.2.2) w'/\BN K.T K.T w w'
theorem zl {A B P:Nat} (h:AV K w) (p:K.ps b=some r) (o:Ac (At b) w w') (q:w'.heap[b]?=some ({ r with A:=A,B:=B,P:=P }:PR).obj):AV (K.Bi b { r with A:=A,B:=B,P:=P }) w'/\BN K.T K.T w w':=by
 have a:=h.ps b r p;have M:Dh K.T K.T (λt=>t=(6,b)\/t=(7,b)\/t=(8,b)\/t=(9,b)) (λt=>t=(6,b)\/t=(7,b)\/t=(8,b)\/t=(9,b)) w w':=Dh.of (o.on λk _ e=>by subst e;exact .inl a.t) h.lt;have ne:∀{x:Nat} {t:Nat×Nat},K.T x=t->t≠(6,b)->¬At b x:=fun {x t} f i e=>by
  have e:x=b:=e
  subst e;exact i (f.symm.trans a.t)
 refine⟨h.jF M ⟨a.t,q,λe=>?_,λe=>?_,?_,a.no⟩,M.WB (by rintro t (rfl|rfl|rfl|rfl)<;>simp)⟩
 .obtain⟨g,c,a1,a2,d⟩:=a.im e;exact⟨g,c,a1,a2.keep o (ne d zF),d⟩
 .obtain⟨g,c,a1,a2,d⟩:=a.fd e;exact⟨g,c,a1,a2.keep o (ne d zF),d⟩
 .obtain h|⟨x,y,f,i,m,j,l⟩|h:=a.bl
  .exact .inl h
  .exact .inr (.inl ⟨x,y,f,o.old i (ne j zF),o.old m (ne l zF),j,l⟩)
  .exact .inr (.inr h)
section
variable (m:Nat) (w:o_)
theorem xg (b op n:Nat) (r:PR) (h:w.cell? (S_ b 5)=some (a_ (r.A:Nat))) (i:w.cell? (S_ b 6)=some (a_ (r.B:Nat))):
  O_ m 244 #[.pointer (some (S_ b 5)),a_ (op:Nat),a_ (n:Nat)] w λe w'=>e=.returned (a_ (FK r op n:Nat))/\w'=w:=by
 obtain⟨a,c⟩:∃a,a=FK r op n:=⟨_,rfl⟩;rw[<-c];have f:(op=9/\a=r.A)\/(op=10/\a=r.B)\/(¬(op:Int)=9/\¬(op:Int)=10/\a=n):=by
  unfold FK at c
  split at c
  .exact .inl ⟨by assumption,c⟩
  .split at c
   .exact .inr (.inl ⟨by assumption,c⟩)
   .exact .inr (.inr ⟨zD,zD,c⟩)
 clear c;gi_enter func244,ntmps244;obtain⟨rfl,rfl⟩|⟨rfl,rfl⟩|⟨g,d,rfl⟩:=f
 all_goals gi_wp2
 all_goals go_ret
 all_goals exact⟨zF,rfl⟩
def Xp (op:Nat):Prop:=¬(op:Int)=2/\¬(op:Int)=9/\¬(op:Int)=3/\¬(op:Int)=10/\¬(op:Int)=4/\¬(op:Int)=5
theorem ai9 (K:KS) (b op n:Nat) (r:PR) (h:AV K w) (hb:K.ps b=some r) (hn:r.en=false) (o:r.Ok) (hL:r.Af.length<=128) (hx:n<65536):
  O_ m 226 #[.pointer (some (S_ b 5)),a_ (op:Nat),a_ (n:Nat)] w (dY K b w (ED r op n)):=by
 obtain⟨l,ci,J,g,Z,t⟩:=h.jm hb hn;have Q:=g.le;have H:=h.Il hb 5;have I:=h.Il hb 6;simp[PR.arr]at H I;have z5:=h.jy hb 5;have u:=λm=>xg m w b op n r H I
 have W:=o.A;have G:FK r op n<65536:=by have:=o.A;have:=o.B;unfold FK;split<;>(try split)<;>omega
 have no:dY K b w (2,0,r) (.returned (b_ 2)) w:=⟨rfl,by show AV (K.Bi b r) w;rw[Fj hb];exact h,BN.no (Ac.refl _ _) h.lt⟩;by_cases j:FK r op n<r.Af.length
 .obtain⟨y,k⟩:∃v,r.Af[FK r op n]?=some v:=⟨_,IG zD⟩;have V:=o.Af y (t_ k);have d:w.cell? (S_ l (FK r op n))=some (a_ (y:Nat)):=(g.cell zD).trans (by rw[Az,List.getElem?_map,k];rfl);have zi:=g.fz (FK r op n);have p:∀x:Nat,ED r op n=(0,0,{ r with A:=x })->dY K b w (ED r op n) (.returned (b_ 0)) (w.setCell (S_ b 5) (a_ (x:Nat))):=λx e=>by
   rw[e]
   exact⟨rfl,h.GH (r':={ r with A:=x }) (i:=5) (v:=a_ (x:Nat)) hb ⟨rfl,rfl,rfl,rfl,rfl⟩ rfl (h.ps b r hb).bl,h.Ez hb⟩
  have sD:ag (∀e f,dY K b w (ED r op n) e f->dY K b w (ED r op n) e f.drew):=λe f h=>⟨h.1,h.2.1.no (Ac.refl No f).drew,h.2.2.then (Ac.refl No f).drew⟩
  have q:=h.Xh (i:=FK r op n) (x:=r.A) hb hn t;have r0:(op=2\/op=9)->ED r op n=(0,0,{ r with A:=y }):=λe=>by unfold ED;rw[rC j,rC e,k];rfl
  have L:(op=3\/op=10)->ED r op n=(0,0,{ r with Af:=r.Af.set (FK r op n) r.A }):=λe=>by unfold ED;rw[rC j,ru zD,rC e]
  have M:op=4->ED r op n=(0,0,{ r with A:=(r.A+y) % 65536 }):=λe=>by unfold ED;rw[rC j,ru zD,ru zD,rC e,k];rfl
  have N:op=5->ED r op n=(0,0,{ r with A:=(r.A+65536-y) % 65536 }):=λe=>by unfold ED;rw[rC j,ru zD,ru zD,ru zD,rC e,k];rfl
  have O:Xp op->ED r op n=(2,0,r):=λ⟨e1,e2,e3,e4,C,D⟩=>by unfold ED;rw[rC j,ru zD,ru zD,ru zD,ru zD]
  have w4:IntKind.u16.wrap ((r.A:Int)+(y:Int))=(((r.A+y) % 65536:Nat):Int):=by rw[wrap_u16];omega
  have Y:IntKind.u16.wrap ((r.A:Int)-(y:Int))=(((r.A+65536-y) % 65536:Nat):Int):=by rw[wrap_u16];omega
  have P:(op=2\/op=9\/op=3\/op=10\/op=4\/op=5)\/Xp op:=by unfold Xp;omega
  generalize s:dY K b w (ED r op n)=X at*;have R:ag ((op=2\/op=9)->∀e,e=.returned (b_ 0)->X e (w.setCell (S_ b 5) (a_ (y:Nat)))):=λe=>by rintro _ rfl;exact p _ (r0 e)
  have S:ag ((op=3\/op=10)->∀e,e=.returned (b_ 0)->X e (w.setCell (S_ l (FK r op n)) (a_ (r.A:Nat)))):=λe=>by rintro _ rfl;exact(by rw[<-s,L e];exact⟨rfl,q.1,q.2⟩)
  have E:ag (op=4->∀e (z:Int),e=.returned (b_ 0)->z=(((r.A+y) % 65536:Nat):Int)->X e (w.setCell (S_ b 5) (a_ z))):=λe=>by rintro _ _ rfl rfl;exact p _ (M e)
  have F:ag (op=5->∀e (z:Int),e=.returned (b_ 0)->z=(((r.A+65536-y) % 65536:Nat):Int)->X e (w.setCell (S_ b 5) (a_ z))):=λe=>by rintro _ _ rfl rfl;exact p _ (N e)
  have T:ag (Xp op->∀e,e=.returned (b_ 2)->X e w):=λe=>by rintro _ rfl;exact(by rw[<-s,O e];exact no)
  clear p r0 L M N O q no s k;generalize FK r op n=a at*;gi_enter func226,ntmps226;gi_wp2_with (first|(gi_at_call 244;refine(u _).mono ?_;rintro e f ⟨rfl,c⟩;have c:=c.symm;subst c)|(gi_at_call 138;refine(Gh b l ci r.Af.length 1 a _ w J zD G hL Q zD).mono ?_;rintro e f ⟨rfl,c⟩;have c:=c.symm;subst c;obtain(rfl|rfl|rfl|rfl|rfl|rfl)|⟨e1,e2,e3,e4,C,D⟩:=P))
  all_goals (try gi_region)
  all_goals (try gi_wp2)
  all_goals (try go_ret)
  all_goals first|exact R.out zF _ zF|exact S.out zF _ zF|exact E.out zF _ _ zF zD|exact F.out zF _ _ zF zD|exact sD.out _ _ (E.out zF _ _ zF zD)|exact sD.out _ _ (F.out zF _ _ zF zD)|exact T.out ⟨e1,e2,e3,e4,C,D⟩ _ zF
 .have e:ED r op n=(2,0,r):=by unfold ED;rw[ru j]
  rw[e];clear e;generalize FK r op n=a at*;have no:ag (∀e,e=.returned (b_ 2)->dY K b w (2,0,r) e w):=λe U=>by rw[U];exact no
  generalize dY K b w (2,0,r)=X at*;gi_enter func226,ntmps226;gi_wp2_with (first|(gi_at_call 244;refine(u _).mono ?_;rintro e f ⟨rfl,c⟩;have c:=c.symm;subst c)|(gi_at_call 138;refine(IA b l ci r.Af.length 1 a _ w J zD zD G zD).mono ?_;rintro e f ⟨rfl,c⟩;have c:=c.symm;subst c))
  try go_ret
  exact no.out _ zF
end
theorem ag.in {p:Prop} (h:p):ag p:=h
def iw (op:Nat):Prop:=¬(op:Int)=1/\¬(op:Int)=6/\¬(op:Int)=7/\¬(op:Int)=8/\¬(op:Int)=11
section
variable (m:Nat) (w:o_)
theorem ax0 (K:KS) (b:Nat) (r:PR) (h:AV K w) (hb:K.ps b=some r) (hn:r.en=false) (o:r.Ok) (hL:r.Af.length<=128):
  O_ m 185 #[.pointer (some (S_ b 5))] w (Γ K b w (FY r)):=by
 obtain⟨f,ci,S,k,xn,Z⟩:=h.jm hb hn;have T:=k.le;have N:=o.P;by_cases z:r.P+2<=r.Af.length
 .obtain⟨op,D⟩:∃v,r.Af[r.P]?=some v:=⟨_,IG zD⟩;obtain⟨n,g⟩:∃v,r.Af[r.P+1]?=some v:=⟨_,IG zD⟩;have e:FY r=Xu r op n:=by unfold FY;rw[rC z,D,g];rfl
  rw[e];clear e;have ho:=(h.ps b r hb).o;have q5:=h.Il hb 5;have q6:=h.Il hb 6;have G:=h.Il hb 7;simp[PR.arr]at q5 q6 G;have z5:=h.jy hb 5;have z6:=h.jy hb 6;have z7:=h.jy hb 7;have F:=o.Af n (t_ g);have d:w.cell? (S_ f r.P)=some (a_ (op:Nat)):=(k.cell zD).trans (by rw[Az,List.getElem?_map,D];rfl);have d1:w.cell? (S_ f (r.P+1))=some (a_ (n:Nat)):=(k.cell zD).trans (by rw[Az,List.getElem?_map,g];rfl);clear D g;have w2:IntKind.u16.wrap ((r.P:Int)+2)=(r.P:Int)+2:=by rw[wrap_u16];omega
  have s:=h.GH (r':={ r with P:=r.P+2 }) (i:=7) (v:=a_ ((r.P:Int)+2)) hb ⟨rfl,rfl,rfl,rfl,rfl⟩ rfl (h.ps b r hb).bl;have H:=h.Ez hb (i:=7) (v:=a_ ((r.P:Int)+2));have Q:({ r with P:=r.P+2 }:PR).Ok:=⟨o.A,o.B,(by show r.P+2<65536;omega),o.st,o.pid,o.par,o.Af,o.fds,o.fd,o.len,o.off⟩;have u:=s.no (Ac.refl No _).drew;have I:=λm=>ai9 m _ _ b op n { r with P:=r.P+2 } u Aj hn Q hL F
  have l:((op=1/\r.A=r.A/\Xu r op n=(0,0,{ r with A:=n,B:=r.B,P:=r.P+2 }))\/(op=6/\r.A=r.A/\Xu r op n=(0,0,{ r with A:=r.A,B:=r.B,P:=n }))\/(op=7/\(((r.A:Int)==0)=true)/\Xu r op n=(0,0,{ r with A:=r.A,B:=r.B,P:=n }))\/(op=7/\(((r.A:Int)==0)=false)/\Xu r op n=(0,0,{ r with A:=r.A,B:=r.B,P:=r.P+2 }))\/(op=8/\r.A=r.A/\Xu r op n=(0,0,{ r with A:=r.B,B:=r.A,P:=r.P+2 }))\/(op=11/\r.A=r.A/\Xu r op n=(1,n,{ r with A:=r.A,B:=r.B,P:=r.P+2 })))\/iw op:=by
   by_cases C:op=7
   .by_cases c:r.A=0
    .exact .inl (.inr (.inr (.inl ⟨C,by simpa using c,by simp[Xu,C,c]⟩)))
    .exact .inl (.inr (.inr (.inr (.inl ⟨C,by simpa using c,by simp[Xu,C,c]⟩))))
   .by_cases s:op=1
    .exact .inl (.inl ⟨s,rfl,by simp[Xu,s]⟩)
    .by_cases J:op=6
     .exact .inl (.inr (.inl ⟨J,rfl,by simp[Xu,J]⟩))
     .by_cases L:op=8
      .exact .inl (.inr (.inr (.inr (.inr (.inl ⟨L,rfl,by simp[Xu,L]⟩)))))
      .by_cases t:op=11
       .exact .inl (.inr (.inr (.inr (.inr (.inr ⟨t,rfl,by simp[Xu,t]⟩)))))
       .unfold iw;omega
  have tail:∀{A B P R x:Nat} {e:Ending} {a:o_},Xu r op n=(R,x,{ r with A:=A,B:=B,P:=P })->e=.returned (.tuple #[b_ (R:Nat),a_ (x:Nat)])/\Ac (At b) w a/\a.heap[b]?=some ({ r with A:=A,B:=B,P:=P }:PR).obj->Γ K b w (Xu r op n) e a:=λe ⟨y,V,E⟩=>by
   have:=zl h hb V E
   rw[e]
   exact⟨y,this.1,this.2⟩
  have tou:∀{e:Ending} {a:o_},iw op->dY (K.Bi b { r with P:=r.P+2 }) b (w.setCell (S_ b 7) (a_ ((r.P:Int)+2))).drew (ED { r with P:=r.P+2 } op n) e a->∃x:Nat,e=.returned (b_ (x:Nat))/\Γ K b w (Xu r op n) (.returned (.tuple #[b_ (x:Nat),a_ 0])) a:=fun {e a} ⟨n1,n2,n3,n4,n5⟩ ⟨y,O,W⟩=>by
   refine⟨_,y,?_⟩
   have e1:Xu r op n=ED { r with P:=r.P+2 } op n:=by unfold Xu;rw[ru zD,ru zD,ru zD,ru zD,ru zD]
   have e2:(ED { r with P:=r.P+2 } op n).2.1=0:=by unfold ED;(repeat' split)<;>rfl
   rw[e1]
   refine⟨by rw[e2];rfl,?_,(H.then (Ac.refl No _).drew).trans W⟩
   rw[UC]at O
   exact O
  generalize Y:Γ K b w (Xu r op n)=X at*;clear Y;obtain(⟨rfl,c,j⟩|⟨rfl,c,j⟩|⟨rfl,c,j⟩|⟨rfl,c,j⟩|⟨rfl,c,j⟩|⟨rfl,c,j⟩)|p:=l
  all_goals first|replace d:w.cell? (S_ f r.P)=some (a_ 1):=d|replace d:w.cell? (S_ f r.P)=some (a_ 6):=d|replace d:w.cell? (S_ f r.P)=some (a_ 7):=d|replace d:w.cell? (S_ f r.P)=some (a_ 8):=d|replace d:w.cell? (S_ f r.P)=some (a_ 11):=d|skip
  all_goals first|(replace tail:=ag.in λe a=>@tail _ _ _ _ _ e a j;clear j tou I)|skip
  all_goals first|(have c:=p;obtain⟨n1,n2,n3,n4,n5⟩:=c;replace tou:=fun {e a}=>@tou e a p;clear tail p)|skip
  all_goals (try clear s u H Q)
  all_goals gi_enter func185,ntmps185
  all_goals gi_wp2_with (gi_at_call 138;refine(Gh b f ci r.Af.length 2 r.P _ _ S zD N hL T z).mono ?_;rintro e a ⟨rfl,q⟩;have q:=q.symm;subst q)
  all_goals gi_region
  all_goals gi_wp2_with (gi_at_call 226;refine(I _).mono ?_;rintro e w3 M;obtain⟨x,rfl,U⟩:=tou M;clear M)
  all_goals (try gi_region)
  all_goals (try gi_wp2)
  all_goals (try go_ret2)
  all_goals first|(refine tail.out _ _ ⟨zF,?_,?_⟩;(repeat (first|exact Ac.refl (At b) _|refine Ac.drew ?_|refine Ac.setCell ?_ _ (λ_=>rfl)));(simp[World.setCell,World.drew,jJ,ho,PR.obj,PR.arr];done))|exact U
 .have e:FY r=(2,0,r):=by unfold FY;rw[ru z]
  rw[e];have no:ag (∀e,e=.returned (.tuple #[b_ 2,a_ 0])->Γ K b w (2,0,r) e w):=λe y=>⟨y,by show AV (K.Bi b r) w;rw[Fj hb];exact h,BN.no (Ac.refl _ _) h.lt⟩
  clear e;have G:=h.Il hb 7;simp[PR.arr]at G;generalize Γ K b w (2,0,r)=X at*;gi_enter func185,ntmps185;gi_wp2_with (gi_at_call 138;refine(IA b f ci r.Af.length 2 r.P _ _ S zD zD N z).mono ?_;rintro e a ⟨rfl,q⟩;have q:=q.symm;subst q)
  try go_ret2
  exact no.out _ (by first|rfl|simp)
end
theorem CX (v:o_) (τ:Nat->Question->Nat) (d:Nat):Ac No v (v.re τ d):=⟨rfl,rfl,w_ _,λ_ _ _=>rfl⟩
theorem Y6 {v v':o_} (h:Iy v v'):Ac No v v':=⟨h.2.2.1,h.2.2.2,h.1,λk a _=>h.2.1 k a⟩
theorem Ea (c:a.size=n) (h:∀p∈l,a.getD p.1 undef=p.2):a=TN n (A8 (λi=>a.getD i undef) l):=by
 rw[NH h];exact XX c
theorem af7 {c:List (Nat×n_)} (f:a.size=n) (h:∀p∈l,a.getD p.1 undef=p.2) (d:∀p∈c,a.getD p.1 undef=p.2):a=TN n (A8 (A8 (λi=>a.getD i undef) l) c):=by
 have e:A8 (λi=>a.getD i undef) l=λi=>a.getD i undef:=NH h
 rw[e,NH d];exact XX f
abbrev Ev:=Nat×Nat×Nat×Nat
def dJ (x:Ev):U_:=[b_ x.1,b_ x.2.1,b_ x.2.2.1,b_ x.2.2.2]
def SQ:List Ev->U_
 |[]=>[]
 |x::l=>dJ x++SQ l
theorem lU:∀l c,SQ (l++c)=SQ l++SQ c
 |[],_=>rfl
 |x::l,c=>by simp only[List.cons_append,SQ,lU l c,List.append_assoc]
structure VW (base:Nat) (T:Tag) (told:n_) (w:o_) (CQ:List Ev):Prop where
 row:w.ownsRow base 59 4 told CQ.length (SQ CQ)
 no:∀g,told.ownBlock=some g->T g=(0,0)
theorem VW.WB {base:Nat} {told:n_} {CQ:List Ev} (h:VW base T told w CQ) (M:BN T T' w w'):VW base T' told w' CQ:=by
 refine⟨?_,λg f=>(Dh.fresh M g (h.row.lt g f).2).trans (h.no g f)⟩;obtain⟨⟨i,e⟩,j⟩:=h;refine⟨i,?_⟩;obtain e|⟨g,cap,a,rfl,b,c,d⟩:=e
 .exact .inl e
 .exact .inr ⟨g,cap,a,rfl,b,M.old c (j g rfl),d⟩
theorem Eo.GH {NC NS:Nat} {r':PR} (h:Eo NC NS K) (f:K.ps b=some r) (s:r'.pid=r.pid) (_:r'.en=r.en) (m:r'.co=r.co) (g:r'.sw=r.sw) (j:r'.Af.length=r.Af.length) (o:r'.fds=r.fds) (p:r'.Ok):Eo NC NS (K.Bi b r')/\Rel b K (K.Bi b r'):=by
 have c:JL b K.ps (C9 K.ps b r'):=JL.set;refine h.step (b:=b) (r:=r) (r':=r') rfl rfl rfl c f Aj p s (h.co.same rfl (λi=>BO λk _=>?_) λk q a=>?_) (h.sw.same rfl (λi=>BO λk _=>?_) λk q a=>?_) ?_
 .show FX i (C9 K.ps b r') k=_;by_cases e:k=b
  .subst e;rw[Ej Aj,Ej f,m,j]
  .unfold FX;rw[BH e]
 .have a:C9 K.ps b _ k=some q:=a;by_cases e:k=b
  .subst e;rw[Aj]at a;cases a;rw[j,m];exact h.co.pl _ r f
  .rw[BH e]at a;exact h.co.pl k q a
 .show Nr i (C9 K.ps b r') k=_;by_cases e:k=b
  .subst e;rw[Jc Aj,Jc f,j,g]
  .unfold Nr;rw[BH e]
 .have a:C9 K.ps b _ k=some q:=a;by_cases e:k=b
  .subst e;rw[Aj]at a;cases a;rw[j,g];exact h.sw.pl _ r f
  .rw[BH e]at a;exact h.sw.pl k q a
 .have d:EK (BM K.ps K.Aw) (K.Bi b r'):=⟨h.Ef.ho,h.Ef.le,h.Ef.op,h.Ef.nd,h.Ef.nz,h.Ef.nm,h.Ef.dj⟩;refine d.congr λi _=>?_
  show BK (Ji (C9 K.ps b r') i) K.Aw=BK (Ji K.ps i) K.Aw;refine BO λk _=>?_
  by_cases e:k=b
  .subst e;rw[G8 Aj,G8 f,o]
  .unfold Ji;rw[BH e]
def Si (T T':Tag):Prop:=∀k,T k≠(0,0)->T' k=T k
theorem BN.ext (h:BN T T' w w'):Si T T':=Dh.old h
def kE (K:KS) (b:Nat) (r:PR) (call:Nat) (K':KS) (x y:Nat) (f:n_):Prop:=Ue K b r call K' x y f/\Si K.T K'.T/\(∃NC NS,Eo NC NS K/\Eo NC NS K')/\b∈K.Aw
def bx3 (K:KS) (b:Nat) (r:PR) (st:Nat) (K':KS):Prop:=ab6 K b r st K'/\Si K.T K'.T/\(∃NC NS,Eo NC NS K)/\b∈K.Aw
def InE (b:Nat) (K K':KS):Prop:=Ϭ b K K'/\Si K.T K'.T/\∃NC NS,Eo NC NS K'
def VX (b:Nat) (K:KS) (CQ:List Ev) (K':KS):Prop:=∃r s call r1,K.ps b=some r/\FY r=(s,call,r1)/\
 ((s=0/\CQ=[]/\K'=K.Bi b r1)\/
  (s=1/\∃K2 x y r2,kE (K.Bi b r1) b r1 call K2 x y .nilFunc/\K2.ps b=some r2/\r2.en=false/\CQ=[(r2.pid,call,x,y)]/\K'=K2.Bi b { r2 with A:=x,B:=y }))
def Run (b:Nat) (K:KS):Nat->List Ev->KS->Prop
 |0,CQ,K'=>CQ=[]/\K'=K
 |j+1,CQ,K'=>∃e1 e2 K1,Run b K j e1 K1/\VX b K1 e2 K'/\CQ=e1++e2
def Last (b:Nat) (K:KS) (CQ:List Ev) (K':KS):Prop:=∃r s call r1,K.ps b=some r/\FY r=(s,call,r1)/\
 ((s=2/\bx3 (K.Bi b r1) b r1 65535 K'/\∃r2,K'.ps b=some r2/\CQ=[(r2.pid,1,65535,0)])\/
  (s=1/\∃K2 x y f r2,kE (K.Bi b r1) b r1 call K2 x y f/\K2.ps b=some r2/\
   ((f=.nilFunc/\r2.en=true/\CQ=[(r2.pid,call,x,y)]/\K'=K2)\/((∃fn ca cb,f=.func fn ca cb)/\CQ=[]/\K'=K2.Bi b { r2 with bl:=f,P:=(r2.P+65534) % 65536 }))))
def Xt (b:Nat) (K0 K:KS):Prop:=∃K1 r,BR K0 K1/\K1.ps b=some r/\K=K1.Bi b { r with bl:=.nilFunc }/\InE b K0 K1
def Α (b n:Nat) (K0:KS) (CQ:List Ev) (K':KS):Prop:=∃K1,Xt b K0 K1/\(Run b K1 n CQ K'\/∃j e1 e2 K2,j<n/\Run b K1 j e1 K2/\Last b K2 e2 K'/\CQ=e1++e2)
theorem VX.len {K':KS} {CQ:List Ev} (h:VX b K CQ K'):CQ.length<=1:=by
 obtain⟨_,_,_,_,_,_,⟨_,rfl,_⟩|⟨_,_,_,_,_,_,_,_,rfl,_⟩⟩:=h<;>simp
theorem Run.len {b:Nat} {K:KS}:∀{j:Nat} {CQ:List Ev} {K':KS},Run b K j CQ K'->CQ.length<=j
 |0,_,_,h=>by rw[h.1];simp
 |j+1,_,_,h=>by
  obtain⟨e1,e2,d,a,c,rfl⟩:=h
  have:=Run.len a
  have:=c.len
  simp;omega
section
variable (NC NS b:Nat) (K0:KS) (v0:o_) (n:Nat)
structure VQ (CQ:List Ev) (told:n_) (v:o_) (K:KS) (r:PR):Prop where
 ka:AV K v
 ok:Eo NC NS K
 rel:Rel b K0 K
 mv:BN K0.T K.T v0 v
 told:VW v0.heap.size K.T told v CQ
 ps:K.ps b=some r
 z:K0.ps b≠none/\K0.EJ
def XI (j:Nat) (CQ:List Ev) (K:KS):Prop:=∃K1,Xt b K0 K1/\Run b K1 j CQ K
def XS (j:Nat) (CQ:List Ev) (s call:Nat) (K:KS) (r:PR):Prop:=∃Km rm,XI b K0 j CQ Km/\Km.ps b=some rm/\FY rm=(s,call,r)/\K=Km.Bi b r
def XD (j:Nat) (CQ:List Ev) (call res wr:Nat) (f:n_) (K:KS):Prop:=∃Kc rc,XS b K0 j CQ 1 call Kc rc/\kE Kc b rc call K res wr f
def Vp:Prop:=∀(m:Nat) (w:o_) (j:Nat) (CQ:List Ev) (K:KS) (r:PR) (call:Nat),j<n->XS b K0 j CQ 1 call K r->AV K w->Eo NC NS K->b∈K.Aw->K.ps b=some r->r.en=false->O_ m 96 #[Q_ K.kb,Q_ b,a_ (call:Nat)] w (FO (Ue K b r call) NC NS b K w)
def XE (j:Nat) (CQ:List Ev) (res wr:Nat) (K:KS) (r:PR):Prop:=∃e1 call,XD b K0 j e1 call res wr .nilFunc K/\CQ=e1++[(r.pid,call,res,wr)]
def XL (CQ:List Ev) (K:KS):Prop:=∃j call res wr f K2 r2,j<n/\XD b K0 j CQ call res wr f K2/\K2.ps b=some r2/\(∃fn ca cb,f=.func fn ca cb)/\K=K2.Bi b { r2 with bl:=f }
structure AnK (T:Tag) (bA res wr:Nat) (f:n_) (v:o_):Prop where
 blk:v.heap[bA]?=some (N_ #[a_ res,a_ wr,f] 206)
 t:T bA=(0,0)
 res:res<65536
 wr:wr<65536
def SO (told:n_) (v:o_):Prop:=∃r,VQ NC NS b K0 v0 [] told v K0 r/\r.en=false/\b∈K0.Aw
def SM (told:n_) (v:o_):Prop:=∃K r,VQ NC NS b K0 v0 [] told v K r/\r.en=false/\b∈K.Aw/\BR K0 K/\InE b K0 K
def SI (i:Int) (told:n_) (v:o_):Prop:=∃j CQ K r,i=(j:Nat)/\VQ NC NS b K0 v0 CQ told v K r/\r.en=false/\b∈K.Aw/\XI b K0 j CQ K
def SC (i:Int) (told x:n_) (v:o_):Prop:=∃j CQ K r call,i=(j:Nat)/\j<n/\x=a_ (call:Nat)/\call<65536/\VQ NC NS b K0 v0 CQ told v K r/\r.en=false/\b∈K.Aw/\XS b K0 j CQ 1 call K r
def SB (told:n_) (v:o_):Prop:=∃j CQ K r call,j<n/\VQ NC NS b K0 v0 CQ told v K r/\r.en=false/\b∈K.Aw/\XS b K0 j CQ 2 call K r
def SD (i:Int) (told x:n_) (bA:Nat) (v:o_):Prop:=∃j CQ K r call res wr f,i=(j:Nat)/\j<n/\x=a_ (call:Nat)/\call<65536/\VQ NC NS b K0 v0 CQ told v K r/\(r.en=false->b∈K.Aw)/\AnK K.T bA res wr f v/\LW K.T v K.kb b f/\XD b K0 j CQ call res wr f K
def SDn (i:Int) (told x:n_) (bA:Nat) (v:o_):Prop:=∃j CQ K r call res wr,i=(j:Nat)/\j<n/\x=a_ (call:Nat)/\call<65536/\VQ NC NS b K0 v0 CQ told v K r/\(r.en=false->b∈K.Aw)/\AnK K.T bA res wr .nilFunc v/\XD b K0 j CQ call res wr .nilFunc K
def SDb (i:Int) (told _x:n_) (bA:Nat) (v:o_):Prop:=∃j CQ K r call res wr f,i=(j:Nat)/\j<n/\VQ NC NS b K0 v0 CQ told v K r/\AnK K.T bA res wr f v/\LW K.T v K.kb b f/\(∃fn ca cb,f=.func fn ca cb)/\XD b K0 j CQ call res wr f K
def SBl (told:n_) (v:o_):Prop:=∃CQ K r,VQ NC NS b K0 v0 CQ told v K r/\XL b K0 n CQ K
def SBc (told:n_) (bA:Nat) (v:o_):Prop:=SBl NC NS b K0 v0 n told v/\∃res wr fn ca cb,v.heap[bA]?=some (N_ #[a_ (res:Nat),a_ (wr:Nat),.func fn ca cb] 206)
def SE0 (i:Int) (told:n_) (bA:Nat) (v:o_):Prop:=∃j CQ K r res wr,i=(j:Nat)/\j<n/\VQ NC NS b K0 v0 CQ told v K r/\(r.en=false->b∈K.Aw)/\AnK K.T bA res wr .nilFunc v/\XE b K0 j CQ res wr K r
def SE (i:Int) (told:n_) (bA:Nat) (v:o_):Prop:=∃j CQ K r res wr,i=(j:Nat)/\j<n/\VQ NC NS b K0 v0 CQ told v K r/\r.en=false/\b∈K.Aw/\AnK K.T bA res wr .nilFunc v/\XE b K0 j CQ res wr K r
def SA (i:Int) (told A:n_) (v:o_):Prop:=∃j CQ K r res wr,i=(j:Nat)/\j<n/\VQ NC NS b K0 v0 CQ told v K r/\r.en=false/\b∈K.Aw/\res<65536/\wr<65536/\A=.agg #[a_ (res:Nat),a_ (wr:Nat),.nilFunc]/\XE b K0 j CQ res wr K r
def SF (told:n_) (v:o_):Prop:=∃CQ K r,VQ NC NS b K0 v0 CQ told v K r/\Α b n K0 CQ K
end
section
variable {NC NS b:Nat} {K0:KS} {v0:o_} {n:Nat} {CQ:List Ev} {told x A:n_} {v v':o_} {K K':KS} {r r':PR} {i:Int} {bA:Nat}
theorem VQ.next (h:VQ NC NS b K0 v0 CQ told v K r) (d:AV K' v') (ok:Eo NC NS K') (R:Rel b K K') (M:BN K.T K'.T v v') (c:K'.ps b=some r'):VQ NC NS b K0 v0 CQ told v' K' r':=
 ⟨d,ok,h.rel.trans R h.z.1 h.z.2,h.mv.trans M,h.told.WB M,c,h.z⟩
theorem VQ.no (h:VQ NC NS b K0 v0 CQ told v K r) (c:Ac No v v'):VQ NC NS b K0 v0 CQ told v' K r:=
 h.next (h.ka.no c) h.ok (.refl b K) (BN.no c h.ka.lt) h.ps
theorem AnK.no {c wr:Nat} {f:n_} (h:AnK T bA c wr f v) (d:Ac No v v'):AnK T bA c wr f v':=⟨d.old h.blk id,h.t,h.res,h.wr⟩
theorem LW.no {kb:Nat} (h:LW T v kb b x) (c:Ac No v v'):LW T v' kb b x:=h.keep (Q:=λ_=>False) c.no (λh=>h)
theorem SO.no (h:SO NC NS b K0 v0 told v) (c:Ac No v v'):SO NC NS b K0 v0 told v':=let ⟨r,h1,h2⟩:=h;⟨r,h1.no c,h2⟩
theorem SM.no (h:SM NC NS b K0 v0 told v) (c:Ac No v v'):SM NC NS b K0 v0 told v':=let ⟨K,r,h1,h2⟩:=h;⟨K,r,h1.no c,h2⟩
theorem SI.no (h:SI NC NS b K0 v0 i told v) (c:Ac No v v'):SI NC NS b K0 v0 i told v':=let ⟨j,e,K,r,h1,h3,h4⟩:=h;⟨j,e,K,r,h1,h3.no c,h4⟩
theorem SC.no (h:SC NC NS b K0 v0 n i told x v) (d:Ac No v v'):SC NC NS b K0 v0 n i told x v':=let ⟨j,e,K,r,c,h1,h2,h3,h4,h6,h7⟩:=h;⟨j,e,K,r,c,h1,h2,h3,h4,h6.no d,h7⟩
theorem SB.no (h:SB NC NS b K0 v0 n told v) (d:Ac No v v'):SB NC NS b K0 v0 n told v':=let ⟨j,e,K,r,c,h1,h2,h3⟩:=h;⟨j,e,K,r,c,h1,h2.no d,h3⟩
theorem SD.no (h:SD NC NS b K0 v0 n i told x bA v) (d:Ac No v v'):SD NC NS b K0 v0 n i told x bA v':=let ⟨j,e,K,r,c,s,w,f,h1,h2,h3,h4,h6,h7,h8,h9,h10⟩:=h;⟨j,e,K,r,c,s,w,f,h1,h2,h3,h4,h6.no d,h7,h8.no d,h9.no d,h10⟩
theorem SDn.no (h:SDn NC NS b K0 v0 n i told x bA v) (d:Ac No v v'):SDn NC NS b K0 v0 n i told x bA v':=let ⟨j,e,K,r,c,s,w,h1,h2,h3,h4,h6,h7,h8,h9⟩:=h;⟨j,e,K,r,c,s,w,h1,h2,h3,h4,h6.no d,h7,h8.no d,h9⟩
theorem SDb.no (h:SDb NC NS b K0 v0 n i told x bA v) (d:Ac No v v'):SDb NC NS b K0 v0 n i told x bA v':=let ⟨j,e,K,r,c,s,w,f,h1,h2,h6,h8,h9,h10⟩:=h;⟨j,e,K,r,c,s,w,f,h1,h2,h6.no d,h8.no d,h9.no d,h10⟩
theorem SBl.no (h:SBl NC NS b K0 v0 n told v) (c:Ac No v v'):SBl NC NS b K0 v0 n told v':=let ⟨e,K,r,h2,h3⟩:=h;⟨e,K,r,h2.no c,h3⟩
theorem SBc.no (h:SBc NC NS b K0 v0 n told bA v) (g:Ac No v v'):SBc NC NS b K0 v0 n told bA v':=let ⟨h1,a,c,d,e,f,h2⟩:=h;⟨h1.no g,a,c,d,e,f,g.old h2 id⟩
theorem SE0.no (h:SE0 NC NS b K0 v0 n i told bA v) (c:Ac No v v'):SE0 NC NS b K0 v0 n i told bA v':=let ⟨j,e,K,r,s,w,h1,h2,h4,h5,h6,h7⟩:=h;⟨j,e,K,r,s,w,h1,h2,h4.no c,h5,h6.no c,h7⟩
theorem SE.no (h:SE NC NS b K0 v0 n i told bA v) (c:Ac No v v'):SE NC NS b K0 v0 n i told bA v':=let ⟨j,e,K,r,s,w,h1,h2,h4,h5,h6,h7,h8⟩:=h;⟨j,e,K,r,s,w,h1,h2,h4.no c,h5,h6,h7.no c,h8⟩
theorem SA.no (h:SA NC NS b K0 v0 n i told A v) (c:Ac No v v'):SA NC NS b K0 v0 n i told A v':=let ⟨j,e,K,r,s,w,h1,h2,h4,h5⟩:=h;⟨j,e,K,r,s,w,h1,h2,h4.no c,h5⟩
theorem SF.no (h:SF NC NS b K0 v0 n told v) (c:Ac No v v'):SF NC NS b K0 v0 n told v':=let ⟨e,K,r,h1,h2⟩:=h;⟨e,K,r,h1.no c,h2⟩
end
section
variable (m:Nat) (w:o_)
theorem yY (pb pid call r x:Nat) (c:w.cell? (R_ pb)=some (b_ pid)) (d:call<65536) (f:r<65536) (g:x<65536):O_ m 98 #[Q_ pb,a_ call,.agg #[a_ r,a_ x,.nilFunc]] w λe w'=>Ac No w w'/\e=.returned (.agg #[b_ pid,b_ call,b_ r,b_ x]):=by
 have a:Ac No w ((w.alloc (.cells #[a_ r,a_ x,.nilFunc] 206)).alloc (.cells #[b_ 0,b_ 0,b_ 0,b_ 0] 59)):=((Ac.refl _ _).alloc _).alloc _;have b:=a.has c;gi_enter func98,ntmps98;gi_wp2;gi_region
 all_goals gi_wp2
 all_goals refine bodyPost_ret (v:=.agg #[b_ pid,b_ call,b_ r,b_ x]) (by simp[results,results98,go_sem]) rfl ?_
 all_goals exact⟨by repeat (first|exact Ac.refl _ _|refine Ac.drew ?_|refine Ac.alloc ?_ _),rfl⟩
end
end Go.Fxa
