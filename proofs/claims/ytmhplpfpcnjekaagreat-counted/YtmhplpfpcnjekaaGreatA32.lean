/- A call is served: two and thre -/
import Derived.Test.YtmhplpfpcnjekaaGreatA31
namespace Go.Fxa
open Conc Proofs RowKit Proofs.Tryz
set_option maxRecDepth 1000000
set_option maxHeartbeats 0
section
variable (m:Nat) (w:o_)
theorem sU (K:KS) (NC NS b call:Nat) (r:PR) (h:AV K w) (hO:Ez NC NS K) (hm:b∈K.AP) (hb:K.ps b=some r) (hn:r.en=false) (ca:∀m w,P_ m 139 #[a_ (call:Nat)] w fun e w'=>e=.returned (b_ 2)/\w'=w) (hc:call=10\/call=14):
  P_ m 96 #[R_ K.kb,R_ b,a_ (call:Nat)] w (FQ NC NS b K w):=by
 have o:=hO.pr b r hb;have hL:=(hO.co.pl b r hb).1;have I:=o.A;obtain⟨H,rb,L⟩:=HY w;have s:=h.no H;have Gp:K.T w.heap.size=(0,0):=h.lt _ (w_ _);obtain⟨l,ci,F,i,kP,him⟩:=s.YF hb hn;have XY:=i.le;have J:=s.GG hb 5;simp[PR.arr]at J;by_cases G:r.A+2<=r.Ag.length
 .obtain⟨a0,Z⟩:∃v,r.Ag[r.A+0]?=some v:=⟨_,Ii (by omega)⟩;have b0:=o.Ag a0 (t_ Z);have j0:(w.alloc V_).cell? (T_ l (r.A+0))=some (a_ (a0:Nat)):=(i.cell (by omega)).trans (by rw[Az,List.getElem?_map,Z];rfl);obtain⟨a1,i1⟩:∃v,r.Ag[r.A+1]?=some v:=⟨_,Ii (by omega)⟩;have b1:=o.Ag a1 (t_ i1);have j1:(w.alloc V_).cell? (T_ l (r.A+1))=some (a_ (a1:Nat)):=(i.cell (by omega)).trans (by rw[Az,List.getElem?_map,i1];rfl);clear Z i1;gi_enter func96,ntmps96;gi_wp2;generalize V:w.alloc V_=a at*;refine Bi 15 155 ?_;gi_wp2_with (first|(gi_at_call 139;refine(ca _ a.drew).mono ?_;rintro e w1 ⟨rfl,rfl⟩)|(gi_at_call 138;refine(EM b l ci r.Ag.length 2 r.A _ a.drew F (by omega) I hL XY G).mono ?_;rintro e w1 ⟨rfl,rfl⟩));refine CZ ?_ ?_
  .intro W c;have d5:=c.has (w:=a.drew) J;have R:=c.has (w:=a.drew) F
   repeat' (refine Ae ?_ ?_)
   all_goals first|exact trivial|gi_wp2_with (first|(gi_at_call 139;refine(ca _ W).mono ?_;rintro e w1 ⟨rfl,rfl⟩)|(gi_at_call 138;refine(EM b l ci r.Ag.length 2 r.A _ W R (by omega) I hL XY G).mono ?_;rintro e w1 ⟨rfl,rfl⟩))
  .intro W c;have KW:Keep No a W:=(p_ No a).drew.then c;gi_wp2_with fail;refine(Kq _ W (T_ l r.A) 2 2 [a_ (a0:Nat),a_ (a1:Nat)] rfl (λj u p=>by
    match j,p with
    |0,p=>simp at p;subst p;exact KW.has j0
    |1,p=>simp at p;subst p;exact KW.has j1
    ) (by simp[Value.oneCell']) (by omega)).mono ?_;rintro e w1 ⟨K1,v,rfl,Es⟩;obtain⟨g,cap,rfl,U,_⟩:=Qw Es (by omega) (by simp[Value.oneCell']);have Sm:Keep No a w1:=KW.then K1;have d0:w1.cell? (S_ g)=some (a_ (a0:Nat)):=(U.cell (by omega)).trans rfl;have d1:w1.cell? (T_ g 1)=some (a_ (a1:Nat)):=(U.cell (by omega)).trans rfl;clear Es i U K1 KW c J F j0 j1;obtain rfl|rfl:=hc
   .gi_wp2;refine Bi 8 155 ?_;gi_wp2;refine CZ ?_ ?_
    .intro k d;have e0:=d.has (w:=w1.drew) d0;have e1:=d.has (w:=w1.drew) d1
     repeat' (refine Ae ?_ ?_)
     all_goals first|exact trivial|gi_wp2
    .intro k d;have E:Keep No a k:=Sm.then ((p_ No w1).drew.then d);have Q:=λm=>jK m k K NC NS b a0 a1 r (s.no E) hO hm hb hn b0
     gi_wp2_with (first|(gi_at_call 150;refine(Q _).mono ?_;rintro e w2 ⟨N,x,y,f,rfl,X,Y,D,S,n,O,P,r2,M,q⟩;have B:=(BM.no E s.lt).trans P;obtain⟨w8,t,z,C⟩:=Ap (x:=x) (y:=y) (f:=f) (B.old rb Gp) D.one)|refine En t ?_);refine bodyPost_ret (v:=.agg #[a_ x,a_ y,f]) (by simp[results,results96,go_sem,EF C]) rfl ?_;exact A7 (K':=N) (x:=x) (y:=y) h.lt H L B S z X Y D n O M q
   .gi_wp2;refine Bi 8 155 ?_;gi_wp2;refine CZ ?_ ?_
    .intro k d;have e0:=d.has (w:=w1.drew) d0;have e1:=d.has (w:=w1.drew) d1
     repeat' (refine Ae ?_ ?_)
     all_goals first|exact trivial|gi_wp2
    .intro k d;have E:Keep No a k:=Sm.then ((p_ No w1).drew.then d);have Q:=λm=>ae6 m k K NC NS b a0 a1 r (s.no E) hO hm hb hn b0 b1
     gi_wp2_with (first|(gi_at_call 154;refine(Q _).mono ?_;rintro e w2 ⟨N,x,y,f,rfl,X,Y,D,S,n,O,P,r2,M,q⟩;have B:=(BM.no E s.lt).trans P;obtain⟨w8,t,z,C⟩:=Ap (x:=x) (y:=y) (f:=f) (B.old rb Gp) D.one)|refine En t ?_);refine bodyPost_ret (v:=.agg #[a_ x,a_ y,f]) (by simp[results,results96,go_sem,EF C]) rfl ?_;exact A7 (K':=N) (x:=x) (y:=y) h.lt H L B S z X Y D n O M q
 .gi_enter func96,ntmps96;gi_wp2;generalize V:w.alloc V_=a at*;refine Bi 15 155 ?_;gi_wp2_with (first|(gi_at_call 139;refine(ca _ a.drew).mono ?_;rintro e w1 ⟨rfl,rfl⟩)|(gi_at_call 138;refine(Il b l ci r.Ag.length 2 r.A _ a.drew F (by omega) (by omega) I G).mono ?_;rintro e w1 ⟨rfl,rfl⟩));refine CZ ?_ ?_
  .intro W c;have d5:=c.has (w:=a.drew) J;have R:=c.has (w:=a.drew) F
   repeat' (refine Ae ?_ ?_)
   all_goals first|exact trivial|gi_wp2_with (first|(gi_at_call 139;refine(ca _ W).mono ?_;rintro e w1 ⟨rfl,rfl⟩)|(gi_at_call 138;refine(Il b l ci r.Ag.length 2 r.A _ W R (by omega) (by omega) I G).mono ?_;rintro e w1 ⟨rfl,rfl⟩))
  .intro W c;have KW:Keep No a W:=(p_ No a).drew.then c;have rbW:=KW.old rb id;gi_wp2_with (first|(gi_at_call 140;refine(wr8 1 rbW _).mono ?_;rintro e wz ⟨rfl,Kz,w8,t,z,C⟩)|refine En t ?_);refine TR 0 1 (by simp[results,results96,go_sem,EF C]) rfl ?_;exact BJ h hO hm hb H L (KW.then Kz) z (by decide) (by decide)
theorem sS (K:KS) (NC NS b call:Nat) (r:PR) (h:AV K w) (hO:Ez NC NS K) (hm:b∈K.AP) (hb:K.ps b=some r) (hn:r.en=false) (ca:∀m w,P_ m 139 #[a_ (call:Nat)] w fun e w'=>e=.returned (b_ 3)/\w'=w) (hc:call=6\/call=7):
  P_ m 96 #[R_ K.kb,R_ b,a_ (call:Nat)] w (FQ NC NS b K w):=by
 have o:=hO.pr b r hb;have hL:=(hO.co.pl b r hb).1;have I:=o.A;obtain⟨H,rb,M⟩:=HY w;have s:=h.no H;have Gp:K.T w.heap.size=(0,0):=h.lt _ (w_ _);obtain⟨l,ci,F,d,kP,him⟩:=s.YF hb hn;have XY:=d.le;have L:=s.GG hb 5;simp[PR.arr]at L;by_cases G:r.A+3<=r.Ag.length
 .obtain⟨a0,Z⟩:∃v,r.Ag[r.A+0]?=some v:=⟨_,Ii (by omega)⟩;have b0:=o.Ag a0 (t_ Z);have j0:(w.alloc V_).cell? (T_ l (r.A+0))=some (a_ (a0:Nat)):=(d.cell (by omega)).trans (by rw[Az,List.getElem?_map,Z];rfl);obtain⟨a1,i1⟩:∃v,r.Ag[r.A+1]?=some v:=⟨_,Ii (by omega)⟩;have b1:=o.Ag a1 (t_ i1);have j1:(w.alloc V_).cell? (T_ l (r.A+1))=some (a_ (a1:Nat)):=(d.cell (by omega)).trans (by rw[Az,List.getElem?_map,i1];rfl);obtain⟨a2,i2⟩:∃v,r.Ag[r.A+2]?=some v:=⟨_,Ii (by omega)⟩;have b2:=o.Ag a2 (t_ i2);have j2:(w.alloc V_).cell? (T_ l (r.A+2))=some (a_ (a2:Nat)):=(d.cell (by omega)).trans (by rw[Az,List.getElem?_map,i2];rfl);clear Z i1 i2;gi_enter func96,ntmps96;gi_wp2;generalize V:w.alloc V_=a at*;refine Bi 15 155 ?_;gi_wp2_with (first|(gi_at_call 139;refine(ca _ a.drew).mono ?_;rintro e w1 ⟨rfl,rfl⟩)|(gi_at_call 138;refine(EM b l ci r.Ag.length 3 r.A _ a.drew F (by omega) I hL XY G).mono ?_;rintro e w1 ⟨rfl,rfl⟩));refine CZ ?_ ?_
  .intro W i;have d5:=i.has (w:=a.drew) L;have S:=i.has (w:=a.drew) F
   repeat' (refine Ae ?_ ?_)
   all_goals first|exact trivial|gi_wp2_with (first|(gi_at_call 139;refine(ca _ W).mono ?_;rintro e w1 ⟨rfl,rfl⟩)|(gi_at_call 138;refine(EM b l ci r.Ag.length 3 r.A _ W S (by omega) I hL XY G).mono ?_;rintro e w1 ⟨rfl,rfl⟩))
  .intro W i;have KW:Keep No a W:=(p_ No a).drew.then i;gi_wp2_with fail;refine(Kq _ W (T_ l r.A) 3 3 [a_ (a0:Nat),a_ (a1:Nat),a_ (a2:Nat)] rfl (λj u k=>by
    match j,k with
    |0,k=>simp at k;subst k;exact KW.has j0
    |1,k=>simp at k;subst k;exact KW.has j1
    |2,k=>simp at k;subst k;exact KW.has j2
    ) (by simp[Value.oneCell']) (by omega)).mono ?_;rintro e w1 ⟨K1,v,rfl,Es⟩;obtain⟨g,cap,rfl,J,_⟩:=Qw Es (by omega) (by simp[Value.oneCell']);have Sm:Keep No a w1:=KW.then K1;have d0:w1.cell? (S_ g)=some (a_ (a0:Nat)):=(J.cell (by omega)).trans rfl;have d1:w1.cell? (T_ g 1)=some (a_ (a1:Nat)):=(J.cell (by omega)).trans rfl;have d2:w1.cell? (T_ g 2)=some (a_ (a2:Nat)):=(J.cell (by omega)).trans rfl;clear Es d J K1 KW i L F j0 j1 j2;obtain rfl|rfl:=hc
   .gi_wp2;refine Bi 11 155 ?_;gi_wp2;refine CZ ?_ ?_
    .intro n c;have e0:=c.has (w:=w1.drew) d0;have e1:=c.has (w:=w1.drew) d1;have e2:=c.has (w:=w1.drew) d2
     repeat' (refine Ae ?_ ?_)
     all_goals first|exact trivial|gi_wp2
    .intro n c;have E:Keep No a n:=Sm.then ((p_ No w1).drew.then c);have R:=λm=>af9 m n K NC NS b a0 a1 a2 r (s.no E) hO hm hb hn b0 b1 b2
     gi_wp2_with (first|(gi_at_call 146;refine(R _).mono ?_;rintro e w2 ⟨O,x,y,f,rfl,X,Y,D,U,p,P,Q,r2,N,q⟩;have B:=(BM.no E s.lt).trans Q;obtain⟨w8,t,z,C⟩:=Ap (x:=x) (y:=y) (f:=f) (B.old rb Gp) D.one)|refine En t ?_);refine bodyPost_ret (v:=.agg #[a_ x,a_ y,f]) (by simp[results,results96,go_sem,EF C]) rfl ?_;exact A7 (K':=O) (x:=x) (y:=y) h.lt H M B U z X Y D p P N q
   .gi_wp2;refine Bi 11 155 ?_;gi_wp2;refine CZ ?_ ?_
    .intro n c;have e0:=c.has (w:=w1.drew) d0;have e1:=c.has (w:=w1.drew) d1;have e2:=c.has (w:=w1.drew) d2
     repeat' (refine Ae ?_ ?_)
     all_goals first|exact trivial|gi_wp2
    .intro n c;have E:Keep No a n:=Sm.then ((p_ No w1).drew.then c);have R:=λm=>ϊ m n K NC NS b a0 a1 a2 r (s.no E) hO hm hb hn b0 b1 b2
     gi_wp2_with (first|(gi_at_call 147;refine(R _).mono ?_;rintro e w2 ⟨O,x,y,f,rfl,X,Y,D,U,p,P,Q,r2,N,q⟩;have B:=(BM.no E s.lt).trans Q;obtain⟨w8,t,z,C⟩:=Ap (x:=x) (y:=y) (f:=f) (B.old rb Gp) D.one)|refine En t ?_);refine bodyPost_ret (v:=.agg #[a_ x,a_ y,f]) (by simp[results,results96,go_sem,EF C]) rfl ?_;exact A7 (K':=O) (x:=x) (y:=y) h.lt H M B U z X Y D p P N q
 .gi_enter func96,ntmps96;gi_wp2;generalize V:w.alloc V_=a at*;refine Bi 15 155 ?_;gi_wp2_with (first|(gi_at_call 139;refine(ca _ a.drew).mono ?_;rintro e w1 ⟨rfl,rfl⟩)|(gi_at_call 138;refine(Il b l ci r.Ag.length 3 r.A _ a.drew F (by omega) (by omega) I G).mono ?_;rintro e w1 ⟨rfl,rfl⟩));refine CZ ?_ ?_
  .intro W i;have d5:=i.has (w:=a.drew) L;have S:=i.has (w:=a.drew) F
   repeat' (refine Ae ?_ ?_)
   all_goals first|exact trivial|gi_wp2_with (first|(gi_at_call 139;refine(ca _ W).mono ?_;rintro e w1 ⟨rfl,rfl⟩)|(gi_at_call 138;refine(Il b l ci r.Ag.length 3 r.A _ W S (by omega) (by omega) I G).mono ?_;rintro e w1 ⟨rfl,rfl⟩))
  .intro W i;have KW:Keep No a W:=(p_ No a).drew.then i;have rbW:=KW.old rb id;gi_wp2_with (first|(gi_at_call 140;refine(wr8 1 rbW _).mono ?_;rintro e wz ⟨rfl,Kz,w8,t,z,C⟩)|refine En t ?_);refine TR 0 1 (by simp[results,results96,go_sem,EF C]) rfl ?_;exact BJ h hO hm hb H M (KW.then Kz) z (by decide) (by decide)
end
section
variable (m:Nat) (w:o_)
theorem FI (call n:Nat) (h:(call,n)∈[(1,1),(2,0),(3,1),(4,1),(5,1),(6,3),(7,3),(8,1),(9,1),(10,2),(11,1),(12,0),(13,1),(14,2)]):P_ m 139 #[a_ (call:Nat)] w λe w'=>e=.returned (b_ n)/\w'=w:=by
 simp only[r_,Prod.mk.injEq,List.not_mem_nil,or_false]at h;obtain⟨rfl,rfl⟩|⟨rfl,rfl⟩|⟨rfl,rfl⟩|⟨rfl,rfl⟩|⟨rfl,rfl⟩|⟨rfl,rfl⟩|⟨rfl,rfl⟩|⟨rfl,rfl⟩|⟨rfl,rfl⟩|⟨rfl,rfl⟩|⟨rfl,rfl⟩|⟨rfl,rfl⟩|⟨rfl,rfl⟩|⟨rfl,rfl⟩:=h
 all_goals
  gi_enter func139,ntmps139
  gi_wp2
  go_ret
  exact⟨by simp,rfl⟩
theorem kL (call:Nat) (h:Others call):P_ m 139 #[a_ (call:Nat)] w λe w'=>e=.returned (b_ 0)/\w'=w:=by
 obtain⟨g,i,j,k,l,n,o,p,q,a,b,c,d,f⟩:=h;gi_enter func139,ntmps139;gi_wp2;go_ret;exact⟨by simp,rfl⟩
theorem ae3 (K:KS) (NC NS b call:Nat) (r:PR) (h:AV K w) (hO:Ez NC NS K) (hm:b∈K.AP) (hb:K.ps b=some r) (hn:r.en=false):
  P_ m 96 #[R_ K.kb,R_ b,a_ (call:Nat)] w (FQ NC NS b K w):=by
 by_cases e1:call=1
 .subst e1;exact NM m w K NC NS b 1 r h hO hm hb hn (λm w=>FI m w 1 1 (by simp)) (by simp)
 by_cases e2:call=2
 .subst e2;exact Z5 m w K NC NS b 2 r h hO hm hb hn (λm w=>FI m w 2 0 (by simp)) (by simp)
 by_cases e3:call=3
 .subst e3;exact NM m w K NC NS b 3 r h hO hm hb hn (λm w=>FI m w 3 1 (by simp)) (by simp)
 by_cases e4:call=4
 .subst e4;exact NM m w K NC NS b 4 r h hO hm hb hn (λm w=>FI m w 4 1 (by simp)) (by simp)
 by_cases g:call=5
 .subst g;exact NM m w K NC NS b 5 r h hO hm hb hn (λm w=>FI m w 5 1 (by simp)) (by simp)
 by_cases i:call=6
 .subst i;exact sS m w K NC NS b 6 r h hO hm hb hn (λm w=>FI m w 6 3 (by simp)) (by simp)
 by_cases j:call=7
 .subst j;exact sS m w K NC NS b 7 r h hO hm hb hn (λm w=>FI m w 7 3 (by simp)) (by simp)
 by_cases k:call=8
 .subst k;exact NM m w K NC NS b 8 r h hO hm hb hn (λm w=>FI m w 8 1 (by simp)) (by simp)
 by_cases l:call=9
 .subst l;exact NM m w K NC NS b 9 r h hO hm hb hn (λm w=>FI m w 9 1 (by simp)) (by simp)
 by_cases a:call=10
 .subst a;exact sU m w K NC NS b 10 r h hO hm hb hn (λm w=>FI m w 10 2 (by simp)) (by simp)
 by_cases c:call=11
 .subst c;exact NM m w K NC NS b 11 r h hO hm hb hn (λm w=>FI m w 11 1 (by simp)) (by simp)
 by_cases d:call=12
 .subst d;exact Z5 m w K NC NS b 12 r h hO hm hb hn (λm w=>FI m w 12 0 (by simp)) (by simp)
 by_cases e:call=13
 .subst e;exact NM m w K NC NS b 13 r h hO hm hb hn (λm w=>FI m w 13 1 (by simp)) (by simp)
 by_cases f:call=14
 .subst f;exact sU m w K NC NS b 14 r h hO hm hb hn (λm w=>FI m w 14 2 (by simp)) (by simp)
 exact Z5 m w K NC NS b call r h hO hm hb hn (λm w=>kL m w call ⟨by omega,by omega,by omega,by omega,by omega,by omega,by omega,by omega,by omega,by omega,by omega,by omega,by omega,by omega⟩) (.inr (.inr ⟨by omega,by omega,by omega,by omega,by omega,by omega,by omega,by omega,by omega,by omega,by omega,by omega,by omega,by omega⟩))
end
def Dl (K:KS) (b:Nat) (r:PR) (w w':o_):Prop:=∃(A B P:Nat) (Ag:List Nat),A<65536/\B<65536/\P<65536/\Ag.length=r.Ag.length/\(∀x∈Ag,x<65536)/\AV (K.Di b { r with A:=A,B:=B,P:=P,Ag:=Ag }) w'/\BM K.T K.T w w'
theorem Dl.no {K:KS} {b:Nat} {r:PR} {w w':o_} (h:AV K w) (hb:K.ps b=some r) (o:r.Ok) (hK:Keep No w w'):Dl K b r w w':=by
 refine⟨r.A,r.B,r.P,r.Ag,o.A,o.B,o.P,rfl,o.Ag,?_,BM.no hK h.lt⟩;have e:({ r with A:=r.A,B:=r.B,P:=r.P,Ag:=r.Ag }:PR)=r:=rfl;rw[e,FY hb];exact h.no hK
theorem Dl.aq6 {K:KS} {b x:Nat} {r:PR} {w:o_} (h:AV K w) (hb:K.ps b=some r) (o:r.Ok) (hx:x<65536):Dl K b r w (w.setCell (T_ b 5) (a_ (x:Nat))):=
 ⟨x,r.B,r.P,r.Ag,hx,o.B,o.P,rfl,o.Ag,h.like (r':={ r with A:=x }) (i:=5) (v:=a_ (x:Nat)) hb ⟨rfl,rfl,rfl,rfl,rfl⟩ rfl (h.ps b r hb).bl,h.Ee hb⟩
theorem Dl.word {K:KS} {b g c i x:Nat} {r:PR} {w:o_} (h:AV K w) (hb:K.ps b=some r) (hn:r.en=false) (o:r.Ok) (hx:x<65536) (h1:r.im=Q_ g r.Ag.length c):Dl K b r w (w.setCell (T_ g i) (a_ (x:Nat))):=by
 obtain⟨a,M⟩:=h.VM (i:=i) (x:=x) hb hn h1;exact⟨r.A,r.B,r.P,r.Ag.set i x,o.A,o.B,o.P,by simp,λy d=>by obtain d|rfl:=List.mem_or_eq_of_mem_set d;exact o.Ag y d;exact hx,a,M⟩
theorem Dl.drew {K:KS} {b:Nat} {r:PR} {w w':o_} (h:Dl K b r w w'):Dl K b r w w'.drew:=by
 obtain⟨A,B,P,a,c,d,e,f,g,i,j⟩:=h;exact⟨A,B,P,a,c,d,e,f,g,i.no (p_ No w').drew,j.then (p_ No w').drew⟩
theorem Dl.then {K:KS} {b A B P:Nat} {r:PR} {Ag:List Nat} {w w1 w':o_} (hA:Dl (K.Di b { r with A:=A,B:=B,P:=P,Ag:=Ag }) b { r with A:=A,B:=B,P:=P,Ag:=Ag } w1 w') (hl:Ag.length=r.Ag.length) (M:BM K.T K.T w w1):Dl K b r w w':=by
 obtain⟨d,e,f,a,g,h,i,j,k,c,l⟩:=hA;refine⟨d,e,f,a,g,h,i,j.trans hl,k,?_,M.trans l⟩;rw[WI]at c;exact c
section
variable (m:Nat) (w:o_)
theorem qX (b op n A B:Nat) (h5:w.cell? (T_ b 5)=some (a_ (A:Nat))) (h6:w.cell? (T_ b 6)=some (a_ (B:Nat))) (hA:A<65536) (hB:B<65536) (hn:n<65536):
  P_ m 244 #[.pointer (some (T_ b 5)),a_ (op:Nat),a_ (n:Nat)] w λe w'=>(∃a:Nat,a<65536/\e=.returned (a_ (a:Nat)))/\w'=w:=by
 gi_enter func244,ntmps244;gi_wp2
 all_goals go_ret
 all_goals first|(refine⟨⟨A,hA,?_⟩,rfl⟩;simp;done)|(refine⟨⟨B,hB,?_⟩,rfl⟩;simp;done)|(refine⟨⟨n,hn,?_⟩,rfl⟩;simp;done)
theorem vM (b gi c L n a:Nat) (h8:w.cell? (T_ b 8)=some (Q_ gi L c)) (hn:1<=n) (hn':n<=128) (ha:a<65536) (hL:L<=128) (hc:L<=c):
  P_ m 138 #[.pointer (some (T_ b 5)),a_ (a:Nat),b_ (n:Nat)] w λe w'=>((a+n<=L/\e=.returned (.tuple #[.slice (some (T_ gi a)) n n,.bool true]))\/e=.returned (.tuple #[.slice none 0 0,.bool false]))/\w'=w:=by
 by_cases h:a+n<=L
 .exact(EM b gi c L n a m w h8 hn ha hL hc h).mono λe w' d=>⟨.inl ⟨h,d.1⟩,d.2⟩
 .exact(Il b gi c L n a m w h8 hn hn' ha h).mono λe w' d=>⟨.inr d.1,d.2⟩
theorem WA (x:Int):∃a:Nat,a<65536/\IntKind.u16.wrap x=(a:Int):=⟨(x % 65536).toNat,by omega,by rw[wrap_u16];omega⟩
theorem ώ (K:KS) (b op n:Nat) (r:PR) (h:AV K w) (hb:K.ps b=some r) (hn:r.en=false) (o:r.Ok) (hL:r.Ag.length<=128) (hx:n<65536):
  P_ m 226 #[.pointer (some (T_ b 5)),a_ (op:Nat),a_ (n:Nat)] w λe w'=>(∃oc:Nat,oc<=2/\oc≠1/\e=.returned (b_ (oc:Nat)))/\Dl K b r w w':=by
 obtain⟨k,ci,z,c,D,g⟩:=h.YF hb hn;have q:=c.le;have l:=h.GG hb 5;have p:=h.GG hb 6;simp[PR.arr]at l p;have z5:=h.bU hb 5;have s:=λm=>qX m w b op n r.A r.B l p o.A o.B hx
 have t:=o.A;gi_enter func226,ntmps226;gi_wp2_with (first|(gi_at_call 244;refine(s _).mono ?_;rintro e w' ⟨⟨a,u,rfl⟩,f⟩;have f:=f.symm;subst f)|(gi_at_call 138;refine(vM _ w b k ci r.Ag.length 1 a z (by omega) (by omega) u hL q).mono ?_;rintro e w' ⟨⟨C,rfl⟩|rfl,f⟩<;>have f:=f.symm<;>subst f<;>try (obtain⟨y,i⟩:∃v,r.Ag[a]?=some v:=⟨_,Ii (by omega)⟩;have j:=o.Ag y (t_ i);have d:w.cell? (T_ k a)=some (a_ (y:Nat)):=(c.cell (by omega)).trans (by rw[Az,List.getElem?_map,i];rfl);have E:=c.fz a;clear i)))
 all_goals (try gi_region)
 all_goals (try gi_wp2)
 all_goals go_ret
 all_goals first
  |(refine⟨⟨0,by omega,by omega,by simp⟩,?_⟩;exact Dl.aq6 h hb o j)
  |(refine⟨⟨0,by omega,by omega,by simp⟩,?_⟩;exact Dl.word h hb hn o t g)
  |(refine⟨⟨0,by omega,by omega,by simp⟩,?_⟩;obtain⟨x,hx,e⟩:=WA ((r.A:Int)+(y:Int));rw[e];exact(Dl.aq6 h hb o hx).drew)
  |(refine⟨⟨0,by omega,by omega,by simp⟩,?_⟩;obtain⟨x,hx,e⟩:=WA ((r.A:Int)-(y:Int));rw[e];exact(Dl.aq6 h hb o hx).drew)
  |(refine⟨⟨2,by omega,by omega,by simp⟩,?_⟩;exact Dl.no h hb o (p_ _ _))
end
theorem Dl.obj {K:KS} {b A B P:Nat} {r:PR} {w w':o_} (h:AV K w) (hb:K.ps b=some r) (o:r.Ok) (hA:A<65536) (hB:B<65536) (hP:P<65536) (hK:Keep (At b) w w') (ho:w'.heap[b]?=some ({ r with A:=A,B:=B,P:=P }:PR).obj):Dl K b r w w':=by
 have a:=h.ps b r hb;have M:Dv K.T K.T (λt=>t=(6,b)\/t=(7,b)\/t=(8,b)\/t=(9,b)) (λt=>t=(6,b)\/t=(7,b)\/t=(8,b)\/t=(9,b)) w w':=Dv.of (hK.on λk _ e=>by subst e;exact .inl a.t) h.lt;have ne:∀{x:Nat} {t:Nat×Nat},K.T x=t->t≠(6,b)->¬At b x:=fun {x t} f i e=>by
  have e:x=b:=e
  subst e;exact i (f.symm.trans a.t)
 refine⟨A,B,P,r.Ag,hA,hB,hP,rfl,o.Ag,h.cO M ⟨a.t,ho,λe=>?_,λe=>?_,?_,a.no⟩,M.Vt (by rintro t (rfl|rfl|rfl|rfl)<;>simp)⟩
 .obtain⟨g,c,a1,a2,d⟩:=a.im e;exact⟨g,c,a1,a2.keep hK (ne d (by simp)),d⟩
 .obtain⟨g,c,a1,a2,d⟩:=a.fd e;exact⟨g,c,a1,a2.keep hK (ne d (by simp)),d⟩
 .obtain h|⟨x,y,f,i,m,j,l⟩|h:=a.bl
  .exact .inl h
  .exact .inr (.inl ⟨x,y,f,hK.old i (ne j (by simp)),hK.old m (ne l (by simp)),j,l⟩)
  .exact .inr (.inr h)
section
variable (m:Nat) (w:o_)
theorem ae1 (K:KS) (b:Nat) (r:PR) (h:AV K w) (hb:K.ps b=some r) (hn:r.en=false) (o:r.Ok) (hL:r.Ag.length<=128):
  P_ m 185 #[.pointer (some (T_ b 5))] w λe w'=>(∃oc x:Nat,oc<=2/\x<65536/\e=.returned (.tuple #[b_ (oc:Nat),a_ (x:Nat)]))/\Dl K b r w w':=by
 obtain⟨g,ci,s,a,O,E⟩:=h.YF hb hn;have u:=a.le;have f:=(h.ps b r hb).o;have H:=h.GG hb 5;have I:=h.GG hb 6;have J:=h.GG hb 7;simp[PR.arr]at H I J;have z5:=h.bU hb 5;have Q:=h.bU hb 6;have R:=h.bU hb 7;have M:=o.A;have N:=o.B;have q:=o.P;by_cases p:r.P+2<=r.Ag.length
 .obtain⟨op,l⟩:∃v,r.Ag[r.P]?=some v:=⟨_,Ii (by omega)⟩;obtain⟨n,c⟩:∃v,r.Ag[r.P+1]?=some v:=⟨_,Ii (by omega)⟩;have k:=o.Ag n (t_ c);have L:w.cell? (T_ g r.P)=some (a_ (op:Nat)):=(a.cell (by omega)).trans (by rw[Az,List.getElem?_map,l];rfl);have d1:w.cell? (T_ g (r.P+1))=some (a_ (n:Nat)):=(a.cell (by omega)).trans (by rw[Az,List.getElem?_map,c];rfl);clear l c;have w2:IntKind.u16.wrap ((r.P:Int)+2)=(r.P:Int)+2:=by rw[wrap_u16];omega
  have C:=h.like (r':={ r with P:=r.P+2 }) (i:=7) (v:=a_ ((r.P:Int)+2)) hb ⟨rfl,rfl,rfl,rfl,rfl⟩ rfl (h.ps b r hb).bl;have t:=h.Ee hb (i:=7) (v:=a_ ((r.P:Int)+2));have G:({ r with P:=r.P+2 }:PR).Ok:=⟨o.A,o.B,(by show r.P+2<65536;omega),o.st,o.pid,o.par,o.Ag,o.fds,o.fd,o.len,o.off⟩;have j:=C.no (p_ No _).drew;have z:=λm=>ώ m _ _ b op n { r with P:=r.P+2 } j Am hn G hL k
  gi_enter func185,ntmps185;gi_wp2_with (gi_at_call 138;refine(EM b g ci r.Ag.length 2 r.P _ _ s (by omega) q hL u p).mono ?_;rintro e w' ⟨rfl,d⟩;have d:=d.symm;subst d);gi_region
  all_goals gi_wp2_with (gi_at_call 226;refine(z _).mono ?_;rintro e w3 ⟨⟨oc,F,y,rfl⟩,D⟩)
  all_goals (try gi_region)
  all_goals (try gi_wp2)
  all_goals go_ret2
  all_goals first
   |(refine⟨⟨oc,0,by omega,by omega,?_⟩,Dl.then (A:=r.A) (B:=r.B) (P:=r.P+2) (Ag:=r.Ag) D rfl ?_⟩;(· simp;done);(· exact t.then (p_ No _).drew))
   |(refine⟨⟨0,0,by omega,by omega,?_⟩,Dl.obj (A:=n) (B:=r.B) (P:=r.P+2) h hb o (by omega) (by omega) (by omega) ?_ ?_⟩;(· simp;done);(· (repeat (first|exact p_ (At b) _|refine Keep.drew ?_|refine Keep.setCell ?_ _ (λ_=>rfl))));(· simp[World.setCell,World.drew,Array.getElem?_modify,f,PR.obj,PR.arr];done))
   |(refine⟨⟨0,0,by omega,by omega,?_⟩,Dl.obj (A:=r.A) (B:=r.B) (P:=n) h hb o (by omega) (by omega) (by omega) ?_ ?_⟩;(· simp;done);(· (repeat (first|exact p_ (At b) _|refine Keep.drew ?_|refine Keep.setCell ?_ _ (λ_=>rfl))));(· simp[World.setCell,World.drew,Array.getElem?_modify,f,PR.obj,PR.arr];done))
   |(refine⟨⟨0,0,by omega,by omega,?_⟩,Dl.obj (A:=r.B) (B:=r.A) (P:=r.P+2) h hb o (by omega) (by omega) (by omega) ?_ ?_⟩;(· simp;done);(· (repeat (first|exact p_ (At b) _|refine Keep.drew ?_|refine Keep.setCell ?_ _ (λ_=>rfl))));(· simp[World.setCell,World.drew,Array.getElem?_modify,f,PR.obj,PR.arr];done))
   |(refine⟨⟨0,0,by omega,by omega,?_⟩,Dl.obj (A:=r.A) (B:=r.B) (P:=r.P+2) h hb o (by omega) (by omega) (by omega) ?_ ?_⟩;(· simp;done);(· (repeat (first|exact p_ (At b) _|refine Keep.drew ?_|refine Keep.setCell ?_ _ (λ_=>rfl))));(· simp[World.setCell,World.drew,Array.getElem?_modify,f,PR.obj,PR.arr];done))
   |(refine⟨⟨1,n,by omega,by omega,?_⟩,Dl.obj (A:=r.A) (B:=r.B) (P:=r.P+2) h hb o (by omega) (by omega) (by omega) ?_ ?_⟩;(· simp;done);(· (repeat (first|exact p_ (At b) _|refine Keep.drew ?_|refine Keep.setCell ?_ _ (λ_=>rfl))));(· simp[World.setCell,World.drew,Array.getElem?_modify,f,PR.obj,PR.arr];done))
 .gi_enter func185,ntmps185;gi_wp2_with (gi_at_call 138;refine(Il b g ci r.Ag.length 2 r.P _ _ s (by omega) (by omega) q p).mono ?_;rintro e w' ⟨rfl,d⟩;have d:=d.symm;subst d);go_ret2;exact⟨⟨2,0,by omega,by omega,by simp⟩,Dl.no h hb o (p_ _ _)⟩
end
theorem CU (v:o_) (τ:Nat->Question->Nat) (d:Nat):Keep No v (v.re τ d):=⟨rfl,rfl,w_ _,λ_ _ _=>rfl⟩
theorem XG {v v':o_} (h:Ij v v'):Keep No v v':=⟨h.2.2.1,h.2.2.2,h.1,λk a _=>h.2.1 k a⟩
theorem DW {a:X_} {n:Nat} {l:List (Nat×n_)} (hs:a.size=n) (h:∀p∈l,a.getD p.1 undef=p.2):a=TN n (AY (λi=>a.getD i undef) l):=by
 rw[Nb h];exact Wy hs
theorem Η {a:X_} {n:Nat} {l l':List (Nat×n_)} (hs:a.size=n) (h:∀p∈l,a.getD p.1 undef=p.2) (h':∀p∈l',a.getD p.1 undef=p.2):a=TN n (AY (AY (λi=>a.getD i undef) l) l'):=by
 have e:AY (λi=>a.getD i undef) l=λi=>a.getD i undef:=Nb h
 rw[e,Nb h'];exact Wy hs
abbrev Ev:=Nat×Nat×Nat×Nat
def yF (x:Ev):U_:=[b_ x.1,b_ x.2.1,b_ x.2.2.1,b_ x.2.2.2]
def Vx:List Ev->U_
 |[]=>[]
 |x::l=>yF x++Vx l
theorem iJ:∀l l',Vx (l++l')=Vx l++Vx l'
 |[],_=>rfl
 |x::l,l'=>by simp only[List.cons_append,Vx,iJ l l',List.append_assoc]
structure Wh (base:Nat) (T:Tag) (told:n_) (w:o_) (D5:List Ev):Prop where
 row:w.ownsRow base 59 4 told D5.length (Vx D5)
 no:∀g,told.ownBlock=some g->T g=(0,0)
theorem Wh.Vt {base:Nat} {T T':Tag} {told:n_} {w w':o_} {D5:List Ev} (h:Wh base T told w D5) (M:BM T T' w w'):Wh base T' told w' D5:=by
 refine⟨?_,λg f=>(Dv.fresh M g (h.row.lt g f).2).trans (h.no g f)⟩;obtain⟨⟨i,e⟩,j⟩:=h;refine⟨i,?_⟩;obtain e|⟨g,cap,a,rfl,b,c,d⟩:=e
 .exact .inl e
 .exact .inr ⟨g,cap,a,rfl,b,M.old c (j g rfl),d⟩
theorem Ez.like {NC NS b:Nat} {K:KS} {r r':PR} (h:Ez NC NS K) (hb:K.ps b=some r) (hp:r'.pid=r.pid) (_:r'.en=r.en) (Gz:r'.co=r.co) (hsw:r'.sw=r.sw) (hi:r'.Ag.length=r.Ag.length) (hf:r'.fds=r.fds) (ho:r'.Ok):Ez NC NS (K.Di b r')/\Rel b K (K.Di b r'):=by
 have c:Jq b K.ps (Dz K.ps b r'):=Jq.set;refine h.step (b:=b) (r:=r) (r':=r') rfl rfl rfl c hb Am ho hp (h.co.same rfl (λi=>BV λk _=>?_) λk q a=>?_) (h.sw.same rfl (λi=>BV λk _=>?_) λk q a=>?_) ?_
 .show EX i (Dz K.ps b r') k=_;by_cases e:k=b
  .subst e;rw[DX Am,DX hb,Gz,hi]
  .unfold EX;rw[BZ e]
 .have a:Dz K.ps b _ k=some q:=a;by_cases e:k=b
  .subst e;rw[Am]at a;cases a;rw[hi,Gz];exact h.co.pl _ r hb
  .rw[BZ e]at a;exact h.co.pl k q a
 .show JR i (Dz K.ps b r') k=_;by_cases e:k=b
  .subst e;rw[F5 Am,F5 hb,hi,hsw]
  .unfold JR;rw[BZ e]
 .have a:Dz K.ps b _ k=some q:=a;by_cases e:k=b
  .subst e;rw[Am]at a;cases a;rw[hi,hsw];exact h.sw.pl _ r hb
  .rw[BZ e]at a;exact h.sw.pl k q a
 .have d:ED (BF K.ps K.AP) (K.Di b r'):=⟨h.DV.ho,h.DV.le,h.DV.op,h.DV.nd,h.DV.nz,h.DV.nm,h.DV.dj⟩;refine d.congr λi _=>?_
  show BD (I8 (Dz K.ps b r') i) K.AP=BD (I8 K.ps i) K.AP;refine BV λk _=>?_
  by_cases e:k=b
  .subst e;rw[GU Am,GU hb,hf]
  .unfold I8;rw[BZ e]
section
variable (bg:Bool) (NC NS b:Nat) (K0:KS) (v0:o_) (n:Nat)
structure U2 (D5:List Ev) (told:n_) (v:o_) (K:KS) (r:PR):Prop where
 ka:AV K v
 ok:Ez NC NS K
 rel:Rel b K0 K
 mv:BM K0.T K.T v0 v
 told:Wh v0.heap.size K.T told v D5
 ps:K.ps b=some r
 z:K0.ps b≠none/\K0.EC
def XF (D5:List Ev) (K:KS) (r:PR):Prop:=bg=true->D5=[(1,12,1,0)]/\r.A=1/\r.P=2/\r.Ag.length=8/\r.pid=1/\r.en=false/\b∈K.AP
def XI (j:Nat) (D5:List Ev) (K:KS) (r:PR):Prop:=(j=0->bg=true->D5=[]/\r.pid=1/\r.P=0/\r.Ag=[11,12,0,0,0,0,0,0])/\(0<j->XF bg b D5 K r)
def XC (D5:List Ev) (call:Nat) (r:PR):Prop:=bg=true->D5=[]/\call=12/\r.pid=1/\r.P=2/\r.Ag.length=8
def XD (D5:List Ev) (call res wr:Nat) (f:n_) (r:PR):Prop:=bg=true->D5=[]/\call=12/\res=1/\wr=0/\f=.nilFunc/\r.pid=1/\r.P=2/\r.Ag.length=8/\r.en=false
def XE (D5:List Ev) (res:Nat) (r:PR):Prop:=bg=true->D5=[(1,12,1,0)]/\res=1/\r.pid=1/\r.P=2/\r.Ag.length=8/\r.en=false
structure AnK (T:Tag) (bA res wr:Nat) (f:n_) (v:o_):Prop where
 blk:v.heap[bA]?=some (O_ #[a_ res,a_ wr,f] 206)
 t:T bA=(0,0)
 res:res<65536
 wr:wr<65536
def SI (i:Int) (told:n_) (v:o_):Prop:=∃j D5 K r,i=(j:Nat)/\D5.length<=j/\U2 NC NS b K0 v0 D5 told v K r/\r.en=false/\b∈K.AP/\XI bg b j D5 K r
def SC (i:Int) (told x:n_) (v:o_):Prop:=∃j D5 K r call,i=(j:Nat)/\j<n/\x=a_ (call:Nat)/\call<65536/\D5.length<=j/\U2 NC NS b K0 v0 D5 told v K r/\r.en=false/\b∈K.AP/\XC bg D5 call r
def SB (told:n_) (v:o_):Prop:=∃D5 K r,D5.length<=n/\U2 NC NS b K0 v0 D5 told v K r/\r.en=false/\b∈K.AP/\bg=false
def SD (i:Int) (told x:n_) (bA:Nat) (v:o_):Prop:=∃j D5 K r call res wr f,i=(j:Nat)/\j<n/\x=a_ (call:Nat)/\call<65536/\D5.length<=j/\U2 NC NS b K0 v0 D5 told v K r/\(r.en=false->b∈K.AP)/\AnK K.T bA res wr f v/\KG K.T v K.kb b f/\XD bg D5 call res wr f r
def SDn (i:Int) (told x:n_) (bA:Nat) (v:o_):Prop:=∃j D5 K r call res wr,i=(j:Nat)/\j<n/\x=a_ (call:Nat)/\call<65536/\D5.length<=j/\U2 NC NS b K0 v0 D5 told v K r/\(r.en=false->b∈K.AP)/\AnK K.T bA res wr .nilFunc v/\XD bg D5 call res wr .nilFunc r
def SDb (i:Int) (told _x:n_) (bA:Nat) (v:o_):Prop:=∃j D5 K r res wr f,i=(j:Nat)/\j<n/\D5.length<=j/\U2 NC NS b K0 v0 D5 told v K r/\AnK K.T bA res wr f v/\KG K.T v K.kb b f/\(∃fn ca cb,f=.func fn ca cb)/\bg=false
def SBl (told:n_) (v:o_):Prop:=∃D5 K r,D5.length<=n/\U2 NC NS b K0 v0 D5 told v K r/\bg=false
def SBc (told:n_) (bA:Nat) (v:o_):Prop:=SBl bg NC NS b K0 v0 n told v/\∃res wr fn ca cb,v.heap[bA]?=some (O_ #[a_ (res:Nat),a_ (wr:Nat),.func fn ca cb] 206)
def SE0 (i:Int) (told:n_) (bA:Nat) (v:o_):Prop:=∃j D5 K r res wr,i=(j:Nat)/\j<n/\D5.length<=j+1/\U2 NC NS b K0 v0 D5 told v K r/\(r.en=false->b∈K.AP)/\AnK K.T bA res wr .nilFunc v/\XE bg D5 res r
def SE (i:Int) (told:n_) (bA:Nat) (v:o_):Prop:=∃j D5 K r res wr,i=(j:Nat)/\j<n/\D5.length<=j+1/\U2 NC NS b K0 v0 D5 told v K r/\r.en=false/\b∈K.AP/\AnK K.T bA res wr .nilFunc v/\XE bg D5 res r
def SA (i:Int) (told A:n_) (v:o_):Prop:=∃j D5 K r res wr,i=(j:Nat)/\j<n/\D5.length<=j+1/\U2 NC NS b K0 v0 D5 told v K r/\r.en=false/\b∈K.AP/\res<65536/\wr<65536/\A=.agg #[a_ (res:Nat),a_ (wr:Nat),.nilFunc]/\XE bg D5 res r
def SF (told:n_) (v:o_):Prop:=∃D5 K r,U2 NC NS b K0 v0 D5 told v K r/\XF bg b D5 K r
end
section
variable {bg:Bool} {NC NS b:Nat} {K0:KS} {v0:o_} {n:Nat} {D5:List Ev} {told x A:n_} {v v':o_} {K K':KS} {r r':PR} {i:Int} {bA:Nat}
theorem U2.next (h:U2 NC NS b K0 v0 D5 told v K r) (ka:AV K' v') (ok:Ez NC NS K') (R:Rel b K K') (M:BM K.T K'.T v v') (hb:K'.ps b=some r'):U2 NC NS b K0 v0 D5 told v' K' r':=
 ⟨ka,ok,h.rel.trans R h.z.1 h.z.2,h.mv.trans M,h.told.Vt M,hb,h.z⟩
theorem U2.no (h:U2 NC NS b K0 v0 D5 told v K r) (hK:Keep No v v'):U2 NC NS b K0 v0 D5 told v' K r:=
 h.next (h.ka.no hK) h.ok (.refl b K) (BM.no hK h.ka.lt) h.ps
theorem AnK.no {T:Tag} {res wr:Nat} {f:n_} (h:AnK T bA res wr f v) (hK:Keep No v v'):AnK T bA res wr f v':=⟨hK.old h.blk id,h.t,h.res,h.wr⟩
theorem KG.no {T:Tag} {kb:Nat} (h:KG T v kb b x) (hK:Keep No v v'):KG T v' kb b x:=h.keep (Q:=λ_=>False) hK.no (λh=>h)
theorem SI.no (h:SI bg NC NS b K0 v0 i told v) (hK:Keep No v v'):SI bg NC NS b K0 v0 i told v':=let ⟨j,e,K,r,h1,h2,h3,h4⟩:=h;⟨j,e,K,r,h1,h2,h3.no hK,h4⟩
theorem SC.no (h:SC bg NC NS b K0 v0 n i told x v) (hK:Keep No v v'):SC bg NC NS b K0 v0 n i told x v':=let ⟨j,e,K,r,c,h1,h2,h3,h4,h5,h6,h7⟩:=h;⟨j,e,K,r,c,h1,h2,h3,h4,h5,h6.no hK,h7⟩
theorem SB.no (h:SB bg NC NS b K0 v0 n told v) (hK:Keep No v v'):SB bg NC NS b K0 v0 n told v':=let ⟨e,K,r,h1,h2,h3⟩:=h;⟨e,K,r,h1,h2.no hK,h3⟩
theorem SD.no (h:SD bg NC NS b K0 v0 n i told x bA v) (hK:Keep No v v'):SD bg NC NS b K0 v0 n i told x bA v':=let ⟨j,e,K,r,c,s,w,f,h1,h2,h3,h4,h5,h6,h7,h8,h9,h10⟩:=h;⟨j,e,K,r,c,s,w,f,h1,h2,h3,h4,h5,h6.no hK,h7,h8.no hK,h9.no hK,h10⟩
theorem SDn.no (h:SDn bg NC NS b K0 v0 n i told x bA v) (hK:Keep No v v'):SDn bg NC NS b K0 v0 n i told x bA v':=let ⟨j,e,K,r,c,s,w,h1,h2,h3,h4,h5,h6,h7,h8,h9⟩:=h;⟨j,e,K,r,c,s,w,h1,h2,h3,h4,h5,h6.no hK,h7,h8.no hK,h9⟩
theorem SDb.no (h:SDb bg NC NS b K0 v0 n i told x bA v) (hK:Keep No v v'):SDb bg NC NS b K0 v0 n i told x bA v':=let ⟨j,e,K,r,s,w,f,h1,h2,h5,h6,h8,h9,h10⟩:=h;⟨j,e,K,r,s,w,f,h1,h2,h5,h6.no hK,h8.no hK,h9.no hK,h10⟩
theorem SBl.no (h:SBl bg NC NS b K0 v0 n told v) (hK:Keep No v v'):SBl bg NC NS b K0 v0 n told v':=let ⟨e,K,r,h1,h2,h3⟩:=h;⟨e,K,r,h1,h2.no hK,h3⟩
theorem SBc.no (h:SBc bg NC NS b K0 v0 n told bA v) (hK:Keep No v v'):SBc bg NC NS b K0 v0 n told bA v':=let ⟨h1,a,c,d,e,f,h2⟩:=h;⟨h1.no hK,a,c,d,e,f,hK.old h2 id⟩
theorem SE0.no (h:SE0 bg NC NS b K0 v0 n i told bA v) (hK:Keep No v v'):SE0 bg NC NS b K0 v0 n i told bA v':=let ⟨j,e,K,r,s,w,h1,h2,h3,h4,h5,h6,h7⟩:=h;⟨j,e,K,r,s,w,h1,h2,h3,h4.no hK,h5,h6.no hK,h7⟩
theorem SE.no (h:SE bg NC NS b K0 v0 n i told bA v) (hK:Keep No v v'):SE bg NC NS b K0 v0 n i told bA v':=let ⟨j,e,K,r,s,w,h1,h2,h3,h4,h5,h6,h7,h8⟩:=h;⟨j,e,K,r,s,w,h1,h2,h3,h4.no hK,h5,h6,h7.no hK,h8⟩
theorem SA.no (h:SA bg NC NS b K0 v0 n i told A v) (hK:Keep No v v'):SA bg NC NS b K0 v0 n i told A v':=let ⟨j,e,K,r,s,w,h1,h2,h3,h4,h5⟩:=h;⟨j,e,K,r,s,w,h1,h2,h3,h4.no hK,h5⟩
theorem SF.no (h:SF bg NC NS b K0 v0 told v) (hK:Keep No v v'):SF bg NC NS b K0 v0 told v':=let ⟨e,K,r,h1,h2⟩:=h;⟨e,K,r,h1.no hK,h2⟩
end
section
variable (m:Nat) (w:o_)
theorem um (pb pid call r x:Nat) (h0:w.cell? (S_ pb)=some (b_ pid)) (hc:call<65536) (hr:r<65536) (hx:x<65536):P_ m 98 #[R_ pb,a_ call,.agg #[a_ r,a_ x,.nilFunc]] w λe w'=>Keep No w w'/\e=.returned (.agg #[b_ pid,b_ call,b_ r,b_ x]):=by
 have a:Keep No w ((w.alloc (.cells #[a_ r,a_ x,.nilFunc] 206)).alloc (.cells #[b_ 0,b_ 0,b_ 0,b_ 0] 59)):=((p_ _ _).alloc _).alloc _;have b:=a.has h0;gi_enter func98,ntmps98;gi_wp2;gi_region
 all_goals gi_wp2
 all_goals refine bodyPost_ret (v:=.agg #[b_ pid,b_ call,b_ r,b_ x]) (by simp[results,results98,go_sem]) rfl ?_
 all_goals exact⟨by repeat (first|exact p_ _ _|refine Keep.drew ?_|refine Keep.alloc ?_ _),rfl⟩
theorem wC (kb pb ib L c A pid:Nat) (h5:w.cell? (T_ pb 5)=some (a_ A)) (h8:w.cell? (T_ pb 8)=some (Q_ ib L c)) (h0:w.cell? (S_ pb)=some (b_ pid)) (hp:pid<65536):
  P_ m 96 #[R_ kb,R_ pb,a_ (12:Nat)] w λe w'=>e=.returned (.agg #[a_ pid,a_ 0,.nilFunc])/\Keep No w w':=by
 gi_enter func96,ntmps96;obtain⟨d,t,_⟩:=HY w;have r:=d.has h5;have s:=d.has h8;gi_wp2;generalize p:w.alloc V_=b at*;refine Bi 15 155 ?_;gi_wp2_with (first|(gi_at_call 139;refine(FI _ b.drew 12 0 (by simp)).mono ?_;rintro e w1 ⟨rfl,rfl⟩)|(gi_at_call 138;refine(Jt pb A _ b.drew).mono ?_;rintro e w1 ⟨rfl,rfl⟩));refine CZ ?_ ?_
 .intro W a;have v:=a.has (w:=b.drew) r;have z:=a.has (w:=b.drew) s
  repeat' (refine Ae ?_ ?_)
  all_goals first|exact trivial|gi_wp2_with (first|(gi_at_call 139;refine(FI _ W 12 0 (by simp)).mono ?_;rintro e w1 ⟨rfl,rfl⟩)|(gi_at_call 138;refine(Jt pb A _ W).mono ?_;rintro e w1 ⟨rfl,rfl⟩))
 .intro W a;have l:=a.old (w:=b.drew) t id;have KW:Keep No w W:=d.drew.then a;have ne:∀x,x<w.heap.size->¬At w.heap.size x:=λx q h=>absurd q (by rw[show x=w.heap.size from h];exact Nat.lt_irrefl _)
  gi_wp2_with fail;refine(clone_nil _ W).mono ?_;rintro e w1 ⟨rfl,f⟩;have u:=f.has (KW.has h0);gi_wp2_with fail;refine(Dx _ w1 pid hp).mono ?_;rintro e w2 ⟨rfl,g⟩;obtain⟨B,i,j,n⟩:=Y5 (x:=pid) (y:=0) (g.old (f.old l id) id);gi_wp2_with (refine Dk rfl (.tmp 6) (.tmp 135) 206 rfl rfl rfl i ?_);refine TR pid 0 (by simp[results,results96,go_sem,EF n]) rfl ?_;exact⟨rfl,((KW.then f).then g).trans j (λk o h=>absurd h (ne k o))⟩
theorem wo (K:KS) (b n:Nat) (r:PR) (h:AV K w) (hb:K.ps b=some r) (hn:r.en=false) (o:r.Ok) (hL:r.Ag.length<=128) (Eo:r.P+2<=r.Ag.length) (AU:r.Ag[r.P]?=some 11) (hn1:r.Ag[r.P+1]?=some n):
  P_ m 185 #[.pointer (some (T_ b 5))] w λe w'=>e=.returned (.tuple #[b_ 1,a_ (n:Nat)])/\AV (K.Di b { r with P:=r.P+2 }) w'/\BM K.T K.T w w':=by
 obtain⟨c,ci,q,a,t,l⟩:=h.YF hb hn;have g:=a.le;have p:=h.GG hb 7;simp[PR.arr]at p;have u:=h.bU hb 7;have k:=o.P;have s:w.cell? (T_ c r.P)=some (a_ 11):=(a.cell (by omega)).trans (by rw[Az,List.getElem?_map,AU];rfl);have d1:w.cell? (T_ c (r.P+1))=some (a_ (n:Nat)):=(a.cell (by omega)).trans (by rw[Az,List.getElem?_map,hn1];rfl);clear AU hn1;have w2:IntKind.u16.wrap ((r.P:Int)+2)=(r.P:Int)+2:=by rw[wrap_u16];omega
 have j:=h.like (r':={ r with P:=r.P+2 }) (i:=7) (v:=a_ ((r.P:Int)+2)) hb ⟨rfl,rfl,rfl,rfl,rfl⟩ rfl (h.ps b r hb).bl;have f:=h.Ee hb (i:=7) (v:=a_ ((r.P:Int)+2));gi_enter func185,ntmps185;gi_wp2_with (gi_at_call 138;refine(EM b c ci r.Ag.length 2 r.P _ _ q (by omega) k hL g Eo).mono ?_;rintro e w' ⟨rfl,d⟩;have d:=d.symm;subst d);gi_region
 all_goals gi_wp2
 all_goals (try gi_region)
 all_goals (try gi_wp2)
 all_goals go_ret2
 all_goals exact⟨by simp,j.no (p_ No _).drew,f.then (p_ No _).drew⟩
end
end Go.Fxa
