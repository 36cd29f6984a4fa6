/- What two kernels -/
import Derived.Test.YtmhplpfpcnjekaaGreatA37
import Derived.Test.YtmhplpfpcnjekaaGreatA39
namespace Go.Fxa
open Conc Proofs RowKit Proofs.Tryz
set_option maxRecDepth 1000000
set_option maxHeartbeats 0
variable {w w':o_}{e pid e':Int}{c:Bool}{NC NS QB UA n base:Nat}{t t':Tag}{R:Nat->Nat->Prop}{S:Nat->Prop}{r:PR}{kv ev told:n_}{CU:List Ev}
@[simp] theorem lf24:(24:h_)∈LF:=sN
@[simp] theorem lf26:(26:h_)∈LF:=sN
@[simp] theorem lf27:(27:h_)∈LF:=sN
@[simp] theorem lf28:(28:h_)∈LF:=sN
@[simp] theorem lf29:(29:h_)∈LF:=sN
@[simp] theorem lf64:(64:h_)∈LF:=sN
@[simp] theorem lf65:(65:h_)∈LF:=sN
@[simp] theorem lf66:(66:h_)∈LF:=sN
section
variable (m:Nat)(w:o_)
theorem ZE (v v':n_)(l:List (W_))(h:ai4 w v l)(C:ai4 w v' l)(D:l.length<=100000):O_ m 65 #[v,v'] w λe w'=>e=.returned (.bool true)/\Aa No w w':=by
 obtain⟨s,c,rfl,n⟩:=h;obtain⟨B,t,rfl,g⟩:=C;by_cases p:l.length=0
 .rw[p];gi_enter func65,ntmps65;gi_wp2;refine wpIn_loop_once ?_;gi_wp2;go_ret;exact⟨sJ,Aa.refl _ _⟩
 .obtain⟨b,rfl,_,j⟩:=n wB;obtain⟨q,rfl,_,d⟩:=g wB;clear n g;gi_enter func65,ntmps65;gi_wp2;gi_loopw [5] (λi wr=>∃k:Nat,k<=l.length/\i=b_ k/\Aa No w wr) (λi _=>l.length-(intOf i).toNat)
  case atStart=>exact⟨0,Nat.zero_le _,rfl,Aa.refl _ _⟩
  case round=>
   obtain⟨k,A,rfl,a⟩:=hrel
   by_cases o:k<l.length
   .have f:l[k]?=some l[k]:=JM o;generalize l[k]=r at f;have u:=a.has (j k r f).1;have x:=a.has (j k r f).2;have y:=a.has (d k r f).1;have z:=a.has (d k r f).2;gi_wp2;gi_region
    all_goals gi_wp2
    all_goals go_roundw
    all_goals first|exact⟨k+1,wB,by go_num,a.drew⟩|(simp[intOf];omega)
   .gi_wp2;go_ret;exact⟨sJ,a⟩
end
def aK (w:o_)(v:n_)(l:List Ev):Prop:=∃s c,v=.slice s l.length c/\(0<l.length->∃b,s=some (R_ b)/\∀i x,l[i]?=some x->w.cell? (S_ b (i*4))=some (b_ x.1)/\w.cell? (S_ b (i*4+1))=some (b_ x.2.1)/\w.cell? (S_ b (i*4+2))=some (b_ x.2.2.1)/\w.cell? (S_ b (i*4+3))=some (b_ x.2.2.2))
theorem aK.no {v:n_}{l:List Ev}(h:aK w v l)(f:Aa No w w'):aK w' v l:=let ⟨s,c,e,h⟩:=h;⟨s,c,e,λa=>let ⟨b,e',h⟩:=h a;⟨b,e',λi x d=>let ⟨a1,a2,a3,a4⟩:=h i x d;⟨f.has a1,f.has a2,f.has a3,f.has a4⟩⟩⟩
section
variable (m:Nat)(w:o_)
theorem Vw (v v1 v2:n_)(e1 e2:List Ev)(h:aK w v (e1++e2))(H:aK w v1 e1)(I:aK w v2 e2)(J:e1.length<=100000)(K:e2.length<=100000):O_ m 27 #[v,v1,v2] w λe w'=>e=.returned (.bool true)/\Aa No w w':=by
 obtain⟨s,c,rfl,u⟩:=h;obtain⟨F,D,rfl,g⟩:=H;obtain⟨G,c2,rfl,j⟩:=I;obtain⟨N,hN⟩:∃N,N=(e1++e2).length:=⟨_,rfl⟩;have B:(N:Int)=(e1.length:Int)+(e2.length:Int):=by rw[hN];simp
 have b:∃b,0<N->s=some (R_ b)/\∀i x,(e1++e2)[i]?=some x->w.cell? (S_ b (i*4))=some (b_ x.1)/\w.cell? (S_ b (i*4+1))=some (b_ x.2.1)/\w.cell? (S_ b (i*4+2))=some (b_ x.2.2.1)/\w.cell? (S_ b (i*4+3))=some (b_ x.2.2.2):=by
  by_cases A:0<N
  .obtain⟨b,hb⟩:=u wB;exact⟨b,λ_=>hb⟩
  .exact⟨0,λe=>qx e A⟩
 obtain⟨b,hb⟩:=b;rw[<-hN];clear u;gi_enter func27,ntmps27;gi_wp2;gi_loopw [7] (λi wr=>∃k:Nat,k<=e1.length/\i=b_ k/\Aa No w wr) (λi _=>e1.length-(intOf i).toNat)
 case atStart=>exact⟨0,Nat.zero_le _,rfl,Aa.refl _ _⟩
 case round=>
  obtain⟨k,E,rfl,a⟩:=hrel
  by_cases t:k<e1.length
  .have f:e1[k]?=some e1[k]:=JM t;generalize e1[k]=x at f;obtain⟨rfl,l⟩:=hb wB;obtain⟨y,rfl,d⟩:=g wB;obtain⟨o,p2,p3,p4⟩:=l k x (by rw[List.getElem?_append_left t];exact f);obtain⟨q1,p,q,r⟩:=d k x f;have o:=a.has o;have p2:=a.has p2;have p3:=a.has p3;have p4:=a.has p4;have q1:=a.has q1;have p:=a.has p;have q:=a.has q;have r:=a.has r;have z:(k:Int)<(N:Int):=wB;clear hb g j l d;gi_wp2;gi_region
   all_goals gi_wp2
   all_goals go_roundw
   all_goals first|exact⟨k+1,wB,by go_num,a.drew⟩|(simp[intOf];omega)
  .obtain rfl:k=e1.length:=wB;gi_wp2;gi_loopw [8] (λi wr=>∃k:Nat,k<=e2.length/\i=b_ k/\Aa No w wr) (λi _=>e2.length-(intOf i).toNat)
   case atStart=>exact⟨0,Nat.zero_le _,rfl,a⟩
   case round=>
    obtain⟨k,C,rfl,a⟩:=hrel
    by_cases n:k<e2.length
    .have f:e2[k]?=some e2[k]:=JM n;generalize e2[k]=x at f;obtain⟨rfl,l⟩:=hb wB;obtain⟨y,rfl,d⟩:=j wB;obtain⟨o,p2,p3,p4⟩:=l (e1.length+k) x (by rw[List.getElem?_append_right wB,Nat.add_sub_cancel_left];exact f);obtain⟨q1,p,q,r⟩:=d k x f;have o:=a.has o;have p2:=a.has p2;have p3:=a.has p3;have p4:=a.has p4;have q1:=a.has q1;have p:=a.has p;have q:=a.has q;have r:=a.has r;have z:(e1.length:Int)+(k:Int)<(N:Int):=wB;clear hb g j l d;gi_wp2;gi_region
     all_goals gi_wp2
     all_goals go_roundw
     all_goals first|exact⟨k+1,wB,by go_num,a.drew⟩|(simp[intOf];omega)
    .gi_wp2;go_ret;exact⟨sJ,a⟩
end
theorem KT {k:Nat}{a b c d f g:Int}{i j:n_}(h:w.heap[k]?=some (N_ (Jq a b c d e f g i j) 48)):w.cell? (S_ k 1)=some (b_ b)/\w.cell? (S_ k 2)=some (b_ c)/\w.cell? (S_ k 3)=some (b_ d)/\w.cell? (S_ k 4)=some (b_ e)/\w.cell? (S_ k 5)=some (b_ f)/\w.cell? (S_ k 6)=some (b_ g)/\w.cell? (S_ k 7)=some i/\w.cell? (S_ k 8)=some j:=
 ⟨bce h rfl,bce h rfl,bce h rfl,bce h rfl,bce h rfl,bce h rfl,bce h rfl,bce h rfl⟩
section
variable (m:Nat)(w:o_)
theorem wX {S:Nat->Nat->Prop}(K L:KS)(a b k k':Nat)(r s:PR)(ka:AY K w)(kb:AY L w)(ok:DU NC NS K)(ol:DU QB UA L)(hI:CJ c t t' R S K L)(hR:Ep c R r s)(hg:K.Ar[k]?=some a)(hr:K.ps a=some r)(hg':L.Ar[k']?=some b)(hs:L.ps b=some s):
  O_ m 64 #[Q_ K.kb,Q_ L.kb,b_ r.pid] w λe w'=>e=.returned (.bool true)/\Aa No w w':=by
 have hk:=λm=>(QL m w NC NS K r.pid ka ok).mono λe w2 D=>UU ok hg hr D
 have H:=ok.pr a r hr;have J:r.Af.length<=1000:=by have:=(ok.co.pl a r hr).1;omega
 have o:r.fds.length<=1000:=by
  cases e:r.en
  .rw[H.fds e];omega
  .rw[(H.off e).1];simp
 have z:=hI.BV hR;have E:=λm w1 (i:Aa No w w1)=>(QL m w1 QB UA L s.pid (kb.no i) ol).mono λe w2 D=>UU ol hg' hs D
 rw[<-hR.pid]at E;gi_enter func64,ntmps64;obtain⟨e1,e2,e3,e4,e5⟩:Yp (s.par=r.par)/\Yp (s.A=r.A)/\Yp (s.B=r.B)/\Yp (s.P=r.P)/\Yp (s.st=r.st):=⟨hR.par.symm,hR.A.symm,hR.B.symm,hR.P.symm,hR.st.symm⟩;have e6:Yp (s.Af=r.Af):=hR.Af.symm;have e7:Yp (s.fds=r.fds):=hR.fds.symm
 replace z:Yp _:=z
 have p:(ints r.Af).length<=1000:=by simpa [ints]using J
 clear hR hI H J;gi_wp2_with (first
  |(gi_at_call 20;refine(hk _).mono ?_;rintro e w1 ⟨K1,st,a7,n7,c7,a8,n8,c8,rfl,Z,i7,i8⟩;clear hk;obtain⟨w3,h,M,T⟩:=EK (w:=w1.alloc (.cells Ez 48)) (rb:=w1.heap.size) (a:=r.pid) (b:=r.par) (c:=st) (d:=r.A) (e:=r.B) (f:=r.P) (g:=r.st) (n7:=n7) (c7:=c7) (n8:=n8) (c8:=c8) (a7:=a7) (a8:=a8) (Yw rfl);have O:Aa No w1 w3:=((Aa.refl No w1).alloc (.cells Ez 48)).trans M (λx hx e=>qx (show x=w1.heap.size from e) wB);have KW:Aa No w w3:=K1.then O;clear M)
  |(gi_at_call 20;refine(E _ _ KW).mono ?_;rintro e w2 ⟨C,u,V,m7,X,W,m8,Y,rfl,n,F,G⟩;clear E;obtain rfl:u=st:=n.2.out.trans (z.out.symm.trans Z.2.out.symm);obtain⟨j,q,N,U⟩:=EK (w:=w2.alloc (.cells Ez 48)) (rb:=w2.heap.size) (a:=s.pid) (b:=s.par) (c:=u) (d:=s.A) (e:=s.B) (f:=s.P) (g:=s.st) (n7:=m7) (c7:=X) (n8:=m8) (c8:=Y) (a7:=V) (a8:=W) (Yw rfl);have l:Aa No w2 j:=((Aa.refl No w2).alloc (.cells Ez 48)).trans N (λx hx e=>qx (show x=w2.heap.size from e) wB);have Q:Aa No w1 j:=O.then (C.then l);have KZ:Aa No w j:=KW.then (C.then l);obtain⟨x1,x2,x3,x4,x5,x6,x7,x8⟩:=KT ((C.then l).old T id);obtain⟨I,y2,y3,y4,y5,y6,y7,y8⟩:=KT U;rw[e1.out]at I;rw[e2.out]at y3;rw[e3.out]at y4;rw[e4.out]at y5;rw[e5.out]at y6;rw[e6.out]at F;rw[e7.out]at G;have s7:=λm v (i:Aa No j v)=>Qe m v (.slice a7 n7 c7) (.slice V m7 X) _ _ (((i7.no Q).no i).sl p) (((F.no l).no i).sl p);have s8:=λm v (i:Aa No j v)=>Qe m v (.slice a8 n8 c8) (.slice W m8 Y) _ _ (((i8.no Q).no i).sl o) (((G.no l).no i).sl o);clear N h T U i7 i8 F G Z n)
  |refine BM rfl (.tmp 7) (.tmp 17) 48 rfl rfl rfl h ?_
  |refine BM rfl (.tmp 9) (.tmp 23) 48 rfl rfl rfl q ?_
  |(gi_at_call 21;refine(s7 _ _ (Aa.refl No j)).mono ?_;rintro e w6 ⟨rfl,y⟩;have x8:=y.has x8;have y8:=y.has y8;clear s7)
  |(gi_at_call 21;refine(s8 _ _ y).mono ?_;rintro e w7 ⟨rfl,K7⟩;have KK:=y.then K7;have x1:=KK.has x1;have x2:=KK.has x2;have x3:=KK.has x3;have x4:=KK.has x4;have x5:=KK.has x5;have x6:=KK.has x6;have I:=KK.has I;have y2:=KK.has y2;have y3:=KK.has y3;have y4:=KK.has y4;have y5:=KK.has y5;have y6:=KK.has y6;clear s8));go_ret;exact⟨sJ,KZ.then KK⟩
end
def ig (r:PR):Int×Int×Int×Int:=if r.en then(0,0,0,3)else((r.sw:Nat),r.co,(Aj r.Af.length:Nat),0)
theorem ck3 {s:PR}(h:Ep true R r s):ig r=ig s:=by unfold ig;rw[h.en,h.sw,h.co rfl,h.Af]
theorem U5 {a:Nat}{K:KS}{e:Ending}(ok:DU NC NS K)(k:a∈K.Ar)(j:K.ps a=some r)(h:gZ K r.pid w e w'):Aa No w w'/\e=.returned (.tuple #[.agg #[b_ (ig r).1,b_ (ig r).2.1,b_ (ig r).2.2.1],b_ (ig r).2.2.2]):=by
 obtain⟨g,x,y,z,s,rfl,⟨⟨rfl,h⟩|⟨b,q,d,c,i,f,rfl⟩,rfl,rfl,rfl⟩|⟨rfl,b,q,⟨d,c,i,f⟩,rfl,rfl,rfl⟩⟩:=h
 .exact qx rfl (h a k r j)
 .obtain rfl:=ok.one b q a r d k c j wB;rw[j]at c;cases c;exact⟨g,by simp[ig,f]⟩
 .obtain rfl:=ok.one b q a r d k c j wB;rw[j]at c;cases c;exact⟨g,by simp[ig,f]⟩
section
variable (m:Nat)(w:o_)
theorem wY {S:Nat->Nat->Prop}(K L:KS)(ka:AY K w)(kb:AY L w)(ok:DU NC NS K)(ol:DU QB UA L)(hI:CJ true t t' R S K L)(hc1:K.core.length<=1000)(hc2:K.swap.length<=1000):
  O_ m 28 #[Q_ K.kb,Q_ L.kb] w λe w'=>e=.returned (.bool true)/\Aa No w w':=by
 have hl:=ok.len;have hl':=ol.len;gi_enter func28,ntmps28;gi_wp2_with fail;refine(uw _ w K ka ok.th hl).mono ?_;rintro e w1 ⟨W,v,rfl,p⟩;obtain⟨s,c,hv⟩:∃s c,v=.slice s K.Ar.length c:=by
  obtain⟨e,e2⟩|⟨g,cap,d,e,_⟩:=p.2
  .exact⟨none,0,by rw[e,e2]⟩
  .exact⟨_,_,e⟩
 subst hv;gi_wp2;gi_loopw [6] (λi wr=>∃k:Nat,k<=K.Ar.length/\i=b_ k/\Aa No w1 wr) (λi _=>K.Ar.length-(intOf i).toNat)
 case atStart=>exact⟨0,wB,rfl,Aa.refl _ _⟩
 case round=>
  obtain⟨k,hk,rfl,KK1⟩:=hrel
  have KK:Aa No w wr:=W.then KK1
  by_cases V:k<K.Ar.length
  .have n:K.Ar[k]?=some K.Ar[k]:=JM V;generalize K.Ar[k]=a at n;obtain⟨r,I⟩:=AY.mem ok.th n;have h:=hI.Ar.get k;rw[n]at h;obtain⟨b,G,F⟩:=h.dh rfl;obtain⟨s',hs,hR⟩:=hI.get F I;obtain⟨g,cap,d,rfl,hgb⟩:∃g cap d,s=some (R_ g)/\w1.heap[g]?=some (N_ d cap):=by
    obtain⟨_,e2⟩|⟨g,cap,d,e,_,J,_⟩:=p.2
    .omega
    .cases e;exact⟨g,_,d,rfl,J⟩
   have O:wr.cell? (S_ g k)=some (b_ r.pid):=KK1.has ((p.cellAt k wB).trans (by simp[XB,n,I]));have B:=λm=>(Rt m wr K NC r.pid (ka.no KK) ok.th ok.co wB).mono λe w2 H=>U5 ok (t_ n) I H
   have l:=λm w2 (E:Aa No wr w2)=>(Rt m w2 L QB s'.pid ((kb.no KK).no E) ol.th ol.co wB).mono λe w3 H=>U5 ol (t_ G) hs H
   rw[<-hR.pid,<-ck3 hR]at l;generalize ig r=q at B l;obtain⟨q1,Q,T,q4⟩:=q;simp only at B l;clear hR h p;gi_wp2_with (first
    |(gi_at_call 22;refine(B _).mono ?_;rintro e w2 ⟨u,rfl⟩;clear B;obtain⟨w3,f,j,N⟩:=Oq (w:=w2.alloc (.cells #[.int .i64 0,.int .i64 0,.int .i64 0] 54)) (rb:=w2.heap.size) (x:=q1) (y:=Q) (z:=T) (Yw rfl);have X:Aa No w2 w3:=((Aa.refl No w2).alloc (.cells #[.int .i64 0,.int .i64 0,.int .i64 0] 54)).trans j (λx J e=>qx (show x=w2.heap.size from e) wB);have C:Aa No wr w3:=u.then X;have d1:=C.has O;clear j O)
    |(gi_at_call 22;refine(l _ _ C).mono ?_;rintro e w4 ⟨A,rfl⟩;clear l;obtain⟨U,o,M,Z⟩:=Oq (w:=w4.alloc (.cells #[.int .i64 0,.int .i64 0,.int .i64 0] 54)) (rb:=w4.heap.size) (x:=q1) (y:=Q) (z:=T) (Yw rfl);have KC:Aa No w4 U:=((Aa.refl No w4).alloc (.cells #[.int .i64 0,.int .i64 0,.int .i64 0] 54)).trans M (λx J e=>qx (show x=w4.heap.size from e) wB);have Y:Aa No w1 U:=(KK1.then C).then (A.then KC);obtain⟨x0,x1,x2⟩:=lV ((A.then KC).old N id);obtain⟨y0,y1,y2⟩:=lV Z;clear M f N d1)
    |refine BM rfl (.tmp 7) (.tmp 31) 54 rfl rfl rfl f ?_
    |refine BM rfl (.tmp 9) (.tmp 40) 54 rfl rfl rfl o ?_);go_roundw
   case rel=>exact⟨k+1,wB,by go_num,Y⟩
   case measure=>simp[intOf];omega
  .have P:=λm=>iW m wr K (ka.no KK) hc1 hc2
   have D:=λm w2 (E:Aa No wr w2)=>iW m w2 L ((kb.no KK).no E) (by rw[<-hI.core rfl];exact hc1) (by rw[<-hI.swap];exact hc2)
   rw[<-hI.core rfl,<-hI.swap]at D;obtain rfl:k=K.Ar.length:=wB;gi_wp2_with (first|(gi_at_call 59;refine(P _).mono ?_;rintro e w2 ⟨u,v1,v2,rfl,r1,r2⟩;clear P)|(gi_at_call 59;refine(D _ _ u).mono ?_;rintro e w3 ⟨j,v3,v4,rfl,r3,r4⟩;clear D;have sr:=λm=>ZE m w3 v1 v3 K.core (Ya (Rx r1 j)) (Ya r3) wB)|(gi_at_call 65;refine(sr _).mono ?_;rintro e w4 ⟨rfl,A⟩));go_ret;exact⟨sJ,((KK.then u).then j).then A⟩
end
def Both (c:Bool)(NC NS QB UA:Nat)(K L:KS)(w:o_)(K' L':KS)(w':o_):Prop:=Two c NC NS QB UA K' L' w'/\K'.kb=K.kb/\L'.kb=L.kb/\Aa (λk=>K.T k≠(0,0)\/L.T k≠(0,0)) w w'/\∀k,k<w.heap.size->K'.T k=K.T k/\L'.T k=L.T k
section
variable {c:Bool}{NC NS QB UA:Nat}{K L K' L':KS}{w w1 w':o_}
theorem Two.both (h:Two c NC NS QB UA K L w)(k1:AY K' w1)(m1:BZ K K')(c1:Cb NC (0,0) K')(b:BQ K.T K'.T w w1)(k2:AY L' w')(m2:BZ L L')(c2:Cb QB (0,0) L')(d:BQ L.T L'.T w1 w')(f:∃t t' R S,CJ c t t' R S K' L'/\Jo t t' R K' L'):Both c NC NS QB UA K L w K' L' w':=by
 have d1:=h.dj.GZ h.kb b;refine⟨⟨k1.other d d1.symm,k2,h.ok.GZ m1 c1,h.ol.GZ m2 c2,(d1.symm.GZ k1 d).symm,f⟩,m1.kb,m2.kb,?_,λk a=>⟨CG.fresh b k a,CG.fresh d k (Nat.lt_of_lt_of_le a (CG.keep b).size)⟩⟩;exact((Aa.refl (λk=>K.T k≠(0,0)\/L.T k≠(0,0)) w).trans (CG.keep b) (λk _ e=>Or.inl e)).trans (CG.keep d) (λk _ e=>Or.inr e)
theorem Two.outs (h:Two c NC NS QB UA K L w)(f:Om K.T K'.T)(i:Om L.T L'.T)(b:ay5 K pid e K')(d:ay5 L pid e' L'):e=e'/\∃t t' R S,CJ c t t' R S K' L'/\Jo t t' R K' L':=by
 obtain⟨t,t',R,S,hI,g⟩:=h.al;obtain⟨hN,a⟩:=bh7 hI h.ol b d;exact⟨a,t,t',R,S,hN,g.ext f i⟩
theorem Two.ins (h:Two c NC NS QB UA K L w)(f:Om K.T K'.T)(i:Om L.T L'.T)(b:InX K pid e K')(d:InX L pid e' L'):e=e'/\∃t t' R S,CJ c t t' R S K' L'/\Jo t t' R K' L':=by
 obtain⟨t,t',R,S,hI,g⟩:=h.al;obtain⟨hN,a⟩:=bw6 hI h.ol b d;exact⟨a,t,t',R,S,hN,g.ext f i⟩
end
section
variable (m:Nat)(w:o_)
theorem Α (K L:KS)(pid kind:Int)(h:Two c NC NS QB UA K L w):
  O_ m 26 #[Q_ K.kb,Q_ L.kb,b_ pid,b_ kind] w λe w'=>∃(x:Int) (K' B:KS),e=.returned (.tuple #[b_ x,b_ x])/\Both c NC NS QB UA K L w K' B w':=by
 have z:=h.ok.len;have A:=h.ol.len;by_cases v:kind=2
 .subst v;have l:=λm=>ag2 m w K NC pid h.ka h.ok.th h.ok.nd h.ok.co wB
  have n:=λm w1 (k:AY L w1)=>ag2 m w1 L QB pid k h.ol.th h.ol.nd h.ol.co wB
  gi_enter func26,ntmps26;gi_wp2_with (first|(gi_at_call 17;refine(l _).mono ?_;rintro e w1 ⟨u,rfl,o,k1,m1,s,a,d⟩;replace d:Yp _:=d;clear l;have t:=h.kb.other a h.dj)|(gi_at_call 17;refine(n _ _ t).mono ?_;rintro e w2 ⟨y,rfl,p,k2,m2,c2,j,f⟩;replace f:Yp _:=f;clear n));go_ret2;obtain⟨rfl,q⟩:=h.outs a.ext j.ext (d.out.imp id λ⟨e,b,r,g,_,i⟩=>⟨e,b,r,g,i⟩) (f.out.imp id λ⟨e,b,r,g,_,i⟩=>⟨e,b,r,g,i⟩);exact⟨u,o,p,sJ,h.both k1 m1 s a k2 m2 c2 j q⟩
 .have l:=λm=>br2 m w K NC pid h.ka h.ok.th h.ok.nd h.ok.co wB
  have n:=λm w1 (k:AY L w1)=>br2 m w1 L QB pid k h.ol.th h.ol.nd h.ol.co wB
  gi_enter func26,ntmps26;gi_wp2_with (first|(gi_at_call 18;refine(l _).mono ?_;rintro e w1 ⟨u,rfl,o,k1,m1,s,a,d⟩;replace d:Yp _:=d;clear l;have t:=h.kb.other a h.dj)|(gi_at_call 18;refine(n _ _ t).mono ?_;rintro e w2 ⟨y,rfl,p,k2,m2,c2,j,f⟩;replace f:Yp _:=f;clear n));go_ret2;obtain⟨rfl,q⟩:=h.ins a.ext j.ext (d.out.imp id λ⟨e,b,r,g,_,i⟩=>⟨e,b,r,g,i⟩) (f.out.imp id λ⟨e,b,r,g,_,i⟩=>⟨e,b,r,g,i⟩);exact⟨u,o,p,sJ,h.both k1 m1 s a k2 m2 c2 j q⟩
end
def FB (w:o_)(b o i:Nat)(kd pid nn:Int):Prop:=((-9223372036854775808<=kd/\kd<=9223372036854775807)/\(-9223372036854775808<=nn/\nn<=9223372036854775807))/\w.cell? (S_ b (o+i*3))=some (b_ kd)/\w.cell? (S_ b (o+i*3+1))=some (b_ pid)/\w.cell? (S_ b (o+i*3+2))=some (b_ nn)
theorem FB.no {b o i:Nat}{kd d:Int}(h:FB w b o i kd pid d)(a:Aa No w w'):FB w' b o i kd pid d:=⟨h.1,a.has h.2.1,a.has h.2.2.1,a.has h.2.2.2⟩
def WS (X:Nat)(core swap:Int)(s fa:d_ f_)(n c nf fc:Nat)(w:o_):Prop:=w.heap[X]?=some (N_ #[b_ core,b_ swap,.slice s n c,.slice fa nf fc] 25)
section
variable {core Hm swap:Int}{n nf:Nat}{f:Nat->Int}{ff:Nat->n_×Nat×(Nat->Int)}{w w1 w2 w3 w':o_}{e:Ending}{K L:KS}{c:Bool}
def Ym (core swap:Int)(n nf:Nat)(f:Nat->Int)(ff:Nat->n_×Nat×(Nat->Int))(w:o_)(K:KS)(w':o_):Prop:=∃b ib fb C M,AY K w'/\DU C M K/\K.Ar=[b]/\K.ps b=some (EI ib fb (iE n (8*Aj n) λi=>(f i).toNat))/\(∀k,K.T k≠(0,0)->w.heap.size<=k)/\core=(C:Nat)/\swap=(M:Nat)/\16<=C/\ay6 K b M (8*Aj n)/\UL core swap n f/\ay7 K C nf ff
def ai6 (core swap:Int)(n nf:Nat)(f:Nat->Int)(ff:Nat->n_×Nat×(Nat->Int)):Prop:=JF nf ff->¬UL core swap n f
def VN (core swap:Int)(n nf:Nat)(f:Nat->Int)(ff:Nat->n_×Nat×(Nat->Int))(w:o_)(kv ev:n_)(w':o_):Prop:=(kv=.pointer none/\ev=b_ 1/\ai6 core swap n nf f ff)\/∃K,kv=ptr K.kb/\ev=b_ 0/\Ym core swap n nf f ff w K w'
theorem jL.cut (h:jL core swap n nf f ff w e w'):Aa No w w'/\∃kv ev,e=.returned (.tuple #[kv,ev])/\VN core swap n nf f ff w kv ev w':=by
 obtain⟨c,⟨e,a⟩|⟨K,b,g,d,C,M,e,a⟩⟩:=h
 .exact⟨c,_,_,e,.inl ⟨rfl,rfl,a⟩⟩
 .exact⟨c,_,_,e,.inr ⟨K,rfl,rfl,b,g,d,C,M,a⟩⟩
theorem Ym.no (h:Ym core swap n nf f ff w K w')(i:ai6 Hm swap n nf f ff)(d:16<=Hm)(g:Hm<=64):False:=by
 obtain⟨_,_,_,_,_,_,_,_,_,_,_,_,_,_,a,b⟩:=h;exact i b.2.2.1 ⟨⟨d,g,a.1.2.2.1,a.1.2.2.2⟩,a.2⟩
theorem Ym.not (h:Ym core swap n nf f ff w K w')(d:ai6 core swap n nf f ff):False:=by
 obtain⟨_,_,_,_,_,_,_,_,_,_,_,_,_,_,b,a⟩:=h;exact d a.2.2.1 b
theorem Ym.keep (h:Ym core swap n nf f ff w K w1)(o:Aa S w1 w2)(p:∀k,S k->k<w.heap.size):Ym core swap n nf f ff w K w2:=by
 obtain⟨b,m,g,C,M,d,ok,i,j,c,l⟩:=h;refine⟨b,m,g,C,M,d.keep (o.on λk _ e=>?_) λb hb=>d.lt b (lN o.size hb),ok,i,j,c,l⟩;cases Decidable.em (K.T k=(0,0))with
 |inl a=>exact a
 |inr a=>exact qx (c k a) (by have:=p k e;omega)
theorem VN.keep (h:VN core swap n nf f ff w kv ev w1)(d:Aa S w1 w2)(g:∀k,S k->k<w.heap.size):VN core swap n nf f ff w kv ev w2:=h.imp id λ⟨K,a,b,c⟩=>⟨K,a,b,c.keep d g⟩
theorem VN.no (h:VN core swap n nf f ff w kv ev w1)(a:Aa No w1 w2):VN core swap n nf f ff w kv ev w2:=h.keep a λ_ e=>e.elim
end
structure OM (c:Bool)(C M C' M':Nat)(v0:o_)(K L:KS)(v:o_):Prop where
 two:Two c C M C' M' K L v
 k0:Aa No v0 v
 tk:∀k,K.T k≠(0,0)->v0.heap.size<=k
 tl:∀k,L.T k≠(0,0)->v0.heap.size<=k
section
variable {c:Bool}{C M C' M':Nat}{v0 v v' v1 v2 w w':o_}{K L K' L' K1 L1:KS}
theorem OM.no (h:OM c C M C' M' v0 K L v)(a:Aa No v v'):OM c C M C' M' v0 K L v':=⟨h.two.no a,h.k0.then a,h.tk,h.tl⟩
theorem OM.to (h:OM c C M C' M' v0 K L v)(b:Two c C M C' M' K' L' v')(d:Aa (λk=>K.T k≠(0,0)\/L.T k≠(0,0)) v v')(hT:∀k,k<v.heap.size->K'.T k=K.T k/\L'.T k=L.T k):OM c C M C' M' v0 K' L' v':=by
 refine⟨b,h.k0.trans d (λk a e=>?_),λk e=>?_,λk e=>?_⟩
 .obtain e|e:=e
  .exact qx (h.tk k e) wB
  .exact qx (h.tl k e) wB
 .by_cases a:k<v.heap.size
  .rw[(hT k a).1]at e;exact h.tk k e
  .have:=h.k0.size;omega
 .by_cases a:k<v.heap.size
  .rw[(hT k a).2]at e;exact h.tl k e
  .have:=h.k0.size;omega
theorem OM.both (h:OM c C M C' M' v0 K L v)(hB:Both c C M C' M' K L v K' L' v'):OM c C M C' M' v0 K' L' v':=h.to hB.1 hB.2.2.2.1 hB.2.2.2.2
theorem Both.from (h:Both c C M C' M' K L v1 K' L' v')(b:Aa No v v1):Both c C M C' M' K L v K' L' v':=⟨h.1,h.2.1,h.2.2.1,((Aa.refl _ v).trans b λ_ _ e=>e.elim).trans h.2.2.2.1 λ_ _ e=>e,λk a=>h.2.2.2.2 k (Nat.lt_of_lt_of_le a b.size)⟩
theorem OM.ae1 (h:OM false C M C' M' v0 K L v)(k2:AY L' v')(m2:BZ L L')(c2:Cb C' (0,0) L')(d:BQ L.T L'.T v v'):OM false C M C' M' v0 K L' v':=by
 obtain⟨t,b,R,S,hI,g⟩:=h.two.al;refine h.to ⟨h.two.ka.other d h.two.dj.symm,k2,h.two.ok,h.two.ol.GZ m2 c2,(h.two.dj.symm.GZ h.two.ka d).symm,t,b,R,S,hI.ae1 m2,g.ext (λ_ _=>rfl) d.ext⟩ ?_ λk a=>⟨rfl,CG.fresh d k a⟩
 exact(Aa.refl (λk=>K.T k≠(0,0)\/L.T k≠(0,0)) v).trans (CG.keep d) (λk _ e=>Or.inr e)
theorem Ym.two {core y swap:Int}{D:Nat}{f:Nat->Int}{z:Nat->n_×Nat×(Nat->Int)}(E:Ym core swap n D f z w K v1)(H:v0.heap.size<=w.heap.size)(B:Aa No v0 v1)(A:Aa No v1 v2)(F:Ym y swap n D f z v1 L v2)(G:c=true->core=y):∃C M C' M',OM c C M C' M' v0 K L v2:=by
 obtain⟨b,x,v,C,M,a,ok,q,r,t,rfl,rfl,_,o,_,i⟩:=id E;obtain⟨u,m,l,C',M',d,ol,p2,s,h,rfl,e2,_,p,_,j⟩:=F;obtain rfl:M=M':=wB
 obtain⟨hI,g⟩:=bh8 (c:=c) (λe=>by have:=G e;omega) a d ok ol q p2 r s o p i j;exact⟨C,M,C',M,⟨a.no A,d,ok,ol,Dj.new a h,_,_,_,_,hI,g⟩,B.then A,λk e=>lN H (t k e),λk e=>lN B.size (h k e)⟩
theorem Qh {w w':o_}{e:j_}{size:Nat}{v:n_}{xs:U_}(h:w.ownsRow base e size v n xs)(j:Aa S w w')(k:∀g,v.ownBlock=some g->¬S g):w'.ownsRow base e size v n xs:=by
 obtain⟨i,f⟩:=h;refine⟨i,?_⟩;obtain f|⟨g,cap,a,rfl,b,c,d⟩:=f
 .exact .inl f
 .exact .inr ⟨g,cap,a,rfl,b,j.old c (k g rfl),d⟩
theorem al0:∀{l:List Ev} {i q:Nat} {x:Ev},l[i]?=some x->q<4->(SS l)[i*4+q]?=(iC x)[q]?
 |[],i,q,x,h,_=>by simp at h
 |y::l,0,q,x,h,hq=>by
  obtain rfl:y=x:=by simpa using h
  show(iC y++SS l)[0*4+q]?=_
  rw[Nat.zero_mul,Nat.zero_add,List.getElem?_append_left (by simp[iC];omega)]
 |y::l,i+1,q,x,h,hq=>by
  show(iC y++SS l)[(i+1)*4+q]?=_
  rw[List.getElem?_append_right (by simp[iC];omega),show(i+1)*4+q-(iC y).length=i*4+q by simp[iC];omega,al0 (by simpa using h) hq]
theorem TS {w:o_}(h:w.ownsRow base 59 4 told CU.length (SS CU)):aK w told CU:=by
 obtain⟨e,e2⟩|⟨g,cap,b,e,_⟩:=id h.2
 .exact⟨none,0,by rw[e,e2],λd=>qx d wB⟩
 .subst e;refine⟨_,_,rfl,λ_=>⟨g,rfl,λi x a=>?_⟩⟩;have hi:=(Oc.1 a).1;have key:∀j u,j<4->(iC x)[j]?=some u->w.cell? (S_ g (i*4+j))=some u:=λj u c f=>(h.cellAt (i*4+j) wB).trans ((al0 a c).trans f)
  exact⟨key 0 _ wB rfl,key 1 _ wB rfl,key 2 _ wB rfl,key 3 _ wB rfl⟩
theorem GV.len {n:Int}(h:GV NC NS K pid n v told e v' K' CU):CU.length<=2000:=by
 obtain⟨_,_,rfl,_⟩|⟨b,r,_,_,_,⟨_,_,rfl,_⟩|⟨_,_,_,rfl,_⟩|⟨i,_,_,⟨d,_,a|⟨j,e1,e2,f,g,a,c,rfl⟩⟩,_⟩⟩:=h.x
 .simp
 .simp
 .simp
 .have:=a.len;omega
 .have:=a.len;have:e2.length<=1:=by
   obtain⟨_,_,_,_,_,_,⟨_,_,_,_,rfl⟩|⟨_,_,_,_,_,_,_,_,⟨_,_,rfl,_⟩|⟨_,rfl,_⟩⟩⟩:=c<;>simp
  simp;omega
theorem OM.pick {n e1 e2:Int}{o p:n_}{i m:List Ev}(h:OM c C M C' M' v0 K L v)(j:GV C M K pid n v o e1 v1 K1 i)(l:GV C' M' L pid n v1 p e2 v2 L1 m):OM c C M C' M' v0 K1 L1 v2/\i=m/\e1=e2/\aK v2 o i/\aK v2 p m:=by
 obtain⟨hT,b,f⟩:=h.two.pick j l;refine⟨h.to hT (((Aa.refl _ v).trans (CG.keep j.mv) (λk _ e=>Or.inl e)).trans (CG.keep l.mv) (λk _ e=>Or.inr e)) λk a=>⟨CG.fresh j.mv k a,CG.fresh l.mv k (Nat.lt_of_lt_of_le a (CG.keep j.mv).size)⟩,b,f,TS (base:=v.heap.size) ?_,TS l.told.row⟩;exact Qh j.told.row (CG.keep l.mv) λg d e=>e (h.two.kb.lt g (j.told.row.lt g d).1)
end
end Go.Fxa
