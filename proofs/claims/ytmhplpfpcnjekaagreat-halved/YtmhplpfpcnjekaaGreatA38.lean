/- Pick of the program, from its -/
import Derived.Test.YtmhplpfpcnjekaaGreatA34
import Derived.Test.YtmhplpfpcnjekaaGreatA37
namespace Go.Fxa
open Conc Proofs RowKit Proofs.Tryz
set_option maxRecDepth 1000000
set_option maxHeartbeats 0
variable {NC NS base k b:Nat}{K K':KS}{pid n e:Int}{v told:n_}{v' w w':o_}{CU:List Ev}{r:PR}{l:List Int}
theorem Ϗ:(prog.funcs[19]?).any (·.norace)=false:=sU
theorem VU:ES prog 19=Tryz.f19.body.getD .skip:=sU
def aG (P:l_)(i:Nat):Code:=piece (behind i (ES P 19))
def pkX (P:l_):Code:=behind 2 (ES P 19)
def pkZ (P:l_):Code:=behind 5 (ES P 19)
theorem ap0:(aG prog 1).AP (Bh prog)=true:=sU
theorem nT:(aG prog 2).AP (Bh prog)=true:=sU
theorem nS:(aG prog 3).AP (Bh prog)=true:=sU
theorem ao9:(aG prog 4).AP (Bh prog)=true:=sU
theorem be8:pkX prog=(aG prog 2).seq ((aG prog 3).seq ((aG prog 4).seq (pkZ prog))):=sU
section
variable (kp pid n:n_)(cs:Z_)
def pA (P:l_:=prog):Frame×Z_:=run P 6 (Frame.enter P 19 #[kp,pid,n] .normal,cs)
theorem cv5:AU prog 6 (Frame.enter prog 19 #[kp,pid,n] .normal,cs)=some []:=sU
theorem cv4:Ea (pA kp pid n cs)=(19,[.code (aG prog 1),.code (pkX prog)],[],.run,.normal,none,cs):=sU
theorem cv3:X3 (pA kp pid n cs) [0,1,2]=[kp,pid,n]:=sU
theorem cv2:(pA kp pid n cs).1.tmps.size=27:=sU
variable (pa:f_)(f:Y_)(told:n_)(c0:Frame)
def pB (P:l_:=prog):Frame×Z_:=(Frame.mk 19 (TN 27 (AQ f [(0,kp),(2,n),(8,pv pa)])) [.code (pkZ P)] [] .run .normal none,cs)
def pC (P:l_:=prog):Frame:=(below (run P 6 (pB kp n cs pa f P))).1
theorem cv1:AU prog 6 (pB kp n cs pa f)=some []:=sU
theorem cv0:run prog 6 (pB kp n cs pa f)=(Frame.enter prog 56 #[kp,pv pa,n] .normal,pC kp n cs pa f::cs):=sU
theorem cu9:AU prog 5 ((pC kp n (c0::cs) pa f).finish told,c0::cs)=some []:=sU
theorem cu8:run prog 5 ((pC kp n (c0::cs) pa f).finish told,c0::cs)=(c0.finish (.tuple #[told,b_ 0]),cs):=sU
theorem bq9 (e:Int)(todo:List Item):AU prog 1 (Frame.mk 19 (TN 27 (AQ f [(6,told),(7,b_ e)])) todo [] .returning .normal none,c0::cs)=some []:=sU
theorem bq8 (e:Int)(todo:List Item):run prog 1 (Frame.mk 19 (TN 27 (AQ f [(6,told),(7,b_ e)])) todo [] .returning .normal none,c0::cs)=(c0.finish (.tuple #[told,b_ e]),cs):=sU
end
theorem ck6 (a pid n:n_)(cs:Z_):pA a pid n cs=(Frame.mk 19 (TN 27 (AQ (slot (pA a pid n cs)) [(0,a),(1,pid),(2,n)])) [.code (aG prog 1),.code (pkX prog)] [] .run .normal none,cs):=
 at_toldM (l:=[(0,a),(1,pid),(2,n)]) (cv4 a pid n cs) (cv3 a pid n cs) (cv2 a pid n cs)
def ay4 (e:Int)(w:o_)(tm:X_)(w':o_):Prop:=(∃g,tm=TN 27 (AQ g [(6,.slice none 0 0),(7,b_ e)]))/\Aa No w w'
def af0 (kp n p:n_)(w:o_)(tm:X_)(w':o_):Prop:=(∃g,tm=TN 27 (AQ g [(0,kp),(2,n),(8,p)]))/\Aa No w w'
def Xz (f:Y_)(a b c d:n_):X_:=#[a,b,c,f 3,f 4,f 5,f 6,f 7,d,f 9,f 10,f 11,f 12,f 13,f 14,f 15,f 16,f 17,f 18,f 19,f 20,f 21,f 22,f 23,f 24,f 25,f 26]
section
variable (m:Nat)(w:o_)(f:Y_)
def bn2 (K:KS)(pid:Int)(n:n_)(w:o_)(tm:X_)(w':o_):Prop:=∃v,μ K pid v/\af0 (ptr K.kb) n v w tm w'
theorem ϲ (K:KS)(pid:Int)(n:n_)(h:AY K w)(hT:K.ED)(c:K.Ar.length<=12):(aG prog 1).wpIn NF m prog (Ends (bn2 K pid n w)) ⟨TN 27 (AQ f [(0,ptr K.kb),(1,b_ pid),(2,n)]),[]⟩ w:=by
 unfold aG;rw[VU];dsimp only[Tryz.f19,Option.getD,behind,piece];show Code.wpIn (Fence.list LF none) m prog _ _ ⟨Xz f (ptr K.kb) (b_ pid) n (f 8),[]⟩ _;unfold Xz ptr;gi_wp2_with fail;refine(TQ _ w K pid h hT wB).mono ?_;rintro e w2 ⟨b,v,rfl,a⟩;gi_wp2;exact⟨rfl,rfl,v,a,⟨_,BH rfl (by simp[ptr])⟩,b⟩
theorem ap2 (a n:n_):(aG prog 2).wpIn NF m prog (SX (ay4 2 w)) ⟨TN 27 (AQ f [(0,a),(2,n),(8,.pointer none)]),[]⟩ w:=by
 unfold aG;rw[VU];dsimp only[Tryz.f19,Option.getD,behind,piece];show Code.wpIn (Fence.list LF none) m prog _ _ ⟨Xz f a (f 1) n (.pointer none),[]⟩ _;unfold Xz;gi_wp2;exact⟨rfl,rfl,⟨_,BH rfl sJ⟩,Aa.refl _ _⟩
theorem bf1 (a n:n_)(pa:f_):(aG prog 2).wpIn NF m prog (Ends (af0 a n (.pointer (some pa)) w)) ⟨TN 27 (AQ f [(0,a),(2,n),(8,.pointer (some pa))]),[]⟩ w:=by
 unfold aG;rw[VU];dsimp only[Tryz.f19,Option.getD,behind,piece];show Code.wpIn (Fence.list LF none) m prog _ _ ⟨Xz f a (f 1) n (.pointer (some pa)),[]⟩ _;unfold Xz;gi_wp2;exact⟨rfl,rfl,⟨_,BH rfl sJ⟩,Aa.refl _ _⟩
theorem ap1 (d p:n_)(n:Int)(c:¬(1<=n/\n<=1000)):(aG prog 3).wpIn NF m prog (SX (ay4 4 w)) ⟨TN 27 (AQ f [(0,d),(2,b_ n),(8,p)]),[]⟩ w:=by
 unfold aG;rw[VU];dsimp only[Tryz.f19,Option.getD,behind,piece];show Code.wpIn (Fence.list LF none) m prog _ _ ⟨Xz f d (f 1) (b_ n) p,[]⟩ _;unfold Xz;by_cases a:n<1
 .clear c;gi_wp2;exact⟨rfl,rfl,⟨_,BH rfl sJ⟩,Aa.refl _ _⟩
 .have b:1000<n:=wB
  clear c;gi_wp2;exact⟨rfl,rfl,⟨_,BH rfl sJ⟩,Aa.refl _ _⟩
theorem bf0 (a p:n_)(n:Int)(c:¬n<1)(d:¬1000<n):(aG prog 3).wpIn NF m prog (Ends (af0 a (b_ n) p w)) ⟨TN 27 (AQ f [(0,a),(2,b_ n),(8,p)]),[]⟩ w:=by
 unfold aG;rw[VU];dsimp only[Tryz.f19,Option.getD,behind,piece];show Code.wpIn (Fence.list LF none) m prog _ _ ⟨Xz f a (f 1) (b_ n) p,[]⟩ _;unfold Xz;gi_wp2;exact⟨rfl,rfl,⟨_,BH rfl sJ⟩,Aa.refl _ _⟩
def dc4 (K:KS)(kp n:n_)(b:Nat)(r:PR)(w:o_)(e:Exit)(a:Act)(w':o_):Prop:=a.defers=[]/\((e=.normal/\K.BV r=0/\af0 kp n (ptr b) w a.tmps w')\/(e=.ret/\K.BV r≠0/\ay4 3 w a.tmps w'))
theorem be9 (q n:n_)(K:KS)(b:Nat)(r:PR)(h:AY K w)(hT:K.ED)(t:K.Ar.length<=12)(hb:K.ps b=some r):(aG prog 4).wpIn NF m prog (dc4 K q n b r w) ⟨TN 27 (AQ f [(0,q),(2,n),(8,ptr b)]),[]⟩ w:=by
 unfold aG;rw[VU];dsimp only[Tryz.f19,Option.getD,behind,piece];show Code.wpIn (Fence.list LF none) m prog _ _ ⟨Xz f q (f 1) n (ptr b),[]⟩ _;unfold Xz ptr;have p:=λm=>jq m w K b r h hT hb wB
 gi_wp2_with fail;refine(p _).mono ?_;rintro e w2 ⟨j,s,rfl,o,d⟩;clear o;have a:s=0->Yp (K.BV r=0):=λe=>d.out.symm.trans e
 have c:s≠0->Yp (K.BV r≠0):=λe k=>e (d.out.trans k)
 clear d;by_cases g:s=0
 .have i:=a g;clear a c;subst g;gi_wp2;exact⟨rfl,.inl ⟨rfl,i,⟨_,BH rfl (by simp[ptr])⟩,j⟩⟩
 .have i:=c g;clear a c;have l:(s==0)=false:=by simpa using g
  gi_wp2;exact⟨rfl,.inr ⟨rfl,i,⟨_,BH rfl sJ⟩,j⟩⟩
end
def LW (K:KS)(pid n:Int)(CU:List Ev)(e:Int)(K':KS):Prop:=
 ((∀b∈K.Ar,∀r,K.ps b=some r->(r.pid:Int)≠pid)/\e=2/\CU=[]/\K'=K)\/∃b r,b∈K.Ar/\K.ps b=some r/\(r.pid:Int)=pid/\
  ((¬(1<=n/\n<=1000)/\e=4/\CU=[]/\K'=K)\/((1<=n/\n<=1000)/\K.BV r≠0/\e=3/\CU=[]/\K'=K)\/((1<=n/\n<=1000)/\K.BV r=0/\e=0/\ϕ b n.toNat K CU K'/\Rel b K K'))
structure GV (NC NS:Nat)(K:KS)(pid n:Int)(v:o_)(told:n_)(e:Int)(v':o_)(K':KS)(CU:List Ev):Prop where
 ka:AY K' v'
 ok:DU NC NS K'
 mv:BQ K.T K'.T v v'
 told:WQ v.heap.size K'.T told v' CU
 x:LW K pid n CU e K'
theorem GV.rel {v:o_}(h:GV NC NS K pid n v told e v' K' CU):K'=K\/∃b r,b∈K.Ar/\K.ps b=some r/\(r.pid:Int)=pid/\Rel b K K':=by
 obtain⟨_,_,_,e⟩|⟨b,r,a,c,d,⟨_,_,_,e⟩|⟨_,_,_,_,e⟩|⟨_,_,_,_,hR⟩⟩:=h.x
 .exact .inl e
 .exact .inl e
 .exact .inl e
 .exact .inr ⟨b,r,a,c,d,hR⟩
theorem GV.kb {v:o_}(h:GV NC NS K pid n v told e v' K' CU):K'.kb=K.kb:=by
 obtain e|⟨_,_,_,_,_,hR⟩:=h.rel
 .rw[e]
 .exact hR.kb
theorem Y2 (h:K.BV r=0):r.en=false:=by
 cases he:r.en with
 |false=>rfl
 |true=>unfold KS.BV at h;rw[he]at h;simp at h
section
variable {v:o_}{c0:Frame}{cs:Z_}{R:Frame×Z_->o_->Prop}
theorem Jg {Od:Old}(U:AY K v)(ok:DU NC NS K)(V:∀b r,b∈K.Ar->K.ps b=some r->(r.pid:Int)=pid->K.BV r=0->VZ NC NS b K n.toNat)
  (W:∀told e v' K' CU,GV NC NS K pid n v told e v' K' CU->ag Od prog (c0.finish (.tuple #[told,b_ e]),cs) v' R):
  ag Od prog (Frame.enter prog 19 #[ptr K.kb,b_ pid,b_ n] .normal,c0::cs) v R:=by
 have a:∀{e:Int} {v':o_},LW K pid n [] e K->Aa No v v'->ag Od prog (c0.finish (.tuple #[.slice none 0 0,b_ e]),cs) v' R:=fun {e v'} hb F=>W _ e v' K [] ⟨U.no F,ok,BQ.no F U.lt,⟨World.ownsRow_nil _ _ _ _,λg h=>by cases h⟩,hb⟩
 refine ag.AU (cv5 _ _ _ _) ?_;rw[show run prog 6 (Frame.enter prog 19 #[ptr K.kb,b_ pid,b_ n] .normal,c0::cs)=pA (ptr K.kb) (b_ pid) (b_ n) (c0::cs)from rfl,ck6];refine ag.part (m:=0) Ϗ rfl ap0 (λv1 q=>ϲ 0 v1 _ K pid (b_ n) (U.no q) ok.th ok.len) λv1 c v2 q ⟨p,L,⟨g,e⟩,H⟩=>?_
 subst e;have k2:=q.then H;rw[be8];obtain⟨b,r,rfl,k,hb,l⟩|⟨rfl,A⟩:=L
 .refine ag.seq (ag.part (m:=0) Ϗ rfl nT (λv1 _=>bf1 0 v1 _ _ _ _) λv3 c v4 s ⟨⟨I,e⟩,t⟩=>?_);subst e;have G:=k2.then (s.then t);by_cases o:1<=n/\n<=1000
  .refine ag.seq (ag.part (m:=0) Ϗ rfl nS (λv1 _=>bf0 0 v1 _ _ _ n wB wB) λO c v6 u ⟨⟨J,e⟩,w⟩=>?_);subst e;have B:=G.then (u.then w);refine ag.seq (ag.either (m:=0) (Q:=λv1 c D=>K.BV r=0/\af0 (ptr K.kb) (b_ n) (ptr b) v1 c D) (Q':=λv1 c D=>K.BV r≠0/\ay4 3 v1 c D) Ϗ rfl ao9 (λv1 j=>be9 0 v1 _ _ _ K b r (U.no (B.then j)) ok.th ok.len hb) (λP c S j ⟨f,⟨E,e⟩,y⟩=>?_) λP c d S j ⟨z,⟨E,e⟩,y⟩=>?_)
   .subst e;have C:=B.then (j.then y);obtain⟨N,rfl⟩:∃N:Nat,n=N:=⟨n.toNat,wB⟩;refine ag.AU (x:=pB (ptr K.kb) (b_ (N:Nat)) (c0::cs) (R_ b) E) (cv1 _ _ _ _ _) ?_;rw[cv0];refine aa8 (NC:=NC) (NS:=NS) wB (V b r k hb l f) (U.no C) ok hb (Y2 f) k λtold v' ⟨CU,K',T,i,M⟩=>?_
    refine ag.AU (cu9 _ _ _ _ _ _ _) ?_;rw[cu8];exact W told 0 v' K' CU ⟨i.ka,i.ok,(BQ.no C U.lt).trans i.mv,⟨fH i.told.row C.size,i.told.no⟩,.inr ⟨b,r,k,hb,l,.inr (.inr ⟨o,f,rfl,M,i.rel⟩)⟩⟩
   .subst e;refine ag.AU (bq9 _ _ _ _ _ _) ?_;rw[bq8];exact a (.inr ⟨b,r,k,hb,l,.inr (.inl ⟨o,z,rfl,rfl,rfl⟩)⟩) (B.then (j.then y))
  .refine ag.seq (ag.aP (m:=0) Ϗ rfl nS (λv1 _=>ap1 0 v1 _ _ _ n o) λO c d v6 u ⟨⟨J,e⟩,w⟩=>?_);subst e;refine ag.AU (bq9 _ _ _ _ _ _) ?_;rw[bq8];exact a (.inr ⟨b,r,k,hb,l,.inl ⟨o,rfl,rfl,rfl⟩⟩) (G.then (u.then w))
 .refine ag.seq (ag.aP (m:=0) Ϗ rfl nT (λv1 _=>ap2 0 v1 _ _ _) λv3 c d v4 s ⟨⟨I,e⟩,t⟩=>?_);subst e;refine ag.AU (bq9 _ _ _ _ _ _) ?_;rw[bq8];exact a (.inl ⟨A,rfl,rfl,rfl⟩) (k2.then (s.then t))
end
section
variable {c:Bool}{t t':Tag}{R S:Nat->Nat->Prop}{K L K' L':KS}{a b:Nat}{r s:PR}{ev ev':List Ev}
theorem Jo.swap (g:Jo t t' R K L):Jo t' t (λa b=>R b a) L K:=λa b c=>let ⟨h1,h2⟩:=g b a c;⟨h2,h1⟩
theorem ZO (h:CJ c t t' R S K L)(g:Jo t t' R K L)(d:S a b)(f:Last a K ev K')(i:Tu b L ev' L'):False:=Wv h.swap' g.swap d i f
theorem qG (h:CJ c t t' R S K L)(g:Jo t t' R K L)(m:S a b)(o:RI a K K')(p:RI b L L'):CJ c t t' R S K' L'/\Jo t t' R K' L':=by
 obtain⟨j,r,m1,e1,rfl,x1,d,_⟩:=o;obtain⟨k,s,m2,e2,rfl,i,f,_⟩:=p;have hI:=h.in_ m x1 i;have hR:=hI.row m e1 e2;exact⟨hI.Bj m ⟨hR.pid,hR.par,hR.st,hR.A,hR.B,hR.P,hR.sw,hR.en,hR.Af,hR.fds,hR.co,rfl,λe=>by simp[iD]at e⟩,g.ext d f⟩
theorem Run.at {b:Nat}{K:KS}:∀{j i:Nat} {ev:List Ev} {K':KS},Run b K j ev K'->i<j->∃e1 f e2 g,Run b K i e1 f/\Tu b f e2 g
 |j+1,i,_,_,h,hi=>by
  obtain⟨e1,e2,c,a,d,_⟩:=h
  by_cases e:i=j
  .subst e;exact⟨e1,c,e2,_,a,d⟩
  .exact Run.at a wB
theorem P7 (h:CJ c t t' R S K L)(g:Jo t t' R K L)(A:S a b):∀{j:Nat} {ev ev':List Ev} {K' L':KS},Run a K j ev K'->Run b L j ev' L'->Nx c S K' L'/\ev=ev'
 |0,_,_,_,_,d,f=>by
  obtain⟨rfl,rfl⟩:=d
  obtain⟨rfl,rfl⟩:=f
  exact⟨⟨t,t',R,S,h,g,λ_ _ e=>e⟩,rfl⟩
 |j+1,_,_,_,_,d,f=>by
  obtain⟨e1,e2,s,d,o,rfl⟩:=d
  obtain⟨w1,w2,w,f,p2,rfl⟩:=f
  obtain⟨⟨u,z,x,y,hI,l,up⟩,rfl⟩:=P7 h g A d f
  obtain⟨⟨v,r,R2,k,n,m,i⟩,rfl⟩:=ar7 hI l (up _ _ A) o p2
  exact⟨⟨v,r,R2,k,n,m,λp q e=>i p q (up p q e)⟩,rfl⟩
theorem ar5 {n:Nat}(h:CJ c t t' R S K L)(g:Jo t t' R K L)(V:S a b)(W:ϕ a n K ev K')(X:ϕ b n L ev' L'):Nx c S K' L'/\ev=ev':=by
 obtain⟨P,F,W⟩:=W;obtain⟨T,G,X⟩:=X;obtain⟨hI,k⟩:=qG h g V F G;obtain W|⟨j,e1,e2,Q,N,o,y,rfl⟩:=W<;>obtain X|⟨B,H,I,U,w,r,z,rfl⟩:=X
 .exact P7 hI k V W X
 .exfalso;obtain⟨_,C,_,_,q1,i⟩:=W.at w;obtain⟨⟨u,s,l,m,f,d,up⟩,_⟩:=P7 hI k V q1 r;exact Wv f d (up _ _ V) i z
 .exfalso;obtain⟨_,D,_,_,q1,i⟩:=X.at N;obtain⟨⟨u,s,l,m,f,d,up⟩,_⟩:=P7 hI k V o q1;exact ZO f d (up _ _ V) y i
 .have x:j=B:=by
   obtain e|e|e:=Nat.lt_trichotomy j B
   .exfalso;obtain⟨_,D,_,_,q1,i⟩:=r.at e;obtain⟨⟨u,s,l,m,f,d,up⟩,_⟩:=P7 hI k V o q1;exact ZO f d (up _ _ V) y i
   .exact e
   .exfalso;obtain⟨_,C,_,_,q1,i⟩:=o.at e;obtain⟨⟨u,s,l,m,f,d,up⟩,_⟩:=P7 hI k V q1 r;exact Wv f d (up _ _ V) i z
  subst x;obtain⟨⟨u,s,l,m,f,d,up⟩,rfl⟩:=P7 hI k V o r;obtain⟨⟨v,O,R2,E,M,J,A⟩,rfl⟩:=as4 f d (up _ _ V) y z;exact⟨⟨v,O,R2,E,M,J,λp q e=>A p q (up p q e)⟩,rfl⟩
theorem CJ.who (h:CJ c t t' R S K L)(o:DU NC NS L)(m1:a∈K.Ar)(e1:K.ps a=some r)(g:(r.pid:Int)=pid)(m2:b∈L.Ar)(e2:L.ps b=some s)(p2:(s.pid:Int)=pid):S a b:=by
 obtain⟨e,q1,d⟩:=h.Ar.ϒ m1;obtain⟨f,w1,w2⟩:=h.get d e1;obtain rfl:=o.one e f b s q1 m2 w1 e2 (by have:=w2.pid;omega);exact d
theorem CJ.sK (h:CJ c t t' R S K L)(m1:a∈K.Ar)(e1:K.ps a=some r)(i:(r.pid:Int)=pid)(g:∀b∈L.Ar,∀r,L.ps b=some r->(r.pid:Int)≠pid):False:=by
 obtain⟨d,q1,e⟩:=h.Ar.ϒ m1;obtain⟨f,w1,w2⟩:=h.get e e1;exact g d q1 f w1 (by rw[<-w2.pid];exact i)
theorem Y9 {y:Int}(h:CJ c t t' R S K L)(g:Jo t t' R K L)(o:DU NC NS L)(u:LW K pid n ev e K')(x:LW L pid n ev' y L'):Nx c S K' L'/\ev=ev'/\e=y:=by
 have a:Nx c S K L:=⟨t,t',R,S,h,g,λ_ _ e=>e⟩;obtain⟨d,rfl,rfl,rfl⟩|⟨m,q,d,p2,p3,u⟩:=u<;>obtain⟨q1,rfl,rfl,rfl⟩|⟨p,r,q1,f,k,x⟩:=x
 .exact⟨a,rfl,rfl⟩
 .exact(h.swap'.sK q1 f k d).elim
 .exact(h.sK d p2 p3 q1).elim
 have b:=h.who o d p2 p3 q1 f k;have j:=h.BV (h.row b p2 f);obtain⟨z1,rfl,rfl,rfl⟩|⟨z1,i,rfl,rfl,rfl⟩|⟨z1,i,rfl,l,_⟩:=u<;>obtain⟨w1,rfl,rfl,rfl⟩|⟨w1,w2,rfl,rfl,rfl⟩|⟨w1,w2,rfl,w3,_⟩:=x
 all_goals first
  |exact⟨a,rfl,rfl⟩
  |exact qx w1 z1
  |exact qx z1 w1
  |exact qx (j.trans w2) i
  |exact qx (j.symm.trans i) w2
  |skip
 obtain⟨hN,rfl⟩:=ar5 h g b l w3;exact⟨hN,rfl,rfl⟩
end
def ay5 (K:KS)(pid e:Int)(K':KS):Prop:=(rP K pid e/\K'=K)\/(e=0/\∃b r,LyB K pid b r/\XG b K K')
def InX (K:KS)(pid e:Int)(K':KS):Prop:=(rP K pid e/\K'=K)\/(e=0/\∃b r,LyB K pid b r/\lH b K K')
section
variable {c:Bool}{t t':Tag}{R S:Nat->Nat->Prop}{K L K' L':KS}{a b:Nat}{r s:PR}{pid e e':Int}{NC NS:Nat}
theorem CJ.lyS (h:CJ c t t' R S K L)(m:rP K pid e)(o:rP L pid e'):e=e':=by
 obtain⟨rfl,m⟩|⟨f,j,a,p2,p3,p4,rfl⟩:=m<;>obtain⟨rfl,o⟩|⟨g,k,q1,b,d,i,rfl⟩:=o
 .rfl
 .exact(h.swap'.sK q1 b d m).elim
 .exact(h.sK a p2 p3 o).elim
 .rfl
theorem CJ.lyN (h:CJ c t t' R S K L)(o:DU NC NS L)(m:rP K pid e)(p:LyB L pid b s):False:=by
 obtain⟨q1,d,f,i⟩:=p;obtain⟨rfl,m⟩|⟨j,k,g,p2,p3,p4,rfl⟩:=m
 .exact h.swap'.sK q1 d f m
 .have a:=h.who o g p2 p3 q1 d f;have:=(h.row a p2 d).en;rw[p4,i]at this;cases this
theorem CJ.cb8 (h:CJ c t t' R S K L)(o:DU NC NS L)(p:LyB K pid a r)(m:rP L pid e):False:=by
 obtain⟨d,p2,p3,p4⟩:=p;obtain⟨rfl,m⟩|⟨j,k,q1,f,g,i,rfl⟩:=m
 .exact h.sK d p2 p3 m
 .have b:=h.who o d p2 p3 q1 f g;have:=(h.row b p2 f).en;rw[p4,i]at this;cases this
theorem bh7 (h:CJ c t t' R S K L)(o:DU NC NS L)(j:ay5 K pid e K')(m:ay5 L pid e' L'):CJ c t t' R S K' L'/\e=e':=by
 obtain⟨j,rfl⟩|⟨rfl,d,g,a,p2⟩:=j<;>obtain⟨m,rfl⟩|⟨rfl,f,i,q1,b⟩:=m
 .exact⟨h,h.lyS j m⟩
 .exact(h.lyN o j q1).elim
 .exact(h.cb8 o a m).elim
 .exact⟨h.out (h.who o a.1 a.2.1 a.2.2.1 q1.1 q1.2.1 q1.2.2.1) p2 b,rfl⟩
theorem bw6 (h:CJ c t t' R S K L)(o:DU NC NS L)(j:InX K pid e K')(m:InX L pid e' L'):CJ c t t' R S K' L'/\e=e':=by
 obtain⟨j,rfl⟩|⟨rfl,d,g,a,p2⟩:=j<;>obtain⟨m,rfl⟩|⟨rfl,f,i,q1,b⟩:=m
 .exact⟨h,h.lyS j m⟩
 .exact(h.lyN o j q1).elim
 .exact(h.cb8 o a m).elim
 .exact⟨h.in_ (h.who o a.1 a.2.1 a.2.2.1 q1.1 q1.2.1 q1.2.2.1) p2 b,rfl⟩
theorem bh8 {b I ib fb N J C C' M H O:Nat}{Q U:Nat}{P:Nat->n_×Nat×(Nat->Int)}{Af:List Nat}(X:c=true->C=C')(k1:AY K w)(k2:AY L w')(o1:DU NC NS K)(o2:DU Q U L)(p1:K.Ar=[b])(p2:L.Ar=[I])(r1:K.ps b=some (EI ib fb Af))(r2:L.ps I=some (EI N J Af))(Y:ay6 K b M O)(Z:ay6 L I M O)(V:ay7 K C H P)(W:ay7 L C' H P):
  CJ c K.T L.T (λp q=>∃i,i<16/\K.nm i=some p/\L.nm i=some q) (λp q=>p=b/\q=I) K L/\Jo K.T L.T (λp q=>∃i,i<16/\K.nm i=some p/\L.nm i=some q) K L:=by
 obtain⟨a1,a2,l,m,n,F⟩:=Y;obtain⟨o,r,s,t,u,G⟩:=Z;obtain⟨v,c2,⟨c3,_⟩,c4,f⟩:=V;obtain⟨d1,d2,_,d4,x⟩:=W;have h:∀{i p:Nat},i<16->K.nm i=some p->K.T p=(10,0):=λhi e=>(k1.nmc hi).2 _ e
 have k:∀{i p:Nat},i<16->L.nm i=some p->L.T p=(10,0):=λhi e=>(k2.nmc hi).2 _ e
 refine⟨⟨?_,?_,?_,?_,?_,?_,?_,?_,?_,?_,?_,?_,?_,?_,?_⟩,?_⟩
 .rintro p q A ⟨i,hi,e1,e2⟩ ⟨j,d,e3,e4⟩;obtain rfl:=o1.Ei.nm i j p hi d e1 e3;rw[e2]at e4;exact x_ e4
 .rintro p y q ⟨i,hi,e1,e2⟩ ⟨j,d,e3,e4⟩;obtain rfl:=o2.Ei.nm i j q hi d e2 e4;rw[e1]at e3;exact x_ e3
 .rintro p q ⟨i,hi,e1,e2⟩;have g:i<H:=by
   obtain e|e:=Nat.lt_or_ge i H
   .exact e
   .rw[f i e]at e1;cases e1
  obtain⟨z,z1,D⟩:=c4 i g;obtain⟨B,a,E⟩:=d4 i g;rw[e1]at z1;rw[e2]at a;cases z1;cases a;rw[h hi e1,k hi e2,D,E,n,u];exact⟨⟨rfl,λe=>by simp at e,rfl,rfl,rfl,λ_ _=>rfl,λe=>by simp at e⟩,rfl⟩
 .rintro p q A ⟨_,rfl⟩ ⟨_,rfl⟩;rfl
 .rintro p y q ⟨rfl,_⟩ ⟨rfl,_⟩;rfl
 .rintro p q ⟨rfl,rfl⟩;exact⟨_,_,r1,r2,rfl,rfl,rfl,rfl,rfl,rfl,rfl,rfl,rfl,rfl,λ_=>rfl,rfl,λe=>by simp[EI,iD]at e⟩
 .rw[p1,p2];exact⟨⟨rfl,rfl⟩,dE⟩
 .rw[a1,o]
 .intro e;rw[v,d1,X e]
 .rw[a2,r]
 .intro i;obtain e|e:=Nat.lt_or_ge i H
  .obtain⟨z,z1,_⟩:=c4 i e;obtain⟨B,a,_⟩:=d4 i e;rw[z1,a];exact⟨i,wB,z1,a⟩
  .rw[f i e,x i e];trivial
 .rw[l,s];trivial
 .intro i _;rw[m,t]
 .intro i _;rw[(c2 i).2,(d2 i).2];trivial
 .intro i _;rw[(c2 i).1,(d2 i).1];exact .inl ⟨rfl,rfl⟩
 .rintro p q ⟨i,hi,e1,e2⟩;rw[h hi e1,k hi e2];exact⟨⟨rfl,sJ⟩,rfl,sJ⟩
end
def Dj (K L:KS):Prop:=∀k,K.T k=(0,0)\/L.T k=(0,0)
section
variable {K L K' L':KS}{w w':o_}
theorem Dj.symm (h:Dj K L):Dj L K:=λk=>(h k).symm
theorem AY.other (h:AY L w)(M:BQ K.T K'.T w w')(d:Dj K L):AY L w':=
 h.keep ((CG.keep M).on λk _ e=>(d k).resolve_left e) λb hb=>h.lt b (lN (CG.keep M).size hb)
theorem Dj.GZ (d:Dj K L)(h:AY L w)(M:BQ K.T K'.T w w'):Dj K' L:=λk=>by
 by_cases a:k<w.heap.size
 .rw[CG.fresh M k a];exact d k
 .exact .inr (h.lt k wB)
theorem Dj.new (h:AY K w)(hL:∀k,L.T k≠(0,0)->w.heap.size<=k):Dj K L:=λk=>by
 by_cases e:L.T k=(0,0)
 .exact .inr e
 .exact .inl (h.lt k (hL k e))
structure Two (c:Bool)(NC NS QB UA:Nat)(K L:KS)(w:o_):Prop where
 ka:AY K w
 kb:AY L w
 ok:DU NC NS K
 ol:DU QB UA L
 dj:Dj K L
 al:∃t t' R S,CJ c t t' R S K L/\Jo t t' R K L
variable {c:Bool}{NC NS QB UA:Nat}{S:Nat->Nat->Prop}
theorem Two.no (h:Two c NC NS QB UA K L w)(a:Aa No w w'):Two c NC NS QB UA K L w':=⟨h.ka.no a,h.kb.no a,h.ok,h.ol,h.dj,h.al⟩
theorem Nx.al (h:Nx c S K L):∃t a R S,CJ c t a R S K L/\Jo t a R K L:=let ⟨u,u',R',S',h1,h2,_⟩:=h;⟨u,u',R',S',h1,h2⟩
theorem Two.pick {e1 e2:Int}{v v1 v2:o_}{m j:n_}{f p:List Ev}{K1 o:KS}(h:Two c NC NS QB UA K L v)(g:GV NC NS K pid n v m e1 v1 K1 f)(i:GV QB UA L pid n v1 j e2 v2 o p):Two c NC NS QB UA K1 o v2/\f=p/\e1=e2:=by
 obtain⟨t,e,R,S,hI,a⟩:=h.al;obtain⟨hN,b,d⟩:=Y9 hI a h.ol g.x i.x;have d1:=h.dj.GZ h.kb g.mv;exact⟨⟨g.ka.other i.mv d1.symm,i.ka,g.ok,i.ok,(d1.symm.GZ g.ka i.mv).symm,hN.al⟩,b,d⟩
end
def Xy (base:Nat)(v:n_)(l:List Int)(w:o_):Prop:=∃s c,v=.slice s l.length c/\(0<l.length->∃(g:Nat) (cs:X_),s=some (R_ g)/\base<=g/\w.heap[g]?=some (N_ cs 3)/\∀(i:Nat)(x:Int),l[i]?=some x->cs[i]?=some (b_ x))
theorem Xy.keep {S:Nat->Prop}(h:Xy base v l w)(j:Aa S w w')(m:∀k cs,base<=k->w.heap[k]?=some (N_ cs 3)->¬S k):Xy base v l w':=by
 obtain⟨s,c,e,h⟩:=h;refine⟨s,c,e,λi=>?_⟩;obtain⟨g,cs,d,a,b,f⟩:=h i;exact⟨g,cs,d,a,j.old b (m g cs a b),f⟩
theorem Xy.no (h:Xy base v l w)(a:Aa No w w'):Xy base v l w':=h.keep a λ_ _ _ _ x=>x
theorem Xy.mono {d:Nat}(h:Xy base v l w)(hb:d<=base):Xy d v l w:=let ⟨s,c,e,h⟩:=h;⟨s,c,e,λa=>let ⟨g,cs,h1,h2,h3⟩:=h a;⟨g,cs,h1,lN hb h2,h3⟩⟩
theorem Xy.sl (h:Xy base v l w)(m:l.length<=1000):SlI w v l.length (λi=>l.getD i 0):=by
 obtain⟨s,c,e,h⟩:=h;refine⟨wB,s,c,e,λf=>?_⟩;obtain⟨g,j,a,k,b,d⟩:=h f;refine⟨g,0,a,λi hi=>?_⟩;rw[Nat.zero_add,Ai b];exact d i _ (by show l[i]?=some (l.getD i 0);rw[List.getD_eq_getElem?_getD,JM hi];rfl)
def ints (l:List Nat):List Int:=l.map λx:Nat=>(x:Int)
def Jq (a b c d e f g:Int)(v7 v8:n_):X_:=#[b_ a,b_ b,b_ c,b_ d,b_ e,b_ f,b_ g,v7,v8]
abbrev Yt (r:PR)(s:Int)(v7 v8:n_):X_:=Jq r.pid r.par s r.A r.B r.P r.st v7 v8
abbrev Ez:X_:=Jq 0 0 0 0 0 0 0 (.slice none 0 0) (.slice none 0 0)
theorem EK {rb:Nat}{x0 x1 o p q s t u x:n_}{a b c d f g:Int}{n7 c7 n8 c8:Nat}{a7 a8:d_ f_}(h:w.heap[rb]?=some (N_ #[x0,x1,o,p,q,s,t,u,x] 48)):∃w',(Instr.storeAt 48 (Q_ rb) (.agg (Jq a b c d e f g (.slice a7 n7 c7) (.slice a8 n8 c8)))).run prog w=.ok () w'/\Aa (At rb) w w'/\w'.heap[rb]?=some (.cells (Jq a b c d e f g (.slice a7 n7 c7) (.slice a8 n8 c8)) 48 (0,0)):=by
 have m:(Instr.storeAt 48 (Q_ rb) (.agg (Jq a b c d e f g (.slice a7 n7 c7) (.slice a8 n8 c8)))).run prog w=(OV rb 0 (Jq a b c d e f g (.slice a7 n7 c7) (.slice a8 n8 c8)).toList (.pure ())).run prog w:=sU
 obtain⟨w',i,j,l⟩:=Hr (P:=prog) (k:=Sem.pure ()) (Jq a b c d e f g (.slice a7 n7 c7) (.slice a8 n8 c8)).toList 0 _ w h (by simp[Jq]) (by simp[Jq,Value.oneCell']);refine⟨w',?_,j,?_⟩
 .rw[m,i];rfl
 .rw[l];simp[UI,Jq]
theorem qY (w:o_):(Instr.build 48 #[]).run prog w=.ok (.agg Ez) w:=sU
def StX (K:KS)(r:PR)(s:Int):Prop:=Ko r.en s/\Yp (s=K.BV r)
def dc7 (base:Nat)(K:KS)(r:PR)(i:Nat)(v:n_)(W:o_):Prop:=(i=9->∃s,v=b_ s/\StX K r s)/\(i=38->Xy base v (ints r.Af) W)/\(i=43->Xy base v r.fds W)
section
variable (m:Nat)(w:o_)
theorem vP (K:KS)(b:Nat)(r:PR)(h:AY K w)(hb:K.ps b=some r)(o:r.Ok)(hL:r.Af.length<=128):O_ m 101 #[r.im] w λe w'=>Aa No w w'/\∃v,e=.returned v/\Xy w.heap.size v (ints r.Af) w':=by
 cases hn:r.en with
 |true=>
  obtain⟨e1,_,e3,_⟩:=(h.ps b r hb).no hn
  rw[e1,e3]
  refine(vO m w).mono ?_
  rintro e w' ⟨a,rfl⟩
  exact⟨a,_,rfl,_,_,rfl,λh=>by simp[ints]at h⟩
 |false=>
  obtain⟨g,c,e1,hR,_⟩:=(h.ps b r hb).im hn
  rw[e1]
  refine(jR m w g r.Af.length (λi=>r.Af.getD i 0) c (λi hi=>?_) (λi hi=>?_) hL).mono ?_
  .rw[hR.cell wB,Aw,List.getElem?_map,List.getD_eq_getElem?_getD,JM hi];rfl
  .rw[List.getD_eq_getElem?_getD,JM hi];exact o.Af _ (List.getElem_mem hi)
  .rintro e w' ⟨a,rfl,l⟩;obtain⟨k,j,n,d⟩:=l;refine⟨a,_,rfl,some (R_ w.heap.size),r.Af.length,by simp[ints],λ_=>⟨_,k,rfl,w_,j,λi x f=>?_⟩⟩;have hi:i<r.Af.length:=by
    have:=(Oc.1 f).1
    simpa [ints]using this
   rw[d i hi];simp only[ints,List.getElem?_map,JM hi,Option.map_some]at f;simp only[List.getD_eq_getElem?_getD,JM hi,Option.getD_some];rw[x_ f]
theorem ac3 (K:KS)(b:Nat)(r:PR)(h:AY K w)(hb:K.ps b=some r)(o:r.Ok):O_ m 102 #[r.fd] w λe w'=>Aa No w w'/\∃v,e=.returned v/\Xy w.heap.size v r.fds w':=by
 cases hn:r.en with
 |true=>
  obtain⟨_,e1,_,e3⟩:=(h.ps b r hb).no hn
  rw[e1,e3]
  refine(yj m w).mono ?_
  rintro e w' ⟨rfl,f⟩
  exact⟨f,_,rfl,_,_,rfl,λh=>by simp at h⟩
 |false=>
  obtain⟨g,c,e1,hR,_⟩:=(h.ps b r hb).fd hn
  have t:=o.fds hn
  rw[e1]
  refine(ZV m w (R_ g) r.fds.length c (FW r.fds) (by simp[FW]) (λj u l=>?_) (by simp[FW,Value.oneCell']) wB).mono ?_
  .have s:j<r.fds.length:=(by have:=(Oc.1 l).1;simpa [FW]using this);rw[Addr.add_lit,Nat.zero_add,hR.cell wB,l]
  .rintro e w' ⟨f,v,rfl,n⟩;refine⟨f,v,rfl,?_⟩;obtain⟨_,e⟩|⟨q,cap,d,rfl,k,a,_⟩:=n.2
   .omega
   .refine⟨_,cap,rfl,λ_=>⟨q,d,rfl,k,a,λi x p=>?_⟩⟩;have hi:=(Oc.1 p).1;refine((Ai a i).symm.trans (n.cellAt i wB)).trans ?_;simp only[FW,List.getElem?_map,p,Option.map_some]
theorem bw5 (K:KS)(b:Nat)(r:PR)(h:AY K w)(hT:K.ED)(hl:K.Ar.length<=12)(hb:K.ps b=some r)(o:r.Ok)(hL:r.Af.length<=128):
  O_ m 57 #[Q_ b] w λe w'=>Aa No w w'/\∃st v7 v8,e=.returned (.agg (Yt r st v7 v8))/\StX K r st/\Xy w.heap.size v7 (ints r.Af) w'/\Xy w.heap.size v8 r.fds w':=by
 have D:Aa No w (w.alloc (.cells Ez 48)):=(Aa.refl _ _).alloc _;have L:(w.alloc (.cells Ez 48)).heap[w.heap.size]?=some (N_ Ez 48):=Yw rfl;have y:w.heap.size<=(w.alloc (.cells Ez 48)).heap.size:=D.size;have G:w.alloc (.cells #[b_ 0,b_ 0,b_ 0,b_ 0,b_ 0,b_ 0,b_ 0,.slice none 0 0,.slice none 0 0] 48)=w.alloc (.cells Ez 48):=rfl;gi_enter func57,ntmps57;gi_wp2
 try rw[G]
 have n:=h.no D;generalize w.alloc (.cells Ez 48)=w1 at*;have N:=n.Iu hb 0;have O:=n.Iu hb 1;have c3:=n.Iu hb 3;have Q:=n.Iu hb 5;have R:=n.Iu hb 6;have c7:=n.Iu hb 7;have c8:=n.Iu hb 8;have S:=n.Iu hb 9;simp[PR.arr]at N O c3 Q R c7 c8 S;have oA:=o.A;have oB:=o.B;have oP:=o.P;have oS:=o.st;refine DI (P:=prog) No _ rfl rfl sU 44 48 [0,1,2,3,4,5,6,7,8,10,11,12,13,14,15,16,17,18,19,20,21,22,23,24,25,26,27,28,29,30,31,32,33,34,35,36,37,39,40,41,42] [9,38,43] sU (by rfl) (dc7 w1.heap.size K r)
  (λ_ _ _ _ _ h j=>⟨h.1,λe=>(h.2.1 e).no j,λe=>(h.2.2 e).no j⟩) _ _ rfl rfl ?_;gi_wp2;refine⟨rfl,sU,?_,?_,?_⟩
 .intro W j;have d0:=j.has (w:=w1.drew) N;have d1:=j.has (w:=w1.drew) O;have d3:=j.has (w:=w1.drew) c3;have d5:=j.has (w:=w1.drew) Q;have d6:=j.has (w:=w1.drew) R;have d7:=j.has (w:=w1.drew) c7;have d8:=j.has (w:=w1.drew) c8;have d9:=j.has (w:=w1.drew) S
  repeat' (refine AA ?_ ?_)
  all_goals first|exact dE|gi_wp2
 .intro i hx u W j C;have F:=n.no ((Aa.refl No w1).drew.then j);obtain rfl|rfl|rfl:=(by simpa using hx:i=9\/i=38\/i=43)
  .refine BI rfl λKK M=>?_
   show wpListIn NF m prog _ _ _ (Act.put (Act.put (Act.put _ (some 12) (u 9)) (some 41) (u 38)) (some 46) (u 43)) _;gi_wp2_with (gi_at_call 55;refine(jq _ W K b r F hT hb wB).mono ?_;rintro e w2 ⟨t,s,rfl,x,z⟩;replace x:StX K r s:=⟨x,z⟩;clear z);exact⟨_,rfl,t,λ_=>⟨s,rfl,x⟩,(λh=>qx h sN),λh=>qx h sN⟩
  .refine BI rfl λKK M=>?_
   show wpListIn NF m prog _ _ _ (Act.put (Act.put (Act.put _ (some 12) (u 9)) (some 41) (u 38)) (some 46) (u 43)) _;gi_wp2_with (gi_at_call 101;refine(vP _ W K b r F hb o hL).mono ?_;rintro e w2 ⟨t,v,rfl,J⟩);exact⟨_,rfl,t,(λh=>qx h sN),λ_=>J.mono j.size,λh=>qx h sN⟩
  .refine BI rfl λKK M=>?_
   show wpListIn NF m prog _ _ _ (Act.put (Act.put (Act.put _ (some 12) (u 9)) (some 41) (u 38)) (some 46) (u 43)) _;gi_wp2_with (gi_at_call 102;refine(ac3 _ W K b r F hb o).mono ?_;rintro e w2 ⟨t,v,rfl,J⟩);exact⟨_,rfl,t,(λh=>qx h sN),(λh=>qx h sN),λ_=>J.mono j.size⟩
 .intro u W j C;have KW:Aa No w W:=D.drew.then j;obtain⟨st,e9,x⟩:=(C 9 sJ).1 rfl;have V:=(C 38 sJ).2.1 rfl;have i8:=(C 43 sJ).2.2 rfl;show wpListIn NF m prog _ _ _ (Act.put (Act.put (Act.put _ (some 12) (u 9)) (some 41) (u 38)) (some 46) (u 43)) _;rw[e9];generalize u 38=v7 at*;generalize u 43=v8 at*;obtain⟨a7,p,T,_⟩:=id V;obtain⟨a8,q,U,_⟩:=id i8;generalize H:(ints r.Af).length=n7 at T;generalize I:r.fds.length=n8 at U;subst T U;have hW:=j.old (heap_drew.trans L) id;obtain⟨w3,Y,E,l⟩:=EK (a:=r.pid) (b:=r.par) (c:=st) (d:=r.A) (e:=r.B) (f:=r.P) (g:=r.st) (n7:=n7) (c7:=p) (n8:=n8) (c8:=q) (a7:=a7) (a8:=a8) hW;clear C H I;gi_wp2_with (refine BM rfl (.tmp 2) (.tmp 47) 48 rfl rfl rfl Y ?_);have g0:w3.cell? (R_ w.heap.size)=some (b_ r.pid):=bce l rfl;have g1:w3.cell? (S_ w.heap.size 1)=some (b_ r.par):=bce l rfl;have g2:w3.cell? (S_ w.heap.size 2)=some (b_ st):=bce l rfl;have g3:w3.cell? (S_ w.heap.size 3)=some (b_ r.A):=bce l rfl;have g4:w3.cell? (S_ w.heap.size 4)=some (b_ r.B):=bce l rfl;have g5:w3.cell? (S_ w.heap.size 5)=some (b_ r.P):=bce l rfl;have g6:w3.cell? (S_ w.heap.size 6)=some (b_ r.st):=bce l rfl;have g7:w3.cell? (S_ w.heap.size 7)=some (.slice a7 n7 p):=bce l rfl;have g8:w3.cell? (S_ w.heap.size 8)=some (.slice a8 n8 q):=bce l rfl;refine bodyPost_ret (v:=.agg (Yt r st (.slice a7 n7 p) (.slice a8 n8 q))) (by simp[results,results57,go_sem,Yt,Jq,g0,g1,g2,g3,g4,g5,g6,g7,g8]) rfl ?_;have X:∀k Z,w1.heap.size<=k->W.heap[k]?=some (N_ Z 3)->¬At w.heap.size k:=λk _ hk _ e=>by
   have e:k=w.heap.size:=e
   have:=Dt L
   omega
  exact⟨KW.trans E (λk hk e=>qx (show k=w.heap.size from e) wB),st,_,_,rfl,x,(V.keep E X).mono y,(i8.keep E X).mono y⟩
def am2 (K:KS)(pid:Int)(base:Nat)(e:Ending)(w':o_):Prop:=
 (∃b r st v7 v8,b∈K.Ar/\K.ps b=some r/\(r.pid:Int)=pid/\e=.returned (.tuple #[.agg (Yt r st v7 v8),b_ 0])/\StX K r st/\Xy base v7 (ints r.Af) w'/\Xy base v8 r.fds w')\/(e=.returned (.tuple #[.agg Ez,b_ 2])/\∀b∈K.Ar,∀r,K.ps b=some r->(r.pid:Int)≠pid)
theorem QL (NC NS:Nat)(K:KS)(pid:Int)(h:AY K w)(ok:DU NC NS K):O_ m 20 #[Q_ K.kb,b_ pid] w λe w'=>Aa No w w'/\am2 K pid w.heap.size e w':=by
 have o:Aa No w (w.alloc (.cells Ez 48)):=(Aa.refl _ _).alloc _;have t:(w.alloc (.cells Ez 48)).heap[w.heap.size]?=some (N_ Ez 48):=Yw rfl;have M:w.heap.size<=(w.alloc (.cells Ez 48)).heap.size:=o.size;have H:w.alloc (.cells #[b_ 0,b_ 0,b_ 0,b_ 0,b_ 0,b_ 0,b_ 0,.slice none 0 0,.slice none 0 0] 48)=w.alloc (.cells Ez 48):=rfl;have R:=h.no o;gi_enter func20,ntmps20;gi_wp2_with fail
 try rw[H]
 generalize w.alloc (.cells Ez 48)=w1 at*;refine(TQ _ w1 K pid R ok.th (by have:=ok.len;omega)).mono ?_;rintro e w2 ⟨j,p,rfl,X⟩;obtain⟨b,r,rfl,hm,hb,V⟩|⟨rfl,L⟩:=X
 .unfold ptr;gi_wp2_with fail;refine(bw5 _ w2 K b r (R.no j) ok.th ok.len hb (ok.pr b r hb) (ok.co.pl b r hb).1).mono ?_;rintro e w4 ⟨N,q,v7,v8,rfl,Y,T,i8⟩;obtain⟨a7,c7,O,_⟩:=id T;obtain⟨a8,c8,Q,_⟩:=id i8;generalize I:(ints r.Af).length=n7 at O;generalize J:r.fds.length=n8 at Q;subst O Q;clear I J;have Z:=N.old (j.old t id) id;obtain⟨w3,s,l,i⟩:=EK (a:=r.pid) (b:=r.par) (c:=q) (d:=r.A) (e:=r.B) (f:=r.P) (g:=r.st) (n7:=n7) (c7:=c7) (n8:=n8) (c8:=c8) (a7:=a7) (a8:=a8) Z;gi_wp2_with (refine BM rfl (.tmp 4) (.tmp 14) 48 rfl rfl rfl s ?_);have u:w3.cell? (R_ w.heap.size)=some (b_ r.pid):=bce i rfl;have x:w3.cell? (S_ w.heap.size 1)=some (b_ r.par):=bce i rfl;have y:w3.cell? (S_ w.heap.size 2)=some (b_ q):=bce i rfl;have z:w3.cell? (S_ w.heap.size 3)=some (b_ r.A):=bce i rfl;have C:w3.cell? (S_ w.heap.size 4)=some (b_ r.B):=bce i rfl;have D:w3.cell? (S_ w.heap.size 5)=some (b_ r.P):=bce i rfl;have E:w3.cell? (S_ w.heap.size 6)=some (b_ r.st):=bce i rfl;have F:w3.cell? (S_ w.heap.size 7)=some (.slice a7 n7 c7):=bce i rfl;have G:w3.cell? (S_ w.heap.size 8)=some (.slice a8 n8 c8):=bce i rfl;refine bodyPost_ret (v:=.tuple #[.agg (Yt r q (.slice a7 n7 c7) (.slice a8 n8 c8)),b_ 0]) (by simp[results,results20,go_sem,Yt,Jq,u,x,y,z,C,D,E,F,G]) rfl ?_;have U:∀k W,w2.heap.size<=k->w4.heap[k]?=some (N_ W 3)->¬At w.heap.size k:=λk _ S _ e=>by
   have e:k=w.heap.size:=e
   have:=Dt t
   have:=j.size
   omega
  have n:w.heap.size<=w2.heap.size:=lN M j.size;exact⟨((o.then j).then N).trans l (λk S e=>qx (show k=w.heap.size from e) wB),.inl ⟨b,r,q,_,_,hm,hb,V,rfl,Y,(T.keep l U).mono n,(i8.keep l U).mono n⟩⟩
 .have hbd:=qY w2;obtain⟨w3,s,l,i⟩:=EK (a:=0) (b:=0) (c:=0) (d:=0) (e:=0) (f:=0) (g:=0) (n7:=0) (c7:=0) (n8:=0) (c8:=0) (a7:=none) (a8:=none) (j.old t id);gi_wp2_with (refine BM rfl (.tmp 4) (.tmp 12) 48 rfl rfl rfl s ?_);have u:w3.cell? (R_ w.heap.size)=some (b_ 0):=bce i rfl;have x:w3.cell? (S_ w.heap.size 1)=some (b_ 0):=bce i rfl;have y:w3.cell? (S_ w.heap.size 2)=some (b_ 0):=bce i rfl;have z:w3.cell? (S_ w.heap.size 3)=some (b_ 0):=bce i rfl;have C:w3.cell? (S_ w.heap.size 4)=some (b_ 0):=bce i rfl;have D:w3.cell? (S_ w.heap.size 5)=some (b_ 0):=bce i rfl;have E:w3.cell? (S_ w.heap.size 6)=some (b_ 0):=bce i rfl;have F:w3.cell? (S_ w.heap.size 7)=some (.slice none 0 0):=bce i rfl;have G:w3.cell? (S_ w.heap.size 8)=some (.slice none 0 0):=bce i rfl;refine bodyPost_ret (v:=.tuple #[.agg Ez,b_ 2]) (by simp[results,results20,go_sem,Ez,Jq,u,x,y,z,C,D,E,F,G]) rfl ?_;exact⟨(o.then j).trans l (λk S e=>qx (show k=w.heap.size from e) wB),.inr ⟨rfl,L⟩⟩
end
def Gw (c:Int)(n:Nat):Nat:=if c<0 then((-(c+1)) % (n:Int)).toNat else(c % (n:Int)).toNat
theorem NP (c:Int){n:Nat}(a:1<=n):Gw c n<n:=by
 unfold Gw;split
 .have:=Int.emod_lt_of_pos (-(c+1)) (show(0:Int)<n by omega);have:=Int.emod_nonneg (-(c+1)) (show(n:Int)≠0 by omega);omega
 .have:=Int.emod_lt_of_pos c (show(0:Int)<n by omega);have:=Int.emod_nonneg c (show(n:Int)≠0 by omega);omega
section
variable (m:Nat)(w:o_)
theorem NI (c:Int)(n r:Nat)(h:-9223372036854775808<=c)(f:c<=9223372036854775807)(i:1<=n)(g:n<=65536)(d:Gw c n=r):O_ m 16 #[b_ c,b_ n] w λe w'=>e=.returned (b_ r)/\w'=w:=by
 unfold Gw at d;by_cases a:c<0
 .rw[rW a]at d;gi_enter func16,ntmps16;gi_wp2
  all_goals go_ret
  refine⟨jy ?_,rfl⟩;have:=Int.emod_nonneg (-(c+1)) (show(n:Int)≠0 by omega);have e:-((c+1).tmod (n:Int))=(-(c+1)) % (n:Int):=by rw[<-Int.neg_tmod,Int.tmod_eq_emod_of_nonneg wB]
  simp only[e];omega
 .rw[ru a]at d;gi_enter func16,ntmps16;gi_wp2
  all_goals go_ret
  have b:=Int.emod_nonneg c (show(n:Int)≠0 by omega);exact⟨jy wB,rfl⟩
theorem Qe (v v':n_)(n:Nat)(f:Nat->Int)(h:SlI w v n f)(C:SlI w v' n f):O_ m 21 #[v,v'] w λe w'=>e=.returned (.bool true)/\Aa No w w':=by
 obtain⟨z,s,c,rfl,l⟩:=h;obtain⟨_,B,t,rfl,j⟩:=C;by_cases p:n=0
 .subst p;gi_enter func21,ntmps21;gi_wp2;refine wpIn_loop_once ?_;gi_wp2;go_ret;exact⟨sJ,Aa.refl _ _⟩
 .obtain⟨b,o,rfl,q⟩:=l wB;obtain⟨r,A,rfl,d⟩:=j wB;clear l j;gi_enter func21,ntmps21;gi_wp2;gi_loopw [5] (λi wr=>∃k:Nat,k<=n/\i=b_ k/\Aa No w wr) (λi _=>n-(intOf i).toNat)
  case atStart=>exact⟨0,Nat.zero_le _,rfl,Aa.refl _ _⟩
  case round=>
   obtain⟨k,y,rfl,a⟩:=hrel
   by_cases g:k<n
   .have u:=a.has (q k g);have x:=a.has (d k g);gi_wp2;gi_region
    all_goals gi_wp2
    all_goals go_roundw
    all_goals first|exact⟨k+1,wB,by go_num,a.drew⟩|(simp[intOf];omega)
   .gi_wp2;go_ret;exact⟨sJ,a⟩
end
theorem Rx {e:j_}{size:Nat}{n:Nat}{xs:U_}(h:w.ownsRow base e size v n xs)(m:Aa No w w'):w'.ownsRow base e size v n xs:=by
 obtain⟨j,i⟩:=h;refine⟨j,?_⟩;obtain i|⟨g,cap,f,a,b,c,d⟩:=i
 .exact .inl i
 .exact .inr ⟨g,cap,f,a,b,m.old c id,d⟩
def XB (K:KS)(k:Nat):U_:=(K.Ar.take k).map λb=>b_ (match K.ps b with|some r=>(r.pid:Int)|none=>0)
theorem ϱ (h:K.Ar[k]?=some b)(a:K.ps b=some r):XB K (k+1)=XB K k++[b_ r.pid]:=by
 unfold XB;rw[List.take_add_one,h];simp[a]
section
variable (m:Nat)(w:o_)
theorem uw (K:KS)(h:AY K w)(hT:K.ED)(J:K.Ar.length<=12):O_ m 50 #[Q_ K.kb] w λe w'=>Aa No w w'/\∃v,e=.returned v/\w'.ownsRow w.heap.size 3 1 v K.Ar.length (XB K K.Ar.length):=by
 have H:=h.kc2;obtain⟨F,j,l,n,o⟩:=info_parts Yu;gi_enter func50,ntmps50;gi_wp2;gi_loopw [3,11] (λa i wr=>∃k:Nat,k<=K.Ar.length/\i=b_ k/\Aa No w wr/\wr.ownsRow w.heap.size 3 1 a k (XB K k)) (λ_ i _=>K.Ar.length-(intOf i).toNat)
 case atStart=>exact⟨0,wB,rfl,Aa.refl _ _,World.ownsRow_nil _ _ _ _⟩
 case round=>
  obtain⟨k,y,rfl,KK,p⟩:=hrel
  by_cases B:k<K.Ar.length
  .have f:K.Ar[k]?=some K.Ar[k]:=JM B;generalize K.Ar[k]=b at f;obtain⟨r,A⟩:=AY.mem hT f;have t:=h.no KK;have D:=t.mf f;have d1:=t.Iu A 0;simp only[ptr]at D;simp[PR.arr]at d1;have g:Aa No wr (wr.alloc (.cells #[b_ r.pid] 3)):=(Aa.refl _ _).alloc _;have c:∀q u,([b_ r.pid]:U_)[q]?=some u->(wr.alloc (.cells #[b_ r.pid] 3)).cell? (((R_ wr.heap.size):f_).add q)=some u:=λq u hq=>by
    match q,hq with
    |0,hq=>
     have E:(wr.alloc (.cells #[b_ r.pid] 3)).heap[wr.heap.size]?=some (N_ #[b_ r.pid] 3):=Yw rfl
     rw[Addr.add_lit]
     refine(Ai E 0).trans ?_
     simpa using hq
   have z:(wr.alloc (.cells #[b_ r.pid] 3)).ownsRow w.heap.size 3 1 _ k (XB K k):=Rx p g;gi_wp2_with (gi_at_builtin;refine wpListIn_append_own _ rfl (.tmp 15) (.tmp 20) 22 rfl w.heap.size 3 F (b_ 0) 1 8 underlying22 j l n o rfl sN _ k (XB K k) rfl z (R_ wr.heap.size) 1 1 [b_ r.pid] rfl rfl c (by simp[Value.oneCell']) (by unfold maxLen;omega) wB (lN KK.size g.size) ?_;intro I w4 d s _;have C:Aa No w w4:=(KK.then g).trans (Ef s λk y _=>y) (λx G e=>qx (z.lt x e).1 wB);clear s);go_roundw
   case rel=>exact⟨k+1,wB,by go_num,C,by rw[ϱ f A];exact d⟩
   case measure=>simp[intOf];omega
  .obtain rfl:k=K.Ar.length:=wB;gi_wp2;go_ret;exact⟨KK,by simpa using p⟩
end
theorem UU {e:Ending}(ok:DU NC NS K)(q:K.Ar[k]?=some b)(p:K.ps b=some r)(h:Aa No w w'/\am2 K r.pid w.heap.size e w'):Aa No w w'/\∃o a7 n7 c7 a8 n8 c8,e=.returned (.tuple #[.agg (Yt r o (.slice a7 n7 c7) (.slice a8 n8 c8)),b_ 0])/\StX K r o/\Xy w.heap.size (.slice a7 n7 c7) (ints r.Af) w'/\Xy w.heap.size (.slice a8 n8 c8) r.fds w':=by
 obtain⟨g,⟨f,j,o,l,m,c,a,i,e1,e2,e3,e4⟩|⟨_,d⟩⟩:=h
 .obtain rfl:=ok.one f j b r c (t_ q) a p wB;rw[p]at a;cases a;obtain⟨a7,c7,rfl,_⟩:=id e3;obtain⟨a8,c8,rfl,_⟩:=id e4;exact⟨g,o,a7,_,c7,a8,_,c8,e1,e2,e3,e4⟩
 .exact qx rfl (d b (t_ q) r p)
end Go.Fxa
