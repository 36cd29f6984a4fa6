/- Pick of the prog -/
import Derived.Test.YtmhplpfpcnjekaaGreatA31
import Derived.Test.YtmhplpfpcnjekaaGreatA34
namespace Go.Fxa
open Conc Proofs RowKit Proofs.Tryz
set_option maxRecDepth 1000000
set_option maxHeartbeats 0
variable {NC NS:Nat}{K K':KS}{pid n e:Int}{v v':o_}{told:n_}{CU:List Ev}
theorem Ϗ:(prog.funcs[19]?).any (·.norace)=false:=sU
theorem VU:ES prog 19=Tryz.f19.body.getD .skip:=sU
def aG (P:l_)(i:Nat):Code:=piece (behind i (ES P 19))
def pkX (P:l_):Code:=behind 2 (ES P 19)
def pkZ (P:l_):Code:=behind 5 (ES P 19)
theorem ap0:(aG prog 1).AP (Bh prog)=true:=sU
theorem nT:(aG prog 2).AP (Bh prog)=true:=sU
theorem nS:(aG prog 3).AP (Bh prog)=true:=sU
theorem ao9:(aG prog 4).AP (Bh prog)=true:=sU
theorem be8:pkX prog=(aG prog 2).seq ((aG prog 3).seq ((aG prog 4).seq (pkZ prog))):=sU
section
variable (kp pid n:n_)(cs:Z_)
def pA (P:l_:=prog):Frame×Z_:=run P 6 (Frame.enter P 19 #[kp,pid,n] .normal,cs)
theorem cv5:AU prog 6 (Frame.enter prog 19 #[kp,pid,n] .normal,cs)=some []:=sU
theorem cv4:Ea (pA kp pid n cs)=(19,[.code (aG prog 1),.code (pkX prog)],[],.run,.normal,none,cs):=sU
theorem cv3:X3 (pA kp pid n cs) [0,1,2]=[kp,pid,n]:=sU
theorem cv2:(pA kp pid n cs).1.tmps.size=27:=sU
variable (pa:f_)(f:Y_)(told:n_)(c0:Frame)
def pB (P:l_:=prog):Frame×Z_:=(Frame.mk 19 (TN 27 (AQ f [(0,kp),(2,n),(8,pv pa)])) [.code (pkZ P)] [] .run .normal none,cs)
def pC (P:l_:=prog):Frame:=(below (run P 6 (pB kp n cs pa f P))).1
theorem cv1:AU prog 6 (pB kp n cs pa f)=some []:=sU
theorem cv0:run prog 6 (pB kp n cs pa f)=(Frame.enter prog 56 #[kp,pv pa,n] .normal,pC kp n cs pa f::cs):=sU
theorem cu9:AU prog 5 ((pC kp n (c0::cs) pa f).finish told,c0::cs)=some []:=sU
theorem cu8:run prog 5 ((pC kp n (c0::cs) pa f).finish told,c0::cs)=(c0.finish (.tuple #[told,b_ 0]),cs):=sU
theorem bq9 (e:Int)(todo:List Item):AU prog 1 (Frame.mk 19 (TN 27 (AQ f [(6,told),(7,b_ e)])) todo [] .returning .normal none,c0::cs)=some []:=sU
theorem bq8 (e:Int)(todo:List Item):run prog 1 (Frame.mk 19 (TN 27 (AQ f [(6,told),(7,b_ e)])) todo [] .returning .normal none,c0::cs)=(c0.finish (.tuple #[told,b_ e]),cs):=sU
end
theorem ck6 (a pid n:n_)(cs:Z_):pA a pid n cs=(Frame.mk 19 (TN 27 (AQ (slot (pA a pid n cs)) [(0,a),(1,pid),(2,n)])) [.code (aG prog 1),.code (pkX prog)] [] .run .normal none,cs):=
 at_toldM (l:=[(0,a),(1,pid),(2,n)]) (cv4 a pid n cs) (cv3 a pid n cs) (cv2 a pid n cs)
def ay4 (e:Int)(w:o_)(tm:X_)(w':o_):Prop:=(∃g,tm=TN 27 (AQ g [(6,.slice none 0 0),(7,b_ e)]))/\Aa No w w'
def af0 (kp n p:n_)(w:o_)(tm:X_)(w':o_):Prop:=(∃g,tm=TN 27 (AQ g [(0,kp),(2,n),(8,p)]))/\Aa No w w'
def Xz (f:Y_)(a b c d:n_):X_:=#[a,b,c,f 3,f 4,f 5,f 6,f 7,d,f 9,f 10,f 11,f 12,f 13,f 14,f 15,f 16,f 17,f 18,f 19,f 20,f 21,f 22,f 23,f 24,f 25,f 26]
section
variable (m:Nat)(w:o_)(f:Y_)
def bn2 (K:KS)(pid:Int)(n:n_)(w:o_)(tm:X_)(w':o_):Prop:=∃v,μ K pid v/\af0 (ptr K.kb) n v w tm w'
theorem ϲ (K:KS)(pid:Int)(n:n_)(h:AY K w)(hT:K.ED)(c:K.Ar.length<=12):(aG prog 1).wpIn NF m prog (Ends (bn2 K pid n w)) ⟨TN 27 (AQ f [(0,ptr K.kb),(1,b_ pid),(2,n)]),[]⟩ w:=by
 unfold aG;rw[VU];dsimp only[Tryz.f19,Option.getD,behind,piece];show Code.wpIn (Fence.list LF none) m prog _ _ ⟨Xz f (ptr K.kb) (b_ pid) n (f 8),[]⟩ _;unfold Xz ptr;gi_wp2_with fail;refine(TQ _ w K pid h hT wB).mono ?_;rintro e w2 ⟨b,v,rfl,a⟩;gi_wp2;exact⟨rfl,rfl,v,a,⟨_,BH rfl (by simp[ptr])⟩,b⟩
theorem ap2 (a n:n_):(aG prog 2).wpIn NF m prog (SX (ay4 2 w)) ⟨TN 27 (AQ f [(0,a),(2,n),(8,.pointer none)]),[]⟩ w:=by
 unfold aG;rw[VU];dsimp only[Tryz.f19,Option.getD,behind,piece];show Code.wpIn (Fence.list LF none) m prog _ _ ⟨Xz f a (f 1) n (.pointer none),[]⟩ _;unfold Xz;gi_wp2;exact⟨rfl,rfl,⟨_,BH rfl sJ⟩,Aa.refl _ _⟩
theorem bf1 (a n:n_)(pa:f_):(aG prog 2).wpIn NF m prog (Ends (af0 a n (.pointer (some pa)) w)) ⟨TN 27 (AQ f [(0,a),(2,n),(8,.pointer (some pa))]),[]⟩ w:=by
 unfold aG;rw[VU];dsimp only[Tryz.f19,Option.getD,behind,piece];show Code.wpIn (Fence.list LF none) m prog _ _ ⟨Xz f a (f 1) n (.pointer (some pa)),[]⟩ _;unfold Xz;gi_wp2;exact⟨rfl,rfl,⟨_,BH rfl sJ⟩,Aa.refl _ _⟩
theorem ap1 (d p:n_)(n:Int)(c:¬(1<=n/\n<=1000)):(aG prog 3).wpIn NF m prog (SX (ay4 4 w)) ⟨TN 27 (AQ f [(0,d),(2,b_ n),(8,p)]),[]⟩ w:=by
 unfold aG;rw[VU];dsimp only[Tryz.f19,Option.getD,behind,piece];show Code.wpIn (Fence.list LF none) m prog _ _ ⟨Xz f d (f 1) (b_ n) p,[]⟩ _;unfold Xz;by_cases a:n<1
 .clear c;gi_wp2;exact⟨rfl,rfl,⟨_,BH rfl sJ⟩,Aa.refl _ _⟩
 .have b:1000<n:=wB
  clear c;gi_wp2;exact⟨rfl,rfl,⟨_,BH rfl sJ⟩,Aa.refl _ _⟩
theorem bf0 (a p:n_)(n:Int)(b:¬n<1)(c:¬1000<n):(aG prog 3).wpIn NF m prog (Ends (af0 a (b_ n) p w)) ⟨TN 27 (AQ f [(0,a),(2,b_ n),(8,p)]),[]⟩ w:=by
 unfold aG;rw[VU];dsimp only[Tryz.f19,Option.getD,behind,piece];show Code.wpIn (Fence.list LF none) m prog _ _ ⟨Xz f a (f 1) (b_ n) p,[]⟩ _;unfold Xz;gi_wp2;exact⟨rfl,rfl,⟨_,BH rfl sJ⟩,Aa.refl _ _⟩
def dc4 (K:KS)(kp n:n_)(b:Nat)(r:PR)(w:o_)(e:Exit)(a:Act)(w':o_):Prop:=a.defers=[]/\((e=.normal/\K.BV r=0/\af0 kp n (ptr b) w a.tmps w')\/(e=.ret/\K.BV r≠0/\ay4 3 w a.tmps w'))
theorem be9 (q n:n_)(K:KS)(b:Nat)(r:PR)(h:AY K w)(hT:K.ED)(t:K.Ar.length<=12)(hb:K.ps b=some r):(aG prog 4).wpIn NF m prog (dc4 K q n b r w) ⟨TN 27 (AQ f [(0,q),(2,n),(8,ptr b)]),[]⟩ w:=by
 unfold aG;rw[VU];dsimp only[Tryz.f19,Option.getD,behind,piece];show Code.wpIn (Fence.list LF none) m prog _ _ ⟨Xz f q (f 1) n (ptr b),[]⟩ _;unfold Xz ptr;have p:=λm=>jq m w K b r h hT hb wB
 gi_wp2_with fail;refine(p _).mono ?_;rintro e w2 ⟨j,s,rfl,o,d⟩;clear o;have a:s=0->Yp (K.BV r=0):=λe=>d.out.symm.trans e
 have c:s≠0->Yp (K.BV r≠0):=λe k=>e (d.out.trans k)
 clear d;by_cases g:s=0
 .have i:=a g;clear a c;subst g;gi_wp2;exact⟨rfl,.inl ⟨rfl,i,⟨_,BH rfl (by simp[ptr])⟩,j⟩⟩
 .have i:=c g;clear a c;have l:(s==0)=false:=by simpa using g
  gi_wp2;exact⟨rfl,.inr ⟨rfl,i,⟨_,BH rfl sJ⟩,j⟩⟩
end
def LW (K:KS)(pid n:Int)(CU:List Ev)(e:Int)(K':KS):Prop:=
 ((∀b∈K.Ar,∀r,K.ps b=some r->(r.pid:Int)≠pid)/\e=2/\CU=[]/\K'=K)\/∃b r,b∈K.Ar/\K.ps b=some r/\(r.pid:Int)=pid/\
  ((¬(1<=n/\n<=1000)/\e=4/\CU=[]/\K'=K)\/((1<=n/\n<=1000)/\K.BV r≠0/\e=3/\CU=[]/\K'=K)\/((1<=n/\n<=1000)/\K.BV r=0/\e=0/\ϕ b n.toNat K CU K'/\Rel b K K'))
structure GV (NC NS:Nat)(K:KS)(pid n:Int)(v:o_)(told:n_)(e:Int)(v':o_)(K':KS)(CU:List Ev):Prop where
 ka:AY K' v'
 ok:DU NC NS K'
 mv:BQ K.T K'.T v v'
 told:WQ v.heap.size K'.T told v' CU
 x:LW K pid n CU e K'
theorem GV.rel (h:GV NC NS K pid n v told e v' K' CU):K'=K\/∃b r,b∈K.Ar/\K.ps b=some r/\(r.pid:Int)=pid/\Rel b K K':=by
 obtain⟨_,_,_,e⟩|⟨b,r,a,c,d,⟨_,_,_,e⟩|⟨_,_,_,_,e⟩|⟨_,_,_,_,hR⟩⟩:=h.x
 .exact .inl e
 .exact .inl e
 .exact .inl e
 .exact .inr ⟨b,r,a,c,d,hR⟩
theorem GV.kb (h:GV NC NS K pid n v told e v' K' CU):K'.kb=K.kb:=by
 obtain e|⟨_,_,_,_,_,hR⟩:=h.rel
 .rw[e]
 .exact hR.kb
theorem Y2 {r:PR}(h:K.BV r=0):r.en=false:=by
 cases he:r.en with
 |false=>rfl
 |true=>unfold KS.BV at h;rw[he]at h;simp at h
section
variable {v:o_}{c0:Frame}{cs:Z_}{R:Frame×Z_->o_->Prop}
theorem Jg {Od:Old}(U:AY K v)(ok:DU NC NS K)(V:∀b r,b∈K.Ar->K.ps b=some r->(r.pid:Int)=pid->K.BV r=0->VZ NC NS b K n.toNat)
  (W:∀told e v' K' CU,GV NC NS K pid n v told e v' K' CU->ag Od prog (c0.finish (.tuple #[told,b_ e]),cs) v' R):
  ag Od prog (Frame.enter prog 19 #[ptr K.kb,b_ pid,b_ n] .normal,c0::cs) v R:=by
 have a:∀{e:Int} {v':o_},LW K pid n [] e K->Aa No v v'->ag Od prog (c0.finish (.tuple #[.slice none 0 0,b_ e]),cs) v' R:=fun {e v'} hb F=>W _ e v' K [] ⟨U.no F,ok,BQ.no F U.lt,⟨World.ownsRow_nil _ _ _ _,λg h=>by cases h⟩,hb⟩
 refine ag.AU (cv5 _ _ _ _) ?_;rw[show run prog 6 (Frame.enter prog 19 #[ptr K.kb,b_ pid,b_ n] .normal,c0::cs)=pA (ptr K.kb) (b_ pid) (b_ n) (c0::cs)from rfl,ck6];refine ag.part (m:=0) Ϗ rfl ap0 (λv1 q=>ϲ 0 v1 _ K pid (b_ n) (U.no q) ok.th ok.len) λv1 c v2 q ⟨p,L,⟨g,e⟩,H⟩=>?_
 subst e;have k2:=q.then H;rw[be8];obtain⟨b,r,rfl,k,hb,l⟩|⟨rfl,A⟩:=L
 .refine ag.seq (ag.part (m:=0) Ϗ rfl nT (λv1 _=>bf1 0 v1 _ _ _ _) λv3 c v4 s ⟨⟨I,e⟩,t⟩=>?_);subst e;have G:=k2.then (s.then t);by_cases o:1<=n/\n<=1000
  .refine ag.seq (ag.part (m:=0) Ϗ rfl nS (λv1 _=>bf0 0 v1 _ _ _ n wB wB) λO c v6 u ⟨⟨J,e⟩,w⟩=>?_);subst e;have B:=G.then (u.then w);refine ag.seq (ag.either (m:=0) (Q:=λv1 c D=>K.BV r=0/\af0 (ptr K.kb) (b_ n) (ptr b) v1 c D) (Q':=λv1 c D=>K.BV r≠0/\ay4 3 v1 c D) Ϗ rfl ao9 (λv1 j=>be9 0 v1 _ _ _ K b r (U.no (B.then j)) ok.th ok.len hb) (λP c S j ⟨f,⟨E,e⟩,y⟩=>?_) λP c d S j ⟨z,⟨E,e⟩,y⟩=>?_)
   .subst e;have C:=B.then (j.then y);obtain⟨N,rfl⟩:∃N:Nat,n=N:=⟨n.toNat,wB⟩;refine ag.AU (x:=pB (ptr K.kb) (b_ (N:Nat)) (c0::cs) (R_ b) E) (cv1 _ _ _ _ _) ?_;rw[cv0];refine aa8 (NC:=NC) (NS:=NS) wB (V b r k hb l f) (U.no C) ok hb (Y2 f) k λtold v' ⟨CU,K',T,i,M⟩=>?_
    refine ag.AU (cu9 _ _ _ _ _ _ _) ?_;rw[cu8];exact W told 0 v' K' CU ⟨i.ka,i.ok,(BQ.no C U.lt).trans i.mv,⟨fH i.told.row C.size,i.told.no⟩,.inr ⟨b,r,k,hb,l,.inr (.inr ⟨o,f,rfl,M,i.rel⟩)⟩⟩
   .subst e;refine ag.AU (bq9 _ _ _ _ _ _) ?_;rw[bq8];exact a (.inr ⟨b,r,k,hb,l,.inr (.inl ⟨o,z,rfl,rfl,rfl⟩)⟩) (B.then (j.then y))
  .refine ag.seq (ag.aP (m:=0) Ϗ rfl nS (λv1 _=>ap1 0 v1 _ _ _ n o) λO c d v6 u ⟨⟨J,e⟩,w⟩=>?_);subst e;refine ag.AU (bq9 _ _ _ _ _ _) ?_;rw[bq8];exact a (.inr ⟨b,r,k,hb,l,.inl ⟨o,rfl,rfl,rfl⟩⟩) (G.then (u.then w))
 .refine ag.seq (ag.aP (m:=0) Ϗ rfl nT (λv1 _=>ap2 0 v1 _ _ _) λv3 c d v4 s ⟨⟨I,e⟩,t⟩=>?_);subst e;refine ag.AU (bq9 _ _ _ _ _ _) ?_;rw[bq8];exact a (.inl ⟨A,rfl,rfl,rfl⟩) (k2.then (s.then t))
end
section
variable {c:Bool}{t t':Tag}{R S:Nat->Nat->Prop}{K L K' L':KS}{a b:Nat}{r s:PR}{ev ev':List Ev}
theorem Jo.swap (g:Jo t t' R K L):Jo t' t (λa b=>R b a) L K:=λa b c=>let ⟨h1,h2⟩:=g b a c;⟨h2,h1⟩
theorem ZO (h:CJ c t t' R S K L)(g:Jo t t' R K L)(d:S a b)(f:Last a K ev K')(i:Tu b L ev' L'):False:=Wv h.swap' g.swap d i f
theorem qG (h:CJ c t t' R S K L)(g:Jo t t' R K L)(l:S a b)(m:RI a K K')(o:RI b L L'):CJ c t t' R S K' L'/\Jo t t' R K' L':=by
 obtain⟨j,r,m1,e1,rfl,x1,d,_⟩:=m;obtain⟨k,s,m2,e2,rfl,i,f,_⟩:=o;have hI:=h.in_ l x1 i;have hR:=hI.row l e1 e2;exact⟨hI.Bj l ⟨hR.pid,hR.par,hR.st,hR.A,hR.B,hR.P,hR.sw,hR.en,hR.Af,hR.fds,hR.co,rfl,λe=>by simp[iD]at e⟩,g.ext d f⟩
theorem Run.at {b:Nat}{K:KS}:∀{j i:Nat} {ev:List Ev} {K':KS},Run b K j ev K'->i<j->∃e1 f e2 g,Run b K i e1 f/\Tu b f e2 g
 |j+1,i,_,_,h,hi=>by
  obtain⟨e1,e2,c,a,d,_⟩:=h
  by_cases e:i=j
  .subst e;exact⟨e1,c,e2,_,a,d⟩
  .exact Run.at a wB
theorem P7 (h:CJ c t t' R S K L)(g:Jo t t' R K L)(A:S a b):∀{j:Nat} {ev ev':List Ev} {K' L':KS},Run a K j ev K'->Run b L j ev' L'->Nx c S K' L'/\ev=ev'
 |0,_,_,_,_,d,f=>by
  obtain⟨rfl,rfl⟩:=d
  obtain⟨rfl,rfl⟩:=f
  exact⟨⟨t,t',R,S,h,g,λ_ _ e=>e⟩,rfl⟩
 |j+1,_,_,_,_,d,f=>by
  obtain⟨e1,e2,s,d,o,rfl⟩:=d
  obtain⟨w1,w2,w,f,p2,rfl⟩:=f
  obtain⟨⟨u,z,x,y,hI,l,up⟩,rfl⟩:=P7 h g A d f
  obtain⟨⟨v,r,R2,k,n,m,i⟩,rfl⟩:=ar7 hI l (up _ _ A) o p2
  exact⟨⟨v,r,R2,k,n,m,λp q e=>i p q (up p q e)⟩,rfl⟩
theorem ar5 {n:Nat}(h:CJ c t t' R S K L)(g:Jo t t' R K L)(V:S a b)(W:ϕ a n K ev K')(X:ϕ b n L ev' L'):Nx c S K' L'/\ev=ev':=by
 obtain⟨P,F,W⟩:=W;obtain⟨T,G,X⟩:=X;obtain⟨hI,k⟩:=qG h g V F G;obtain W|⟨j,e1,e2,Q,N,o,y,rfl⟩:=W<;>obtain X|⟨B,H,I,U,w,r,z,rfl⟩:=X
 .exact P7 hI k V W X
 .exfalso;obtain⟨_,C,_,_,q1,i⟩:=W.at w;obtain⟨⟨u,s,l,m,f,d,up⟩,_⟩:=P7 hI k V q1 r;exact Wv f d (up _ _ V) i z
 .exfalso;obtain⟨_,D,_,_,q1,i⟩:=X.at N;obtain⟨⟨u,s,l,m,f,d,up⟩,_⟩:=P7 hI k V o q1;exact ZO f d (up _ _ V) y i
 .have x:j=B:=by
   obtain e|e|e:=Nat.lt_trichotomy j B
   .exfalso;obtain⟨_,D,_,_,q1,i⟩:=r.at e;obtain⟨⟨u,s,l,m,f,d,up⟩,_⟩:=P7 hI k V o q1;exact ZO f d (up _ _ V) y i
   .exact e
   .exfalso;obtain⟨_,C,_,_,q1,i⟩:=o.at e;obtain⟨⟨u,s,l,m,f,d,up⟩,_⟩:=P7 hI k V q1 r;exact Wv f d (up _ _ V) i z
  subst x;obtain⟨⟨u,s,l,m,f,d,up⟩,rfl⟩:=P7 hI k V o r;obtain⟨⟨v,O,R2,E,M,J,A⟩,rfl⟩:=as4 f d (up _ _ V) y z;exact⟨⟨v,O,R2,E,M,J,λp q e=>A p q (up p q e)⟩,rfl⟩
theorem CJ.who (h:CJ c t t' R S K L)(o:DU NC NS L)(m1:a∈K.Ar)(e1:K.ps a=some r)(g:(r.pid:Int)=pid)(m2:b∈L.Ar)(e2:L.ps b=some s)(p2:(s.pid:Int)=pid):S a b:=by
 obtain⟨e,q1,d⟩:=h.Ar.ϒ m1;obtain⟨f,w1,w2⟩:=h.get d e1;obtain rfl:=o.one e f b s q1 m2 w1 e2 (by have:=w2.pid;omega);exact d
theorem CJ.sK (h:CJ c t t' R S K L)(m1:a∈K.Ar)(e1:K.ps a=some r)(i:(r.pid:Int)=pid)(g:∀b∈L.Ar,∀r,L.ps b=some r->(r.pid:Int)≠pid):False:=by
 obtain⟨d,q1,e⟩:=h.Ar.ϒ m1;obtain⟨f,w1,w2⟩:=h.get e e1;exact g d q1 f w1 (by rw[<-w2.pid];exact i)
theorem Y9 {x:Int}(h:CJ c t t' R S K L)(g:Jo t t' R K L)(o:DU NC NS L)(u:LW K pid n ev e K')(w:LW L pid n ev' x L'):Nx c S K' L'/\ev=ev'/\e=x:=by
 have a:Nx c S K L:=⟨t,t',R,S,h,g,λ_ _ e=>e⟩;obtain⟨d,rfl,rfl,rfl⟩|⟨m,q,d,p2,p3,u⟩:=u<;>obtain⟨q1,rfl,rfl,rfl⟩|⟨p,r,q1,f,k,w⟩:=w
 .exact⟨a,rfl,rfl⟩
 .exact(h.swap'.sK q1 f k d).elim
 .exact(h.sK d p2 p3 q1).elim
 have b:=h.who o d p2 p3 q1 f k;have j:=h.BV (h.row b p2 f);obtain⟨z1,rfl,rfl,rfl⟩|⟨z1,i,rfl,rfl,rfl⟩|⟨z1,i,rfl,l,_⟩:=u<;>obtain⟨w1,rfl,rfl,rfl⟩|⟨w1,w2,rfl,rfl,rfl⟩|⟨w1,w2,rfl,w3,_⟩:=w
 all_goals first
  |exact⟨a,rfl,rfl⟩
  |exact qx w1 z1
  |exact qx z1 w1
  |exact qx (j.trans w2) i
  |exact qx (j.symm.trans i) w2
  |skip
 obtain⟨hN,rfl⟩:=ar5 h g b l w3;exact⟨hN,rfl,rfl⟩
end
def ay5 (K:KS)(pid e:Int)(K':KS):Prop:=(rP K pid e/\K'=K)\/(e=0/\∃b r,LyB K pid b r/\XG b K K')
def InX (K:KS)(pid e:Int)(K':KS):Prop:=(rP K pid e/\K'=K)\/(e=0/\∃b r,LyB K pid b r/\lH b K K')
section
variable {c:Bool}{t t':Tag}{R S:Nat->Nat->Prop}{K L K' L':KS}{a b:Nat}{r s:PR}{pid e e':Int}{NC NS:Nat}
theorem CJ.lyS (h:CJ c t t' R S K L)(l:rP K pid e)(m:rP L pid e'):e=e':=by
 obtain⟨rfl,l⟩|⟨f,j,a,p2,p3,p4,rfl⟩:=l<;>obtain⟨rfl,m⟩|⟨g,k,q1,b,d,i,rfl⟩:=m
 .rfl
 .exact(h.swap'.sK q1 b d l).elim
 .exact(h.sK a p2 p3 m).elim
 .rfl
theorem CJ.lyN (h:CJ c t t' R S K L)(o:DU NC NS L)(l:rP K pid e)(m:LyB L pid b s):False:=by
 obtain⟨q1,d,f,i⟩:=m;obtain⟨rfl,l⟩|⟨j,k,g,p2,p3,p4,rfl⟩:=l
 .exact h.swap'.sK q1 d f l
 .have a:=h.who o g p2 p3 q1 d f;have:=(h.row a p2 d).en;rw[p4,i]at this;cases this
theorem CJ.cb8 (h:CJ c t t' R S K L)(o:DU NC NS L)(m:LyB K pid a r)(l:rP L pid e):False:=by
 obtain⟨d,p2,p3,p4⟩:=m;obtain⟨rfl,l⟩|⟨j,k,q1,f,g,i,rfl⟩:=l
 .exact h.sK d p2 p3 l
 .have b:=h.who o d p2 p3 q1 f g;have:=(h.row b p2 f).en;rw[p4,i]at this;cases this
theorem bh7 (h:CJ c t t' R S K L)(o:DU NC NS L)(j:ay5 K pid e K')(k:ay5 L pid e' L'):CJ c t t' R S K' L'/\e=e':=by
 obtain⟨j,rfl⟩|⟨rfl,d,g,a,p2⟩:=j<;>obtain⟨k,rfl⟩|⟨rfl,f,i,q1,b⟩:=k
 .exact⟨h,h.lyS j k⟩
 .exact(h.lyN o j q1).elim
 .exact(h.cb8 o a k).elim
 .exact⟨h.out (h.who o a.1 a.2.1 a.2.2.1 q1.1 q1.2.1 q1.2.2.1) p2 b,rfl⟩
theorem bw6 (h:CJ c t t' R S K L)(o:DU NC NS L)(j:InX K pid e K')(k:InX L pid e' L'):CJ c t t' R S K' L'/\e=e':=by
 obtain⟨j,rfl⟩|⟨rfl,d,g,a,p2⟩:=j<;>obtain⟨k,rfl⟩|⟨rfl,f,i,q1,b⟩:=k
 .exact⟨h,h.lyS j k⟩
 .exact(h.lyN o j q1).elim
 .exact(h.cb8 o a k).elim
 .exact⟨h.in_ (h.who o a.1 a.2.1 a.2.2.1 q1.1 q1.2.1 q1.2.2.1) p2 b,rfl⟩
theorem bh8 {b I ib fb N J C C' M H O:Nat}{Q U:Nat}{w w':o_}{P:Nat->n_×Nat×(Nat->Int)}{Af:List Nat}(X:c=true->C=C')(k1:AY K w)(k2:AY L w')(o1:DU NC NS K)(o2:DU Q U L)(p1:K.Ar=[b])(p2:L.Ar=[I])(r1:K.ps b=some (EI ib fb Af))(r2:L.ps I=some (EI N J Af))(Y:ay6 K b M O)(Z:ay6 L I M O)(V:ay7 K C H P)(W:ay7 L C' H P):
  CJ c K.T L.T (λp q=>∃i,i<16/\K.nm i=some p/\L.nm i=some q) (λp q=>p=b/\q=I) K L/\Jo K.T L.T (λp q=>∃i,i<16/\K.nm i=some p/\L.nm i=some q) K L:=by
 obtain⟨a1,a2,l,m,n,F⟩:=Y;obtain⟨o,r,s,t,u,G⟩:=Z;obtain⟨v,c2,⟨c3,_⟩,c4,f⟩:=V;obtain⟨d1,d2,_,d4,x⟩:=W;have h:∀{i p:Nat},i<16->K.nm i=some p->K.T p=(10,0):=λhi e=>(k1.nmc hi).2 _ e
 have k:∀{i p:Nat},i<16->L.nm i=some p->L.T p=(10,0):=λhi e=>(k2.nmc hi).2 _ e
 refine⟨⟨?_,?_,?_,?_,?_,?_,?_,?_,?_,?_,?_,?_,?_,?_,?_⟩,?_⟩
 .rintro p q A ⟨i,hi,e1,e2⟩ ⟨j,d,e3,e4⟩;obtain rfl:=o1.Ei.nm i j p hi d e1 e3;rw[e2]at e4;exact x_ e4
 .rintro p y q ⟨i,hi,e1,e2⟩ ⟨j,d,e3,e4⟩;obtain rfl:=o2.Ei.nm i j q hi d e2 e4;rw[e1]at e3;exact x_ e3
 .rintro p q ⟨i,hi,e1,e2⟩;have g:i<H:=by
   obtain e|e:=Nat.lt_or_ge i H
   .exact e
   .rw[f i e]at e1;cases e1
  obtain⟨z,z1,D⟩:=c4 i g;obtain⟨B,a,E⟩:=d4 i g;rw[e1]at z1;rw[e2]at a;cases z1;cases a;rw[h hi e1,k hi e2,D,E,n,u];exact⟨⟨rfl,λe=>by simp at e,rfl,rfl,rfl,λ_ _=>rfl,λe=>by simp at e⟩,rfl⟩
 .rintro p q A ⟨_,rfl⟩ ⟨_,rfl⟩;rfl
 .rintro p y q ⟨rfl,_⟩ ⟨rfl,_⟩;rfl
 .rintro p q ⟨rfl,rfl⟩;exact⟨_,_,r1,r2,rfl,rfl,rfl,rfl,rfl,rfl,rfl,rfl,rfl,rfl,λ_=>rfl,rfl,λe=>by simp[EI,iD]at e⟩
 .rw[p1,p2];exact⟨⟨rfl,rfl⟩,dE⟩
 .rw[a1,o]
 .intro e;rw[v,d1,X e]
 .rw[a2,r]
 .intro i;obtain e|e:=Nat.lt_or_ge i H
  .obtain⟨z,z1,_⟩:=c4 i e;obtain⟨B,a,_⟩:=d4 i e;rw[z1,a];exact⟨i,wB,z1,a⟩
  .rw[f i e,x i e];trivial
 .rw[l,s];trivial
 .intro i _;rw[m,t]
 .intro i _;rw[(c2 i).2,(d2 i).2];trivial
 .intro i _;rw[(c2 i).1,(d2 i).1];exact .inl ⟨rfl,rfl⟩
 .rintro p q ⟨i,hi,e1,e2⟩;rw[h hi e1,k hi e2];exact⟨⟨rfl,sJ⟩,rfl,sJ⟩
end
def Dj (K L:KS):Prop:=∀k,K.T k=(0,0)\/L.T k=(0,0)
section
variable {K L K' L':KS}{w w':o_}
theorem Dj.symm (h:Dj K L):Dj L K:=λk=>(h k).symm
theorem AY.other (h:AY L w)(M:BQ K.T K'.T w w')(d:Dj K L):AY L w':=
 h.keep ((CG.keep M).on λk _ e=>(d k).resolve_left e) λb hb=>h.lt b (lN (CG.keep M).size hb)
theorem Dj.GZ (d:Dj K L)(h:AY L w)(M:BQ K.T K'.T w w'):Dj K' L:=λk=>by
 by_cases a:k<w.heap.size
 .rw[CG.fresh M k a];exact d k
 .exact .inr (h.lt k wB)
theorem Dj.new (h:AY K w)(hL:∀k,L.T k≠(0,0)->w.heap.size<=k):Dj K L:=λk=>by
 by_cases e:L.T k=(0,0)
 .exact .inr e
 .exact .inl (h.lt k (hL k e))
structure Two (c:Bool)(NC NS QB UA:Nat)(K L:KS)(w:o_):Prop where
 ka:AY K w
 kb:AY L w
 ok:DU NC NS K
 ol:DU QB UA L
 dj:Dj K L
 al:∃t t' R S,CJ c t t' R S K L/\Jo t t' R K L
variable {c:Bool}{NC NS QB UA:Nat}{S:Nat->Nat->Prop}
theorem Two.no (h:Two c NC NS QB UA K L w)(a:Aa No w w'):Two c NC NS QB UA K L w':=⟨h.ka.no a,h.kb.no a,h.ok,h.ol,h.dj,h.al⟩
theorem Nx.al (h:Nx c S K L):∃t a R S,CJ c t a R S K L/\Jo t a R K L:=let ⟨u,u',R',S',h1,h2,_⟩:=h;⟨u,u',R',S',h1,h2⟩
theorem Two.pick {e1 e2:Int}{v1 v2:o_}{k j:n_}{f m:List Ev}{K1 l:KS}(h:Two c NC NS QB UA K L v)(g:GV NC NS K pid n v k e1 v1 K1 f)(i:GV QB UA L pid n v1 j e2 v2 l m):Two c NC NS QB UA K1 l v2/\f=m/\e1=e2:=by
 obtain⟨t,e,R,S,hI,a⟩:=h.al;obtain⟨hN,b,d⟩:=Y9 hI a h.ol g.x i.x;have d1:=h.dj.GZ h.kb g.mv;exact⟨⟨g.ka.other i.mv d1.symm,i.ka,g.ok,i.ok,(d1.symm.GZ g.ka i.mv).symm,hN.al⟩,b,d⟩
end
end Go.Fxa
