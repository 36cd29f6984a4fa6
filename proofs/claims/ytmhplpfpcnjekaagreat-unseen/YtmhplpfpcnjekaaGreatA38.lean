/- Pick of the program, from its -/
import Derived.Test.YtmhplpfpcnjekaaGreatA37
namespace Go.Fxa
open Conc Proofs RowKit Proofs.Tryz
set_option maxRecDepth 1000000
set_option maxHeartbeats 0
variable {NC NS base k b:Nat} {K K':KS} {pid n e:Int} {v told:n_} {v' w w':o_} {CQ:List Ev} {r:PR} {l:List Int}
theorem zU:(prog.funcs[19]?).any (·.norace)=false:=sJ
theorem Vj:GK prog 19=Tryz.f19.body.getD .skip:=sJ
def Zw (P:l_) (i:Nat):Code:=piece (behind i (GK P 19))
def pkX (P:l_):Code:=behind 2 (GK P 19)
def pkZ (P:l_):Code:=behind 5 (GK P 19)
theorem al3:(Zw prog 1).Bv (CE prog)=true:=sJ
theorem lq:(Zw prog 2).Bv (CE prog)=true:=sJ
theorem lh:(Zw prog 3).Bv (CE prog)=true:=sJ
theorem al2:(Zw prog 4).Bv (CE prog)=true:=sJ
theorem az1:pkX prog=(Zw prog 2).seq ((Zw prog 3).seq ((Zw prog 4).seq (pkZ prog))):=sJ
section
variable (kp pid n:n_) (cs:Z_)
def pA (P:l_:=prog):Frame×Z_:=run P 6 (Frame.enter P 19 #[kp,pid,n] .normal,cs)
theorem cj0:AU prog 6 (Frame.enter prog 19 #[kp,pid,n] .normal,cs)=some []:=sJ
theorem ci9:DW (pA kp pid n cs)=(19,[.code (Zw prog 1),.code (pkX prog)],[],.run,.normal,none,cs):=sJ
theorem ci8:Yr (pA kp pid n cs) [0,1,2]=[kp,pid,n]:=sJ
theorem ci7:(pA kp pid n cs).1.tmps.size=27:=sJ
variable (pa:f_) (f:Y_) (told:n_) (c0:Frame)
def pB (P:l_:=prog):Frame×Z_:=(Frame.mk 19 (TN 27 (A8 f [(0,kp),(2,n),(8,pv pa)])) [.code (pkZ P)] [] .run .normal none,cs)
def pC (P:l_:=prog):Frame:=(below (run P 6 (pB kp n cs pa f P))).1
theorem ci6:AU prog 6 (pB kp n cs pa f)=some []:=sJ
theorem ci5:run prog 6 (pB kp n cs pa f)=(Frame.enter prog 56 #[kp,pv pa,n] .normal,pC kp n cs pa f::cs):=sJ
theorem ci4:AU prog 5 ((pC kp n (c0::cs) pa f).finish told,c0::cs)=some []:=sJ
theorem ci2:run prog 5 ((pC kp n (c0::cs) pa f).finish told,c0::cs)=(c0.finish (.tuple #[told,b_ 0]),cs):=sJ
theorem bl2 (e:Int) (todo:List Item):AU prog 1 (Frame.mk 19 (TN 27 (A8 f [(6,told),(7,b_ e)])) todo [] .returning .normal none,c0::cs)=some []:=sJ
theorem bl1 (e:Int) (todo:List Item):run prog 1 (Frame.mk 19 (TN 27 (A8 f [(6,told),(7,b_ e)])) todo [] .returning .normal none,c0::cs)=(c0.finish (.tuple #[told,b_ e]),cs):=sJ
end
theorem bz4 (a pid n:n_) (cs:Z_):pA a pid n cs=(Frame.mk 19 (TN 27 (A8 (slot (pA a pid n cs)) [(0,a),(1,pid),(2,n)])) [.code (Zw prog 1),.code (pkX prog)] [] .run .normal none,cs):=
 at_toldM (l:=[(0,a),(1,pid),(2,n)]) (ci9 a pid n cs) (ci8 a pid n cs) (ci7 a pid n cs)
def au6 (e:Int) (w:o_) (tm:X_) (w':o_):Prop:=(∃g,tm=TN 27 (A8 g [(6,.slice none 0 0),(7,b_ e)]))/\Ac No w w'
def ab7 (kp n p:n_) (w:o_) (tm:X_) (w':o_):Prop:=(∃g,tm=TN 27 (A8 g [(0,kp),(2,n),(8,p)]))/\Ac No w w'
def WH (f:Y_) (a b c d:n_):X_:=#[a,b,c,f 3,f 4,f 5,f 6,f 7,d,f 9,f 10,f 11,f 12,f 13,f 14,f 15,f 16,f 17,f 18,f 19,f 20,f 21,f 22,f 23,f 24,f 25,f 26]
section
variable (m:Nat) (w:o_) (f:Y_)
def bh2 (K:KS) (pid:Int) (n:n_) (w:o_) (tm:X_) (w':o_):Prop:=∃v,zB K pid v/\ab7 (ptr K.kb) n v w tm w'
theorem ο (K:KS) (pid:Int) (n:n_) (h:AV K w) (c:K.EJ) (d:K.Aw.length<=12):(Zw prog 1).wpIn NF m prog (Ends (bh2 K pid n w)) ⟨TN 27 (A8 f [(0,ptr K.kb),(1,b_ pid),(2,n)]),[]⟩ w:=by
 unfold Zw;rw[Vj];dsimp only[Tryz.f19,Option.getD,behind,piece];show Code.wpIn (Fence.list LF none) m prog _ _ ⟨WH f (ptr K.kb) (b_ pid) n (f 8),[]⟩ _;unfold WH ptr;gi_wp2_with fail;refine(fD _ w K pid h c zD).mono ?_;rintro e w2 ⟨b,v,rfl,a⟩;gi_wp2;exact⟨rfl,rfl,v,a,⟨_,Ea rfl (by simp[ptr])⟩,b⟩
theorem al5 (a n:n_):(Zw prog 2).wpIn NF m prog (WM (au6 2 w)) ⟨TN 27 (A8 f [(0,a),(2,n),(8,.pointer none)]),[]⟩ w:=by
 unfold Zw;rw[Vj];dsimp only[Tryz.f19,Option.getD,behind,piece];show Code.wpIn (Fence.list LF none) m prog _ _ ⟨WH f a (f 1) n (.pointer none),[]⟩ _;unfold WH;gi_wp2;exact⟨rfl,rfl,⟨_,Ea rfl zF⟩,Ac.refl _ _⟩
theorem az4 (a n:n_) (pa:f_):(Zw prog 2).wpIn NF m prog (Ends (ab7 a n (.pointer (some pa)) w)) ⟨TN 27 (A8 f [(0,a),(2,n),(8,.pointer (some pa))]),[]⟩ w:=by
 unfold Zw;rw[Vj];dsimp only[Tryz.f19,Option.getD,behind,piece];show Code.wpIn (Fence.list LF none) m prog _ _ ⟨WH f a (f 1) n (.pointer (some pa)),[]⟩ _;unfold WH;gi_wp2;exact⟨rfl,rfl,⟨_,Ea rfl zF⟩,Ac.refl _ _⟩
theorem al4 (d p:n_) (n:Int) (c:¬(1<=n/\n<=1000)):(Zw prog 3).wpIn NF m prog (WM (au6 4 w)) ⟨TN 27 (A8 f [(0,d),(2,b_ n),(8,p)]),[]⟩ w:=by
 unfold Zw;rw[Vj];dsimp only[Tryz.f19,Option.getD,behind,piece];show Code.wpIn (Fence.list LF none) m prog _ _ ⟨WH f d (f 1) (b_ n) p,[]⟩ _;unfold WH;by_cases a:n<1
 .clear c;gi_wp2;exact⟨rfl,rfl,⟨_,Ea rfl zF⟩,Ac.refl _ _⟩
 .have b:1000<n:=zD
  clear c;gi_wp2;exact⟨rfl,rfl,⟨_,Ea rfl zF⟩,Ac.refl _ _⟩
theorem az3 (a p:n_) (n:Int) (c:¬n<1) (d:¬1000<n):(Zw prog 3).wpIn NF m prog (Ends (ab7 a (b_ n) p w)) ⟨TN 27 (A8 f [(0,a),(2,b_ n),(8,p)]),[]⟩ w:=by
 unfold Zw;rw[Vj];dsimp only[Tryz.f19,Option.getD,behind,piece];show Code.wpIn (Fence.list LF none) m prog _ _ ⟨WH f a (f 1) (b_ n) p,[]⟩ _;unfold WH;gi_wp2;exact⟨rfl,rfl,⟨_,Ea rfl zF⟩,Ac.refl _ _⟩
def cq4 (K:KS) (kp n:n_) (b:Nat) (r:PR) (w:o_) (e:Exit) (a:Act) (w':o_):Prop:=a.defers=[]/\((e=.normal/\K.Ec r=0/\ab7 kp n (ptr b) w a.tmps w')\/(e=.ret/\K.Ec r≠0/\au6 3 w a.tmps w'))
theorem az2 (q n:n_) (K:KS) (b:Nat) (r:PR) (h:AV K w) (t:K.EJ) (x:K.Aw.length<=12) (u:K.ps b=some r):(Zw prog 4).wpIn NF m prog (cq4 K q n b r w) ⟨TN 27 (A8 f [(0,q),(2,n),(8,ptr b)]),[]⟩ w:=by
 unfold Zw;rw[Vj];dsimp only[Tryz.f19,Option.getD,behind,piece];show Code.wpIn (Fence.list LF none) m prog _ _ ⟨WH f q (f 1) n (ptr b),[]⟩ _;unfold WH ptr;have p:=λm=>yt m w K b r h t u zD
 gi_wp2_with fail;refine(p _).mono ?_;rintro e w2 ⟨j,s,rfl,o,d⟩;clear o;have a:s=0->ag (K.Ec r=0):=λe=>d.out.symm.trans e
 have c:s≠0->ag (K.Ec r≠0):=λe k=>e (d.out.trans k)
 clear d;by_cases g:s=0
 .have i:=a g;clear a c;subst g;gi_wp2;exact⟨rfl,.inl ⟨rfl,i,⟨_,Ea rfl (by simp[ptr])⟩,j⟩⟩
 .have i:=c g;clear a c;have l:(s==0)=false:=by simpa using g
  gi_wp2;exact⟨rfl,.inr ⟨rfl,i,⟨_,Ea rfl zF⟩,j⟩⟩
end
def ku (K:KS) (pid n:Int) (CQ:List Ev) (e:Int) (K':KS):Prop:=
 ((∀b∈K.Aw,∀r,K.ps b=some r->(r.pid:Int)≠pid)/\e=2/\CQ=[]/\K'=K)\/∃b r,b∈K.Aw/\K.ps b=some r/\(r.pid:Int)=pid/\
  ((¬(1<=n/\n<=1000)/\e=4/\CQ=[]/\K'=K)\/((1<=n/\n<=1000)/\K.Ec r≠0/\e=3/\CQ=[]/\K'=K)\/((1<=n/\n<=1000)/\K.Ec r=0/\e=0/\Α b n.toNat K CQ K'/\Rel b K K'))
structure ND (NC NS:Nat) (K:KS) (pid n:Int) (v:o_) (told:n_) (e:Int) (v':o_) (K':KS) (CQ:List Ev):Prop where
 ka:AV K' v'
 ok:Eo NC NS K'
 mv:BN K.T K'.T v v'
 told:VW v.heap.size K'.T told v' CQ
 x:ku K pid n CQ e K'
theorem ND.rel {v:o_} (h:ND NC NS K pid n v told e v' K' CQ):K'=K\/∃b r,b∈K.Aw/\K.ps b=some r/\(r.pid:Int)=pid/\Rel b K K':=by
 obtain⟨_,_,_,e⟩|⟨b,r,a,c,d,⟨_,_,_,e⟩|⟨_,_,_,_,e⟩|⟨_,_,_,_,f⟩⟩:=h.x
 .exact .inl e
 .exact .inl e
 .exact .inl e
 .exact .inr ⟨b,r,a,c,d,f⟩
theorem ND.kb {v:o_} (h:ND NC NS K pid n v told e v' K' CQ):K'.kb=K.kb:=by
 obtain e|⟨_,_,_,_,_,a⟩:=h.rel
 .rw[e]
 .exact a.kb
theorem ak8 (h:K.Ec r=0):r.en=false:=by
 cases he:r.en with
 |false=>rfl
 |true=>unfold KS.Ec at h;rw[he]at h;simp at h
section
variable {v:o_} {c0:Frame} {cs:Z_} {R:Frame×Z_->o_->Prop}
theorem Vz {Od:Old} (V:AV K v) (ok:Eo NC NS K) (W:∀b r,b∈K.Aw->K.ps b=some r->(r.pid:Int)=pid->K.Ec r=0->Vp NC NS b K n.toNat)
  (X:∀told e v' K' CQ,ND NC NS K pid n v told e v' K' CQ->eP Od prog (c0.finish (.tuple #[told,b_ e]),cs) v' R):
  eP Od prog (Frame.enter prog 19 #[ptr K.kb,b_ pid,b_ n] .normal,c0::cs) v R:=by
 have a:∀{e:Int} {v':o_},ku K pid n [] e K->Ac No v v'->eP Od prog (c0.finish (.tuple #[.slice none 0 0,b_ e]),cs) v' R:=fun {e v'} d G=>X _ e v' K [] ⟨V.no G,ok,BN.no G V.lt,⟨World.ownsRow_nil _ _ _ _,λg h=>by cases h⟩,d⟩
 refine eP.AU (cj0 _ _ _ _) ?_;rw[show run prog 6 (Frame.enter prog 19 #[ptr K.kb,b_ pid,b_ n] .normal,c0::cs)=pA (ptr K.kb) (b_ pid) (b_ n) (c0::cs)from rfl,bz4];refine eP.part (m:=0) zU rfl al3 (λv1 s=>ο 0 v1 _ K pid (b_ n) (V.no s) ok.th ok.len) λv1 c v2 s ⟨p,M,⟨g,e⟩,I⟩=>?_
 subst e;have k2:=s.then I;rw[az1];obtain⟨b,r,rfl,l,d,o⟩|⟨rfl,B⟩:=M
 .refine eP.seq (eP.part (m:=0) zU rfl lq (λv1 _=>az4 0 v1 _ _ _ _) λv3 c v4 t ⟨⟨J,e⟩,u⟩=>?_);subst e;have H:=k2.then (t.then u);by_cases q:1<=n/\n<=1000
  .refine eP.seq (eP.part (m:=0) zU rfl lh (λv1 _=>az3 0 v1 _ _ _ n zD zD) λP c v6 w ⟨⟨L,e⟩,y⟩=>?_);subst e;have C:=H.then (w.then y);refine eP.seq (eP.either (m:=0) (Q:=λv1 c E=>K.Ec r=0/\ab7 (ptr K.kb) (b_ n) (ptr b) v1 c E) (Q':=λv1 c E=>K.Ec r≠0/\au6 3 v1 c E) zU rfl al2 (λv1 k=>az2 0 v1 _ _ _ K b r (V.no (C.then k)) ok.th ok.len d) (λS c T k ⟨i,⟨F,e⟩,z⟩=>?_) λS c f T k ⟨A,⟨F,e⟩,z⟩=>?_)
   .subst e;have D:=C.then (k.then z);obtain⟨N,rfl⟩:∃N:Nat,n=N:=⟨n.toNat,zD⟩;refine eP.AU (x:=pB (ptr K.kb) (b_ (N:Nat)) (c0::cs) (R_ b) F) (ci6 _ _ _ _ _) ?_;rw[ci5];refine ϑ (NC:=NC) (NS:=NS) zD (W b r l d o i) (V.no D) ok d (ak8 i) l λtold v' ⟨CQ,K',U,j,O⟩=>?_
    refine eP.AU (ci4 _ _ _ _ _ _ _) ?_;rw[ci2];exact X told 0 v' K' CQ ⟨j.ka,j.ok,(BN.no D V.lt).trans j.mv,⟨bG j.told.row D.size,j.told.no⟩,.inr ⟨b,r,l,d,o,.inr (.inr ⟨q,i,rfl,O,j.rel⟩)⟩⟩
   .subst e;refine eP.AU (bl2 _ _ _ _ _ _) ?_;rw[bl1];exact a (.inr ⟨b,r,l,d,o,.inr (.inl ⟨q,A,rfl,rfl,rfl⟩)⟩) (C.then (k.then z))
  .refine eP.seq (eP.zS (m:=0) zU rfl lh (λv1 _=>al4 0 v1 _ _ _ n q) λP c f v6 w ⟨⟨L,e⟩,y⟩=>?_);subst e;refine eP.AU (bl2 _ _ _ _ _ _) ?_;rw[bl1];exact a (.inr ⟨b,r,l,d,o,.inl ⟨q,rfl,rfl,rfl⟩⟩) (H.then (w.then y))
 .refine eP.seq (eP.zS (m:=0) zU rfl lq (λv1 _=>al5 0 v1 _ _ _) λv3 c f v4 t ⟨⟨J,e⟩,u⟩=>?_);subst e;refine eP.AU (bl2 _ _ _ _ _ _) ?_;rw[bl1];exact a (.inl ⟨B,rfl,rfl,rfl⟩) (k2.then (t.then u))
end
section
variable {c:Bool} {t t':Tag} {R S:Nat->Nat->Prop} {K L K' L':KS} {a b:Nat} {r s:PR} {ev ev':List Ev}
theorem JK.swap (g:JK t t' R K L):JK t' t (λa b=>R b a) L K:=λa b c=>let ⟨h1,h2⟩:=g b a c;⟨h2,h1⟩
theorem Y2 (h:CZ c t t' R S K L) (g:JK t t' R K L) (d:S a b) (f:Last a K ev K') (i:VX b L ev' L'):False:=VH h.swap' g.swap d i f
theorem oz (h:CZ c t t' R S K L) (g:JK t t' R K L) (o:S a b) (p:Xt a K K') (q:Xt b L L'):CZ c t t' R S K' L'/\JK t t' R K' L':=by
 obtain⟨l,r,m1,e1,rfl,x1,i,_⟩:=p;obtain⟨m,s,m2,e2,rfl,k,j,_⟩:=q;have f:=h.in_ o x1 k;have d:=f.row o e1 e2;exact⟨f.Bi o ⟨d.pid,d.par,d.st,d.A,d.B,d.P,d.sw,d.en,d.Af,d.fds,d.co,rfl,λe=>by simp[dK]at e⟩,g.ext i j⟩
theorem Run.at {b:Nat} {K:KS}:∀{j i:Nat} {ev:List Ev} {K':KS},Run b K j ev K'->i<j->∃e1 g e2 m,Run b K i e1 g/\VX b g e2 m
 |j+1,i,_,_,h,f=>by
  obtain⟨e1,e2,c,a,d,_⟩:=h
  by_cases e:i=j
  .subst e;exact⟨e1,c,e2,_,a,d⟩
  .exact Run.at a zD
theorem PH (h:CZ c t t' R S K L) (g:JK t t' R K L) (B:S a b):∀{j:Nat} {ev ev':List Ev} {K' L':KS},Run a K j ev K'->Run b L j ev' L'->Nx c S K' L'/\ev=ev'
 |0,_,_,_,_,d,f=>by
  obtain⟨rfl,rfl⟩:=d
  obtain⟨rfl,rfl⟩:=f
  exact⟨⟨t,t',R,S,h,g,λ_ _ e=>e⟩,rfl⟩
 |j+1,_,_,_,_,d,f=>by
  obtain⟨e1,e2,w,d,r,rfl⟩:=d
  obtain⟨w1,w2,x,f,p2,rfl⟩:=f
  obtain⟨⟨u,A,y,z,n,l,up⟩,rfl⟩:=PH h g B d f
  obtain⟨⟨v,s,R2,k,o,m,i⟩,rfl⟩:=an6 n l (up _ _ B) r p2
  exact⟨⟨v,s,R2,k,o,m,λp q e=>i p q (up p q e)⟩,rfl⟩
theorem an4 {n:Nat} (h:CZ c t t' R S K L) (g:JK t t' R K L) (W:S a b) (X:Α a n K ev K') (Y:Α b n L ev' L'):Nx c S K' L'/\ev=ev':=by
 obtain⟨Q,G,X⟩:=X;obtain⟨U,H,Y⟩:=Y;obtain⟨l,k⟩:=oz h g W G H;obtain X|⟨j,e1,e2,T,O,r,z,rfl⟩:=X<;>obtain Y|⟨C,I,J,V,x,s,A,rfl⟩:=Y
 .exact PH l k W X Y
 .exfalso;obtain⟨_,D,_,_,q1,i⟩:=X.at x;obtain⟨⟨u,w,m,o,f,d,up⟩,_⟩:=PH l k W q1 s;exact VH f d (up _ _ W) i A
 .exfalso;obtain⟨_,E,_,_,q1,i⟩:=Y.at O;obtain⟨⟨u,w,m,o,f,d,up⟩,_⟩:=PH l k W r q1;exact Y2 f d (up _ _ W) z i
 .have y:j=C:=by
   obtain e|e|e:=Nat.lt_trichotomy j C
   .exfalso;obtain⟨_,E,_,_,q1,i⟩:=s.at e;obtain⟨⟨u,w,m,o,f,d,up⟩,_⟩:=PH l k W r q1;exact Y2 f d (up _ _ W) z i
   .exact e
   .exfalso;obtain⟨_,D,_,_,q1,i⟩:=r.at e;obtain⟨⟨u,w,m,o,f,d,up⟩,_⟩:=PH l k W q1 s;exact VH f d (up _ _ W) i A
  subst y;obtain⟨⟨u,w,m,o,f,d,up⟩,rfl⟩:=PH l k W r s;obtain⟨⟨v,P,R2,F,N,M,B⟩,rfl⟩:=ao2 f d (up _ _ W) z A;exact⟨⟨v,P,R2,F,N,M,λp q e=>B p q (up p q e)⟩,rfl⟩
theorem CZ.who (h:CZ c t t' R S K L) (o:Eo NC NS L) (m1:a∈K.Aw) (e1:K.ps a=some r) (g:(r.pid:Int)=pid) (m2:b∈L.Aw) (e2:L.ps b=some s) (p2:(s.pid:Int)=pid):S a b:=by
 obtain⟨e,q1,d⟩:=h.Aw.zX m1;obtain⟨f,w1,w2⟩:=h.get d e1;obtain rfl:=o.one e f b s q1 m2 w1 e2 (by have:=w2.pid;omega);exact d
theorem CZ.bs5 (h:CZ c t t' R S K L) (m1:a∈K.Aw) (e1:K.ps a=some r) (i:(r.pid:Int)=pid) (g:∀b∈L.Aw,∀r,L.ps b=some r->(r.pid:Int)≠pid):False:=by
 obtain⟨d,q1,e⟩:=h.Aw.zX m1;obtain⟨f,w1,w2⟩:=h.get e e1;exact g d q1 f w1 (by rw[<-w2.pid];exact i)
theorem ao0 {y:Int} (h:CZ c t t' R S K L) (g:JK t t' R K L) (o:Eo NC NS L) (u:ku K pid n ev e K') (x:ku L pid n ev' y L'):Nx c S K' L'/\ev=ev'/\e=y:=by
 have a:Nx c S K L:=⟨t,t',R,S,h,g,λ_ _ e=>e⟩;obtain⟨d,rfl,rfl,rfl⟩|⟨p,r,d,p2,p3,u⟩:=u<;>obtain⟨q1,rfl,rfl,rfl⟩|⟨q,s,q1,f,k,x⟩:=x
 .exact⟨a,rfl,rfl⟩
 .exact(h.swap'.bs5 q1 f k d).elim
 .exact(h.bs5 d p2 p3 q1).elim
 have b:=h.who o d p2 p3 q1 f k;have j:=h.Ec (h.row b p2 f);obtain⟨z1,rfl,rfl,rfl⟩|⟨z1,i,rfl,rfl,rfl⟩|⟨z1,i,rfl,m,_⟩:=u<;>obtain⟨w1,rfl,rfl,rfl⟩|⟨w1,w2,rfl,rfl,rfl⟩|⟨w1,w2,rfl,w3,_⟩:=x
 all_goals first
  |exact⟨a,rfl,rfl⟩
  |exact ql w1 z1
  |exact ql z1 w1
  |exact ql (j.trans w2) i
  |exact ql (j.symm.trans i) w2
  |skip
 obtain⟨l,rfl⟩:=an4 h g b m w3;exact⟨l,rfl,rfl⟩
end
section
variable {c:Bool} {t t':Tag} {R S:Nat->Nat->Prop} {K L K' L':KS} {a b:Nat} {r s:PR} {pid e e':Int} {NC NS:Nat}
theorem bc6 {b J ib fb O N C C' M I P:Nat} {Y X:Nat} {Q:Nat->n_×Nat×(Nat->Int)} {Af:List Nat} (W:c=true->C=C') (k1:AV K w) (k2:AV L w') (o1:Eo NC NS K) (o2:Eo Y X L) (p1:K.Aw=[b]) (p2:L.Aw=[J]) (r1:K.ps b=some (EE ib fb Af)) (r2:L.ps J=some (EE O N Af)) (Z:au7 K b M P) (n2:au7 L J M P) (U:au8 K C I Q) (V:au8 L C' I Q):
  CZ c K.T L.T (λp q=>∃i,i<16/\K.nm i=some p/\L.nm i=some q) (λp q=>p=b/\q=J) K L/\JK K.T L.T (λp q=>∃i,i<16/\K.nm i=some p/\L.nm i=some q) K L:=by
 obtain⟨a1,a2,m,n,o,G⟩:=Z;obtain⟨r,s,t,u,v,H⟩:=n2;obtain⟨x,c2,⟨c3,_⟩,c4,g⟩:=U;obtain⟨d1,d2,_,d4,y⟩:=V;have k:∀{i p:Nat},i<16->K.nm i=some p->K.T p=(10,0):=λa e=>(k1.ϲ a).2 _ e
 have l:∀{i p:Nat},i<16->L.nm i=some p->L.T p=(10,0):=λa e=>(k2.ϲ a).2 _ e
 refine⟨⟨?_,?_,?_,?_,?_,?_,?_,?_,?_,?_,?_,?_,?_,?_,?_⟩,?_⟩
 .rintro p q B ⟨i,a,e1,e2⟩ ⟨j,f,e3,e4⟩;obtain rfl:=o1.Ef.nm i j p a f e1 e3;rw[e2]at e4;exact x_ e4
 .rintro p z q ⟨i,a,e1,e2⟩ ⟨j,f,e3,e4⟩;obtain rfl:=o2.Ef.nm i j q a f e2 e4;rw[e1]at e3;exact x_ e3
 .rintro p q ⟨i,a,e1,e2⟩;have h:i<I:=by
   obtain e|e:=Nat.lt_or_ge i I
   .exact e
   .rw[g i e]at e1;cases e1
  obtain⟨A,z1,E⟩:=c4 i h;obtain⟨D,d,F⟩:=d4 i h;rw[e1]at z1;rw[e2]at d;cases z1;cases d;rw[k a e1,l a e2,E,F,o,v];exact⟨⟨rfl,λe=>by simp at e,rfl,rfl,rfl,λ_ _=>rfl,λe=>by simp at e⟩,rfl⟩
 .rintro p q B ⟨_,rfl⟩ ⟨_,rfl⟩;rfl
 .rintro p z q ⟨rfl,_⟩ ⟨rfl,_⟩;rfl
 .rintro p q ⟨rfl,rfl⟩;exact⟨_,_,r1,r2,rfl,rfl,rfl,rfl,rfl,rfl,rfl,rfl,rfl,rfl,λ_=>rfl,rfl,λe=>by simp[EE,dK]at e⟩
 .rw[p1,p2];exact⟨⟨rfl,rfl⟩,eu⟩
 .rw[a1,r]
 .intro e;rw[x,d1,W e]
 .rw[a2,s]
 .intro i;obtain e|e:=Nat.lt_or_ge i I
  .obtain⟨A,z1,_⟩:=c4 i e;obtain⟨D,d,_⟩:=d4 i e;rw[z1,d];exact⟨i,zD,z1,d⟩
  .rw[g i e,y i e];trivial
 .rw[m,t];trivial
 .intro i _;rw[n,u]
 .intro i _;rw[(c2 i).2,(d2 i).2];trivial
 .intro i _;rw[(c2 i).1,(d2 i).1];exact .inl ⟨rfl,rfl⟩
 .rintro p q ⟨i,a,e1,e2⟩;rw[k a e1,l a e2];exact⟨⟨rfl,zF⟩,rfl,zF⟩
end
def Dj (K L:KS):Prop:=∀k,K.T k=(0,0)\/L.T k=(0,0)
section
variable {K L K' L':KS} {w w':o_}
theorem Dj.symm (h:Dj K L):Dj L K:=λk=>(h k).symm
theorem AV.other (h:AV L w) (M:BN K.T K'.T w w') (d:Dj K L):AV L w':=
 h.keep ((Dh.keep M).on λk _ e=>(d k).resolve_left e) λb a=>h.lt b (pV (Dh.keep M).size a)
theorem Dj.Ku (d:Dj K L) (h:AV L w) (M:BN K.T K'.T w w'):Dj K' L:=λk=>by
 by_cases a:k<w.heap.size
 .rw[Dh.fresh M k a];exact d k
 .exact .inr (h.lt k zD)
theorem Dj.new (h:AV K w) (a:∀k,L.T k≠(0,0)->w.heap.size<=k):Dj K L:=λk=>by
 by_cases e:L.T k=(0,0)
 .exact .inr e
 .exact .inl (h.lt k (a k e))
structure Two (c:Bool) (NC NS jw jD:Nat) (K L:KS) (w:o_):Prop where
 ka:AV K w
 kb:AV L w
 ok:Eo NC NS K
 ol:Eo jw jD L
 dj:Dj K L
 al:∃t t' R S,CZ c t t' R S K L/\JK t t' R K L
variable {c:Bool} {NC NS jw jD:Nat} {S:Nat->Nat->Prop}
theorem Two.no (h:Two c NC NS jw jD K L w) (a:Ac No w w'):Two c NC NS jw jD K L w':=⟨h.ka.no a,h.kb.no a,h.ok,h.ol,h.dj,h.al⟩
theorem Nx.al (h:Nx c S K L):∃t a R S,CZ c t a R S K L/\JK t a R K L:=let ⟨u,u',R',S',h1,h2,_⟩:=h;⟨u,u',R',S',h1,h2⟩
theorem Two.pick {e1 e2:Int} {v v1 v2:o_} {q p:n_} {i j:List Ev} {K1 s:KS} (h:Two c NC NS jw jD K L v) (m:ND NC NS K pid n v q e1 v1 K1 i) (o:ND jw jD L pid n v1 p e2 v2 s j):Two c NC NS jw jD K1 s v2/\i=j/\e1=e2:=by
 obtain⟨t,g,R,S,b,a⟩:=h.al;obtain⟨d,e,f⟩:=ao0 b a h.ol m.x o.x;have d1:=h.dj.Ku h.kb m.mv;exact⟨⟨m.ka.other o.mv d1.symm,o.ka,m.ok,o.ok,(d1.symm.Ku m.ka o.mv).symm,d.al⟩,e,f⟩
end
def WG (base:Nat) (v:n_) (l:List Int) (w:o_):Prop:=∃s c,v=.slice s l.length c/\(0<l.length->∃(g:Nat) (cs:X_),s=some (R_ g)/\base<=g/\w.heap[g]?=some (N_ cs 3)/\∀(i:Nat) (x:Int),l[i]?=some x->cs[i]?=some (b_ x))
theorem WG.keep {S:Nat->Prop} (h:WG base v l w) (j:Ac S w w') (m:∀k cs,base<=k->w.heap[k]?=some (N_ cs 3)->¬S k):WG base v l w':=by
 obtain⟨s,c,e,h⟩:=h;refine⟨s,c,e,λi=>?_⟩;obtain⟨g,cs,d,a,b,f⟩:=h i;exact⟨g,cs,d,a,j.old b (m g cs a b),f⟩
theorem WG.no (h:WG base v l w) (a:Ac No w w'):WG base v l w':=h.keep a λ_ _ _ _ x=>x
theorem WG.mono {d:Nat} (h:WG base v l w) (f:d<=base):WG d v l w:=let ⟨s,c,e,h⟩:=h;⟨s,c,e,λa=>let ⟨g,cs,h1,h2,h3⟩:=h a;⟨g,cs,h1,pV f h2,h3⟩⟩
theorem WG.sl (h:WG base v l w) (o:l.length<=1000):ϭ w v l.length (λi=>l.getD i 0):=by
 obtain⟨s,c,e,h⟩:=h;refine⟨zD,s,c,e,λj=>?_⟩;obtain⟨g,k,a,m,b,d⟩:=h j;refine⟨g,0,a,λi f=>?_⟩;rw[Nat.zero_add,Ah b];exact d i _ (by show l[i]?=some (l.getD i 0);rw[List.getD_eq_getElem?_getD,IG f];rfl)
def ints (l:List Nat):List Int:=l.map λx:Nat=>(x:Int)
def LG (a b c d e f g:Int) (v7 v8:n_):X_:=#[b_ a,b_ b,b_ c,b_ d,b_ e,b_ f,b_ g,v7,v8]
abbrev XC (r:PR) (s:Int) (v7 v8:n_):X_:=LG r.pid r.par s r.A r.B r.P r.st v7 v8
abbrev Ij:X_:=LG 0 0 0 0 0 0 0 (.slice none 0 0) (.slice none 0 0)
theorem JP {rb:Nat} {x0 x1 o p q s t u x:n_} {a b c d f g:Int} {n7 c7 n8 c8:Nat} {a7 a8:d_ f_} (h:w.heap[rb]?=some (N_ #[x0,x1,o,p,q,s,t,u,x] 48)):∃w',(Instr.storeAt 48 (Q_ rb) (.agg (LG a b c d e f g (.slice a7 n7 c7) (.slice a8 n8 c8)))).run prog w=.ok () w'/\Ac (At rb) w w'/\w'.heap[rb]?=some (.cells (LG a b c d e f g (.slice a7 n7 c7) (.slice a8 n8 c8)) 48 (0,0)):=by
 have m:(Instr.storeAt 48 (Q_ rb) (.agg (LG a b c d e f g (.slice a7 n7 c7) (.slice a8 n8 c8)))).run prog w=(OE rb 0 (LG a b c d e f g (.slice a7 n7 c7) (.slice a8 n8 c8)).toList (.pure ())).run prog w:=sJ
 obtain⟨w',i,j,l⟩:=G7 (P:=prog) (k:=Sem.pure ()) (LG a b c d e f g (.slice a7 n7 c7) (.slice a8 n8 c8)).toList 0 _ w h (by simp[LG]) (by simp[LG,Value.oneCell']);refine⟨w',?_,j,?_⟩
 .rw[m,i];rfl
 .rw[l];simp[TY,LG]
theorem oW (w:o_):(Instr.build 48 #[]).run prog w=.ok (.agg Ij) w:=sJ
def StX (K:KS) (r:PR) (s:Int):Prop:=JZ r.en s/\ag (s=K.Ec r)
def cq7 (base:Nat) (K:KS) (r:PR) (i:Nat) (v:n_) (W:o_):Prop:=(i=9->∃s,v=b_ s/\StX K r s)/\(i=38->WG base v (ints r.Af) W)/\(i=43->WG base v r.fds W)
section
variable (m:Nat) (w:o_)
theorem tH (K:KS) (b:Nat) (r:PR) (h:AV K w) (s:K.ps b=some r) (o:r.Ok) (t:r.Af.length<=128):O_ m 101 #[r.im] w λe w'=>Ac No w w'/\∃v,e=.returned v/\WG w.heap.size v (ints r.Af) w':=by
 cases hn:r.en with
 |true=>
  obtain⟨e1,_,e3,_⟩:=(h.ps b r s).no hn
  rw[e1,e3]
  refine(tu m w).mono ?_
  rintro e w' ⟨d,rfl⟩
  exact⟨d,_,rfl,_,_,rfl,λh=>by simp[ints]at h⟩
 |false=>
  obtain⟨g,c,e1,n,_⟩:=(h.ps b r s).im hn
  rw[e1]
  refine(iG m w g r.Af.length (λi=>r.Af.getD i 0) c (λi a=>?_) (λi a=>?_) t).mono ?_
  .rw[n.cell zD,Az,List.getElem?_map,List.getD_eq_getElem?_getD,IG a];rfl
  .rw[List.getD_eq_getElem?_getD,IG a];exact o.Af _ (List.getElem_mem a)
  .rintro e w' ⟨d,rfl,p⟩;obtain⟨l,k,q,f⟩:=p;refine⟨d,_,rfl,some (R_ w.heap.size),r.Af.length,by simp[ints],λ_=>⟨_,l,rfl,w_ _,k,λi x j=>?_⟩⟩;have a:i<r.Af.length:=by
    have:=(KT.1 j).1
    simpa [ints]using this
   rw[f i a];simp only[ints,List.getElem?_map,IG a,Option.map_some]at j;simp only[List.getD_eq_getElem?_getD,IG a,Option.getD_some];rw[x_ j]
theorem Ϡ (K:KS) (b:Nat) (r:PR) (h:AV K w) (A:K.ps b=some r) (o:r.Ok):O_ m 102 #[r.fd] w λe w'=>Ac No w w'/\∃v,e=.returned v/\WG w.heap.size v r.fds w':=by
 cases hn:r.en with
 |true=>
  obtain⟨_,e1,_,e3⟩:=(h.ps b r A).no hn
  rw[e1,e3]
  refine(wF m w).mono ?_
  rintro e w' ⟨rfl,f⟩
  exact⟨f,_,rfl,_,_,rfl,λh=>by simp at h⟩
 |false=>
  obtain⟨g,c,e1,s,_⟩:=(h.ps b r A).fd hn
  have y:=o.fds hn
  rw[e1]
  refine(Za m w (R_ g) r.fds.length c (FM r.fds) (by simp[FM]) (λj u l=>?_) (by simp[FM,Value.oneCell']) zD).mono ?_
  .have t:j<r.fds.length:=(by have:=(KT.1 l).1;simpa [FM]using this);rw[Addr.add_lit,Nat.zero_add,s.cell zD,l]
  .rintro e w' ⟨f,v,rfl,n⟩;refine⟨f,v,rfl,?_⟩;obtain⟨_,e⟩|⟨q,cap,d,rfl,k,a,_⟩:=n.2
   .omega
   .refine⟨_,cap,rfl,λ_=>⟨q,d,rfl,k,a,λi x p=>?_⟩⟩;have z:=(KT.1 p).1;refine((Ah a i).symm.trans (n.cellAt i zD)).trans ?_;simp only[FM,List.getElem?_map,p,Option.map_some]
theorem bq1 (K:KS) (b:Nat) (r:PR) (h:AV K w) (hT:K.EJ) (hl:K.Aw.length<=12) (hb:K.ps b=some r) (o:r.Ok) (hL:r.Af.length<=128):
  O_ m 57 #[Q_ b] w λe w'=>Ac No w w'/\∃st v7 v8,e=.returned (.agg (XC r st v7 v8))/\StX K r st/\WG w.heap.size v7 (ints r.Af) w'/\WG w.heap.size v8 r.fds w':=by
 have D:Ac No w (w.alloc (.cells Ij 48)):=(Ac.refl _ _).alloc _;have L:(w.alloc (.cells Ij 48)).heap[w.heap.size]?=some (N_ Ij 48):=Y7 rfl;have y:w.heap.size<=(w.alloc (.cells Ij 48)).heap.size:=D.size;have G:w.alloc (.cells #[b_ 0,b_ 0,b_ 0,b_ 0,b_ 0,b_ 0,b_ 0,.slice none 0 0,.slice none 0 0] 48)=w.alloc (.cells Ij 48):=rfl;gi_enter func57,ntmps57;gi_wp2
 try rw[G]
 have n:=h.no D;generalize w.alloc (.cells Ij 48)=w1 at*;have N:=n.Il hb 0;have O:=n.Il hb 1;have c3:=n.Il hb 3;have Q:=n.Il hb 5;have R:=n.Il hb 6;have c7:=n.Il hb 7;have c8:=n.Il hb 8;have S:=n.Il hb 9;simp[PR.arr]at N O c3 Q R c7 c8 S;have oA:=o.A;have oB:=o.B;have oP:=o.P;have oS:=o.st;refine CG (P:=prog) No _ rfl rfl sJ 44 48 [0,1,2,3,4,5,6,7,8,10,11,12,13,14,15,16,17,18,19,20,21,22,23,24,25,26,27,28,29,30,31,32,33,34,35,36,37,39,40,41,42] [9,38,43] sJ (by rfl) (cq7 w1.heap.size K r)
  (λ_ _ _ _ _ h j=>⟨h.1,λe=>(h.2.1 e).no j,λe=>(h.2.2 e).no j⟩) _ _ rfl rfl ?_;gi_wp2;refine⟨rfl,sJ,?_,?_,?_⟩
 .intro W j;have d0:=j.has (w:=w1.drew) N;have d1:=j.has (w:=w1.drew) O;have d3:=j.has (w:=w1.drew) c3;have d5:=j.has (w:=w1.drew) Q;have d6:=j.has (w:=w1.drew) R;have d7:=j.has (w:=w1.drew) c7;have d8:=j.has (w:=w1.drew) c8;have d9:=j.has (w:=w1.drew) S
  repeat' (refine Au ?_ ?_)
  all_goals first|exact eu|gi_wp2
 .intro i hx u W j C;have F:=n.no ((Ac.refl No w1).drew.then j);obtain rfl|rfl|rfl:=(by simpa using hx:i=9\/i=38\/i=43)
  .refine BC rfl λKK M=>?_
   show wpListIn NF m prog _ _ _ (Act.put (Act.put (Act.put _ (some 12) (u 9)) (some 41) (u 38)) (some 46) (u 43)) _;gi_wp2_with (gi_at_call 55;refine(yt _ W K b r F hT hb zD).mono ?_;rintro e w2 ⟨t,s,rfl,x,z⟩;replace x:StX K r s:=⟨x,z⟩;clear z);exact⟨_,rfl,t,λ_=>⟨s,rfl,x⟩,(λh=>ql h wB),λh=>ql h wB⟩
  .refine BC rfl λKK M=>?_
   show wpListIn NF m prog _ _ _ (Act.put (Act.put (Act.put _ (some 12) (u 9)) (some 41) (u 38)) (some 46) (u 43)) _;gi_wp2_with (gi_at_call 101;refine(tH _ W K b r F hb o hL).mono ?_;rintro e w2 ⟨t,v,rfl,J⟩);exact⟨_,rfl,t,(λh=>ql h wB),λ_=>J.mono j.size,λh=>ql h wB⟩
  .refine BC rfl λKK M=>?_
   show wpListIn NF m prog _ _ _ (Act.put (Act.put (Act.put _ (some 12) (u 9)) (some 41) (u 38)) (some 46) (u 43)) _;gi_wp2_with (gi_at_call 102;refine(Ϡ _ W K b r F hb o).mono ?_;rintro e w2 ⟨t,v,rfl,J⟩);exact⟨_,rfl,t,(λh=>ql h wB),(λh=>ql h wB),λ_=>J.mono j.size⟩
 .intro u W j C;have KW:Ac No w W:=D.drew.then j;obtain⟨st,e9,x⟩:=(C 9 zF).1 rfl;have V:=(C 38 zF).2.1 rfl;have i8:=(C 43 zF).2.2 rfl;show wpListIn NF m prog _ _ _ (Act.put (Act.put (Act.put _ (some 12) (u 9)) (some 41) (u 38)) (some 46) (u 43)) _;rw[e9];generalize u 38=v7 at*;generalize u 43=v8 at*;obtain⟨a7,p,T,_⟩:=id V;obtain⟨a8,q,U,_⟩:=id i8;generalize H:(ints r.Af).length=n7 at T;generalize I:r.fds.length=n8 at U;subst T U;have hW:=j.old (heap_drew.trans L) id;obtain⟨w3,Y,E,l⟩:=JP (a:=r.pid) (b:=r.par) (c:=st) (d:=r.A) (e:=r.B) (f:=r.P) (g:=r.st) (n7:=n7) (c7:=p) (n8:=n8) (c8:=q) (a7:=a7) (a8:=a8) hW;clear C H I;gi_wp2_with (refine Dw rfl (.tmp 2) (.tmp 47) 48 rfl rfl rfl Y ?_);have g0:w3.cell? (R_ w.heap.size)=some (b_ r.pid):=bce l rfl;have g1:w3.cell? (S_ w.heap.size 1)=some (b_ r.par):=bce l rfl;have g2:w3.cell? (S_ w.heap.size 2)=some (b_ st):=bce l rfl;have g3:w3.cell? (S_ w.heap.size 3)=some (b_ r.A):=bce l rfl;have g4:w3.cell? (S_ w.heap.size 4)=some (b_ r.B):=bce l rfl;have g5:w3.cell? (S_ w.heap.size 5)=some (b_ r.P):=bce l rfl;have g6:w3.cell? (S_ w.heap.size 6)=some (b_ r.st):=bce l rfl;have g7:w3.cell? (S_ w.heap.size 7)=some (.slice a7 n7 p):=bce l rfl;have g8:w3.cell? (S_ w.heap.size 8)=some (.slice a8 n8 q):=bce l rfl;refine bodyPost_ret (v:=.agg (XC r st (.slice a7 n7 p) (.slice a8 n8 q))) (by simp[results,results57,go_sem,XC,LG,g0,g1,g2,g3,g4,g5,g6,g7,g8]) rfl ?_;have X:∀k Z,w1.heap.size<=k->W.heap[k]?=some (N_ Z 3)->¬At w.heap.size k:=λk _ hk _ e=>by
   have e:k=w.heap.size:=e
   have:=Dt L
   omega
  exact⟨KW.trans E (λk hk e=>ql (show k=w.heap.size from e) zD),st,_,_,rfl,x,(V.keep E X).mono y,(i8.keep E X).mono y⟩
def ai5 (K:KS) (pid:Int) (base:Nat) (e:Ending) (w':o_):Prop:=
 (∃b r st v7 v8,b∈K.Aw/\K.ps b=some r/\(r.pid:Int)=pid/\e=.returned (.tuple #[.agg (XC r st v7 v8),b_ 0])/\StX K r st/\WG base v7 (ints r.Af) w'/\WG base v8 r.fds w')\/(e=.returned (.tuple #[.agg Ij,b_ 2])/\∀b∈K.Aw,∀r,K.ps b=some r->(r.pid:Int)≠pid)
theorem rq (NC NS:Nat) (K:KS) (pid:Int) (h:AV K w) (ok:Eo NC NS K):O_ m 20 #[Q_ K.kb,b_ pid] w λe w'=>Ac No w w'/\ai5 K pid w.heap.size e w':=by
 have o:Ac No w (w.alloc (.cells Ij 48)):=(Ac.refl _ _).alloc _;have u:(w.alloc (.cells Ij 48)).heap[w.heap.size]?=some (N_ Ij 48):=Y7 rfl;have N:w.heap.size<=(w.alloc (.cells Ij 48)).heap.size:=o.size;have I:w.alloc (.cells #[b_ 0,b_ 0,b_ 0,b_ 0,b_ 0,b_ 0,b_ 0,.slice none 0 0,.slice none 0 0] 48)=w.alloc (.cells Ij 48):=rfl;have S:=h.no o;gi_enter func20,ntmps20;gi_wp2_with fail
 try rw[I]
 generalize w.alloc (.cells Ij 48)=w1 at*;refine(fD _ w1 K pid S ok.th (by have:=ok.len;omega)).mono ?_;rintro e w2 ⟨j,p,rfl,Y⟩;obtain⟨b,r,rfl,hm,q,W⟩|⟨rfl,M⟩:=Y
 .unfold ptr;gi_wp2_with fail;refine(bq1 _ w2 K b r (S.no j) ok.th ok.len q (ok.pr b r q) (ok.co.pl b r q).1).mono ?_;rintro e w4 ⟨O,s,v7,v8,rfl,Z,U,i8⟩;obtain⟨a7,c7,Q,_⟩:=id U;obtain⟨a8,c8,R,_⟩:=id i8;generalize J:(ints r.Af).length=n7 at Q;generalize L:r.fds.length=n8 at R;subst Q R;clear J L;have hW:=O.old (j.old u id) id;obtain⟨w3,t,l,i⟩:=JP (a:=r.pid) (b:=r.par) (c:=s) (d:=r.A) (e:=r.B) (f:=r.P) (g:=r.st) (n7:=n7) (c7:=c7) (n8:=n8) (c8:=c8) (a7:=a7) (a8:=a8) hW;gi_wp2_with (refine Dw rfl (.tmp 4) (.tmp 14) 48 rfl rfl rfl t ?_);have x:w3.cell? (R_ w.heap.size)=some (b_ r.pid):=bce i rfl;have y:w3.cell? (S_ w.heap.size 1)=some (b_ r.par):=bce i rfl;have z:w3.cell? (S_ w.heap.size 2)=some (b_ s):=bce i rfl;have C:w3.cell? (S_ w.heap.size 3)=some (b_ r.A):=bce i rfl;have D:w3.cell? (S_ w.heap.size 4)=some (b_ r.B):=bce i rfl;have E:w3.cell? (S_ w.heap.size 5)=some (b_ r.P):=bce i rfl;have F:w3.cell? (S_ w.heap.size 6)=some (b_ r.st):=bce i rfl;have G:w3.cell? (S_ w.heap.size 7)=some (.slice a7 n7 c7):=bce i rfl;have H:w3.cell? (S_ w.heap.size 8)=some (.slice a8 n8 c8):=bce i rfl;refine bodyPost_ret (v:=.tuple #[.agg (XC r s (.slice a7 n7 c7) (.slice a8 n8 c8)),b_ 0]) (by simp[results,results20,go_sem,XC,LG,x,y,z,C,D,E,F,G,H]) rfl ?_;have V:∀k X,w2.heap.size<=k->w4.heap[k]?=some (N_ X 3)->¬At w.heap.size k:=λk _ T _ e=>by
   have e:k=w.heap.size:=e
   have:=Dt u
   have:=j.size
   omega
  have n:w.heap.size<=w2.heap.size:=pV N j.size;exact⟨((o.then j).then O).trans l (λk T e=>ql (show k=w.heap.size from e) zD),.inl ⟨b,r,s,_,_,hm,q,W,rfl,Z,(U.keep l V).mono n,(i8.keep l V).mono n⟩⟩
 .have hbd:=oW w2;obtain⟨w3,t,l,i⟩:=JP (a:=0) (b:=0) (c:=0) (d:=0) (e:=0) (f:=0) (g:=0) (n7:=0) (c7:=0) (n8:=0) (c8:=0) (a7:=none) (a8:=none) (j.old u id);gi_wp2_with (refine Dw rfl (.tmp 4) (.tmp 12) 48 rfl rfl rfl t ?_);have x:w3.cell? (R_ w.heap.size)=some (b_ 0):=bce i rfl;have y:w3.cell? (S_ w.heap.size 1)=some (b_ 0):=bce i rfl;have z:w3.cell? (S_ w.heap.size 2)=some (b_ 0):=bce i rfl;have C:w3.cell? (S_ w.heap.size 3)=some (b_ 0):=bce i rfl;have D:w3.cell? (S_ w.heap.size 4)=some (b_ 0):=bce i rfl;have E:w3.cell? (S_ w.heap.size 5)=some (b_ 0):=bce i rfl;have F:w3.cell? (S_ w.heap.size 6)=some (b_ 0):=bce i rfl;have G:w3.cell? (S_ w.heap.size 7)=some (.slice none 0 0):=bce i rfl;have H:w3.cell? (S_ w.heap.size 8)=some (.slice none 0 0):=bce i rfl;refine bodyPost_ret (v:=.tuple #[.agg Ij,b_ 2]) (by simp[results,results20,go_sem,Ij,LG,x,y,z,C,D,E,F,G,H]) rfl ?_;exact⟨(o.then j).trans l (λk T e=>ql (show k=w.heap.size from e) zD),.inr ⟨rfl,M⟩⟩
end
def Qk (c:Int) (n:Nat):Nat:=if c<0 then((-(c+1)) % (n:Int)).toNat else(c % (n:Int)).toNat
theorem lu (c:Int) {n:Nat} (a:1<=n):Qk c n<n:=by
 unfold Qk;split
 .have:=Int.emod_lt_of_pos (-(c+1)) (show(0:Int)<n by omega);have:=Int.emod_nonneg (-(c+1)) (show(n:Int)≠0 by omega);omega
 .have:=Int.emod_lt_of_pos c (show(0:Int)<n by omega);have:=Int.emod_nonneg c (show(n:Int)≠0 by omega);omega
section
variable (m:Nat) (w:o_)
theorem eY (c:Int) (n r:Nat) (h:-9223372036854775808<=c) (f:c<=9223372036854775807) (i:1<=n) (g:n<=65536) (d:Qk c n=r):O_ m 16 #[b_ c,b_ n] w λe w'=>e=.returned (b_ r)/\w'=w:=by
 unfold Qk at d;by_cases a:c<0
 .rw[rC a]at d;gi_enter func16,ntmps16;gi_wp2
  all_goals go_ret
  refine⟨gu ?_,rfl⟩;have:=Int.emod_nonneg (-(c+1)) (show(n:Int)≠0 by omega);have e:-((c+1).tmod (n:Int))=(-(c+1)) % (n:Int):=by rw[<-Int.neg_tmod,Int.tmod_eq_emod_of_nonneg zD]
  simp only[e];omega
 .rw[ru a]at d;gi_enter func16,ntmps16;gi_wp2
  all_goals go_ret
  have b:=Int.emod_nonneg c (show(n:Int)≠0 by omega);exact⟨gu zD,rfl⟩
theorem PN (v v':n_) (n:Nat) (f:Nat->Int) (h:ϭ w v n f) (C:ϭ w v' n f):O_ m 21 #[v,v'] w λe w'=>e=.returned (.bool true)/\Ac No w w':=by
 obtain⟨z,s,c,rfl,l⟩:=h;obtain⟨_,B,t,rfl,j⟩:=C;by_cases p:n=0
 .subst p;gi_enter func21,ntmps21;gi_wp2;refine wpIn_loop_once ?_;gi_wp2;go_ret;exact⟨zF,Ac.refl _ _⟩
 .obtain⟨b,o,rfl,q⟩:=l zD;obtain⟨r,A,rfl,d⟩:=j zD;clear l j;gi_enter func21,ntmps21;gi_wp2;gi_loopw [5] (λi wr=>∃k:Nat,k<=n/\i=b_ k/\Ac No w wr) (λi _=>n-(intOf i).toNat)
  case atStart=>exact⟨0,Nat.zero_le _,rfl,Ac.refl _ _⟩
  case round=>
   obtain⟨k,y,rfl,a⟩:=hrel
   by_cases g:k<n
   .have u:=a.has (q k g);have x:=a.has (d k g);gi_wp2;gi_region
    all_goals gi_wp2
    all_goals go_roundw
    all_goals first|exact⟨k+1,zD,by go_num,a.drew⟩|(simp[intOf];omega)
   .gi_wp2;go_ret;exact⟨zF,a⟩
end
theorem Xj {e:j_} {size:Nat} {n:Nat} {xs:U_} (h:w.ownsRow base e size v n xs) (m:Ac No w w'):w'.ownsRow base e size v n xs:=by
 obtain⟨j,i⟩:=h;refine⟨j,?_⟩;obtain i|⟨g,cap,f,a,b,c,d⟩:=i
 .exact .inl i
 .exact .inr ⟨g,cap,f,a,b,m.old c id,d⟩
def Xx (K:KS) (k:Nat):U_:=(K.Aw.take k).map λb=>b_ (match K.ps b with|some r=>(r.pid:Int)|none=>0)
theorem ξ (h:K.Aw[k]?=some b) (a:K.ps b=some r):Xx K (k+1)=Xx K k++[b_ r.pid]:=by
 unfold Xx;rw[List.take_add_one,h];simp[a]
section
variable (m:Nat) (w:o_)
theorem ag2 (K:KS) (h:AV K w) (L:K.EJ) (M:K.Aw.length<=12):O_ m 50 #[Q_ K.kb] w λe w'=>Ac No w w'/\∃v,e=.returned v/\w'.ownsRow w.heap.size 3 1 v K.Aw.length (Xx K K.Aw.length):=by
 have I:=h.kc2;obtain⟨G,j,n,o,p⟩:=info_parts XF;gi_enter func50,ntmps50;gi_wp2;gi_loopw [3,11] (λa i wr=>∃k:Nat,k<=K.Aw.length/\i=b_ k/\Ac No w wr/\wr.ownsRow w.heap.size 3 1 a k (Xx K k)) (λ_ i _=>K.Aw.length-(intOf i).toNat)
 case atStart=>exact⟨0,zD,rfl,Ac.refl _ _,World.ownsRow_nil _ _ _ _⟩
 case round=>
  obtain⟨k,z,rfl,KK,s⟩:=hrel
  by_cases C:k<K.Aw.length
  .have f:K.Aw[k]?=some K.Aw[k]:=IG C;generalize K.Aw[k]=b at f;obtain⟨r,B⟩:=AV.mem L f;have y:=h.no KK;have E:=y.jS f;have d1:=y.Il B 0;simp only[ptr]at E;simp[PR.arr]at d1;have g:Ac No wr (wr.alloc (.cells #[b_ r.pid] 3)):=(Ac.refl _ _).alloc _;have c:∀q u,([b_ r.pid]:U_)[q]?=some u->(wr.alloc (.cells #[b_ r.pid] 3)).cell? (((R_ wr.heap.size):f_).add q)=some u:=λq u l=>by
    match q,l with
    |0,l=>
     have F:(wr.alloc (.cells #[b_ r.pid] 3)).heap[wr.heap.size]?=some (N_ #[b_ r.pid] 3):=Y7 rfl
     rw[Addr.add_lit]
     refine(Ah F 0).trans ?_
     simpa using l
   have A:(wr.alloc (.cells #[b_ r.pid] 3)).ownsRow w.heap.size 3 1 _ k (Xx K k):=Xj s g;gi_wp2_with (gi_at_builtin;refine wpListIn_append_own _ rfl (.tmp 15) (.tmp 20) 22 rfl w.heap.size 3 G (b_ 0) 1 8 underlying22 j n o p rfl wB _ k (Xx K k) rfl A (R_ wr.heap.size) 1 1 [b_ r.pid] rfl rfl c (by simp[Value.oneCell']) (by unfold maxLen;omega) zD (pV KK.size g.size) ?_;intro J w4 d t _;have D:Ac No w w4:=(KK.then g).trans (DD t λk z _=>z) (λx H e=>ql (A.lt x e).1 zD);clear t);go_roundw
   case rel=>exact⟨k+1,zD,by go_num,D,by rw[ξ f B];exact d⟩
   case measure=>simp[intOf];omega
  .obtain rfl:k=K.Aw.length:=zD;gi_wp2;go_ret;exact⟨KK,by simpa using s⟩
end
theorem gG {e:Ending} (ok:Eo NC NS K) (q:K.Aw[k]?=some b) (p:K.ps b=some r) (h:Ac No w w'/\ai5 K r.pid w.heap.size e w'):Ac No w w'/\∃o a7 n7 c7 a8 n8 c8,e=.returned (.tuple #[.agg (XC r o (.slice a7 n7 c7) (.slice a8 n8 c8)),b_ 0])/\StX K r o/\WG w.heap.size (.slice a7 n7 c7) (ints r.Af) w'/\WG w.heap.size (.slice a8 n8 c8) r.fds w':=by
 obtain⟨g,⟨f,j,o,l,m,c,a,i,e1,e2,e3,e4⟩|⟨_,d⟩⟩:=h
 .obtain rfl:=ok.one f j b r c (t_ q) a p zD;rw[p]at a;cases a;obtain⟨a7,c7,rfl,_⟩:=id e3;obtain⟨a8,c8,rfl,_⟩:=id e4;exact⟨g,o,a7,_,c7,a8,_,c8,e1,e2,e3,e4⟩
 .exact ql rfl (d b (t_ q) r p)
end Go.Fxa
