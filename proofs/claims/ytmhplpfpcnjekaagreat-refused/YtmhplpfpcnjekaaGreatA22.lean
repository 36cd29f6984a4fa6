/- Calls of descrip -/
import Derived.Test.YtmhplpfpcnjekaaGreatA21
namespace Go.Fxa
open Conc Proofs RowKit Proofs.Tryz
set_option maxRecDepth 1000000
set_option maxHeartbeats 0
variable {w W':o_}{r:PR}{b i f i0:Nat}{L:Nat->Bool}{u:Nat->n_}{v:n_}{K:KS}{T:Tag}{nm:Nat->d_ Nat}{o:d_ Nat}{H:Nat->Nat}
def dL (K:KS)(b:Nat)(r:PR)(fd at_ n:Nat):KS->Nat->Nat->n_->Prop:=λK' x y f=>(¬(n=0\/at_+n<=r.Af.length)/\GY K 1 K' x y f)\/((n=0\/at_+n<=r.Af.length)/\XFd K r fd (λe g K' x y f=>∃Af ct,XRf K e g r at_ n Af ct x y f/\K'=KS.Bj {K with ct:=ct} b {r with Af:=Af}) (λe K' x y f=>∃Af ct,XRd K (K.ct e).n r at_ n Af ct x y f/\K'=KS.Bj {K with ct:=ct} b {r with Af:=Af}) (λ_=>GY K 2) K' x y f)
theorem Zn {at_ n gi ci:Nat}(l:w.cell? (S_ b 8)=some (P_ gi r.Af.length ci))(g:r.im=P_ gi r.Af.length ci)(d:at_<65536)(hL:r.Af.length<=128)(k:r.Af.length<=ci)(j:n=0\/at_+n<=r.Af.length):∃h,O1 r h at_ n/\∀m,O_ m 138 #[.pointer (some (S_ b 5)),a_ at_,b_ n] w λe w'=>e=.returned (.tuple #[h,.bool true])/\w'=w:=by
 by_cases c:n=0
 .subst c;exact⟨.slice none 0 0,.inl ⟨rfl,rfl⟩,λm=>Ue b at_ m w⟩
 .have a:=j.resolve_left c;exact⟨.slice (some (S_ gi at_)) n n,.inr ⟨gi,ci,g,rfl,wB,a⟩,λm=>Gq b gi ci r.Af.length n at_ m w l wB d hL k a⟩
section
variable (m:Nat)(w:o_)
theorem be3 (K:KS)(NC NS b fd at_ n:Nat)(r:PR)(h:AY K w)(hO:DU NC NS K)(hm:b∈K.Ar)(hb:K.ps b=some r)(hn:r.en=false)(hfd:fd<65536)(hat:at_<65536)(hnn:n<65536):
  O_ m 146 #[Q_ K.kb,Q_ b,a_ (fd:Nat),a_ (at_:Nat),a_ (n:Nat)] w (FX (dL K b r fd at_ n) NC NS b K w):=by
 have o:=hO.pr b r hb;have hL:=(hO.co.pl b r hb).1;have hI:=o.Af;obtain⟨F,rb,G⟩:=IE w;have z:=h.no F;have Hl:K.T w.heap.size=(0,0):=h.lt _ w_;have ch:=λm w1 (a:Aa No (w.alloc V_) w1)=>YI m w1 K b fd r (z.no a) hb hn hfd
 obtain⟨gi,ci,q8,hRi,yK,him⟩:=z.lh hb hn;have WE:=hRi.le;by_cases q:n=0\/at_+n<=r.Af.length
 .obtain⟨dv,N,cw⟩:=Zn (b:=b) q8 him hat hL WE q
  replace q:Yp _:=q
  gi_enter func146,ntmps146;gi_wp2_with (gi_at_call 138;refine(cw _).mono ?_;rintro e w1 ⟨rfl,E⟩;have E:=E.symm;subst E;generalize hw0:w.alloc V_=S at *);gi_wp2_with (gi_at_call 202;refine(ch _ _ (Aa.refl No S)).mono ?_;rintro e w1 ⟨K1,xh,rfl,R,hxe⟩;cases xh)
  .have KK:=((Aa.refl No S)).then K1;gi_wp2_with (first|(gi_at_call 140;refine(Uy 2 (KK.old rb id) _).mono ?_;rintro e X ⟨rfl,t,V,k,l,p⟩)|refine Fa k ?_);refine T_ 0 2 (by simp[results,results146,go_sem,FU p]) rfl ?_;exact Ci h hO hm hb F G (KK.then t) l sN sN (.inr ⟨q.out,.inl ⟨hxe.out.symm,GY.of⟩⟩)
  .have KK:=((Aa.refl No S)).then K1;obtain⟨nd,D,CX⟩:=R (by first|rfl|trivial);obtain⟨i,rfl,hi⟩:=(o.fd nd (t_ D)).resolve_left CX;obtain⟨hd,_⟩:=hO.close hm hb hn hi D;have h1:=z.no KK;obtain⟨g,c,q9,hRw,tg,ax4⟩:=h1.rZ hb hn;have hfl:=(Oc.1 D).1;have f1:(fd:Int)<(r.fds.length:Int):=wB;have d:=hRw.Pm rfl D;obtain⟨vv,Q,_,_,hv4⟩:=h1.ent hi;have lq:Yp (K.tv i=vv):=x_ ((h1.ay0 hi).symm.trans Q);have A8:=hv4 hd;have cg:=λm W (a:Aa No w1 W)=>jE m W K i vv hi (a.has Q)
   refine DI (P:=prog) No _ rfl rfl sU 12 44 [0,1,2,3,4,5,6,7,8,9,11] [10] sU (by rfl) (λ_ v _=>v=vv) (λ_ _ _ _ _ h _=>h) _ _ rfl rfl ?_;gi_wp2;refine⟨rfl,sU,?_,?_,?_⟩
   .intro W a;have d9:=a.has (w:=w1.drew) q9;have dd:=a.has (w:=w1.drew) d
    repeat' (refine AA ?_ ?_)
    all_goals first|exact dE|gi_wp2
   .intro j hj u W a _;obtain rfl:j=10:=(by simpa using hj);refine BI rfl λKK2 cd5=>?_
    show wpListIn NF m prog _ _ _ (Act.put _ (some 41) (u 10)) _;gi_wp2_with (gi_at_call 203;refine(cg _ W ((Aa.refl No w1).drew.then a)).mono ?_;rintro e w2 ⟨K2,rfl⟩);exact⟨_,rfl,K2,rfl⟩
   .intro u W a hu;have hu:=hu 10 sJ;show wpListIn NF m prog _ _ _ (Act.put _ (some 41) (u 10)) _;rw[hu];have KW:Aa No S W:=KK.then ((Aa.refl No w1).drew.then a);have U:=z.no KW;obtain⟨e,⟨rfl,f,s,_⟩|⟨rfl,s,_⟩|⟨rfl,s,_⟩⟩:=A8
    .simp only[ptr];have O:=ar0 e;have L:=λm=>ap6 m W K b e f _ _ r _ U hb hn hI s N
     gi_wp2_with (first|(gi_at_call 277;refine(L _).mono ?_;rintro e7 X UJ;obtain⟨Af,ct,x,y,M,rfl,R,hy,J,H,aj,h7,I,C⟩:=UJ;obtain⟨V,k,l,p⟩:=Az (x:=x) (y:=y) (f:=M) (I.old (KW.old rb id) Hl) J.one)|refine Fa k ?_);obtain⟨Z,Y⟩:=hO.fds (r':={r with Af:=Af}) (K1:={K with ct:=ct}) ⟨rfl⟩ hm hb rfl rfl rfl rfl H ⟨o.A,o.B,o.P,o.st,o.pid,o.par,aj,o.fds,o.fd,λe=>by simp only[H];exact o.len e,λe=>qx e (by simp[hn])⟩ ⟨hO.Ei.ho,hO.Ei.le,hO.Ei.op,hO.Ei.nd,hO.Ei.nz,hO.Ei.nm,hO.Ei.dj⟩ λi _=>rfl
     refine bodyPost_ret (v:=.agg #[a_ x,a_ y,M]) (by simp[results,results146,go_sem,FU p]) rfl ?_;exact BD (K':=KS.Bj {K with ct:=ct} b {r with Af:=Af}) (x:=x) (y:=y) h.lt F G ((BQ.no KW z.lt).trans I) (h7) l R hy J (Z) (Y) Ag (λ_=>hm) (.inr ⟨q.out,.inr ⟨i,D,hi,.inl ⟨e,f,lq,s,_,_,C,rfl⟩⟩⟩)
    .simp only[ptr];have O:=ar2 e;have L:=λm=>ao5 m W K b e _ _ r _ U hb hn hI s N
     gi_wp2_with (first|(gi_at_call 266;refine(L _).mono ?_;rintro e7 X UJ;obtain⟨Af,ct,x,y,M,rfl,R,hy,J,H,aj,h7,I,C⟩:=UJ;obtain⟨V,k,l,p⟩:=Az (x:=x) (y:=y) (f:=M) (I.old (KW.old rb id) Hl) J.one)|refine Fa k ?_);obtain⟨Z,Y⟩:=hO.fds (r':={r with Af:=Af}) (K1:={K with ct:=ct}) ⟨rfl⟩ hm hb rfl rfl rfl rfl H ⟨o.A,o.B,o.P,o.st,o.pid,o.par,aj,o.fds,o.fd,λe=>by simp only[H];exact o.len e,λe=>qx e (by simp[hn])⟩ ⟨hO.Ei.ho,hO.Ei.le,hO.Ei.op,hO.Ei.nd,hO.Ei.nz,hO.Ei.nm,hO.Ei.dj⟩ λi _=>rfl
     refine bodyPost_ret (v:=.agg #[a_ x,a_ y,M]) (by simp[results,results146,go_sem,FU p]) rfl ?_;exact BD (K':=KS.Bj {K with ct:=ct} b {r with Af:=Af}) (x:=x) (y:=y) h.lt F G ((BQ.no KW z.lt).trans I) (h7) l R hy J (Z) (Y) Ag (λ_=>hm) (.inr ⟨q.out,.inr ⟨i,D,hi,.inr (.inl ⟨e,lq,s,_,_,C,rfl⟩)⟩⟩)
    .simp only[ptr];obtain⟨hpp,_⟩:=U.fl.UD e s;have O:=ar1 hpp;have L:=λm=>av4 m W dv
     gi_wp2_with (first|(gi_at_call 274;refine(L _).mono ?_;rintro e7 X ⟨rfl,t⟩;obtain⟨V,k,l,p⟩:=Az (x:=0) (y:=2) (f:=.nilFunc) (t.old (KW.old rb id) id) rfl)|refine Fa k ?_);refine T_ 0 2 (by simp[results,results146,go_sem,FU p]) rfl ?_;exact BD (K':=K) (x:=0) (y:=2) h.lt F G ((BQ.no KW z.lt).then t) (U.no t) l wB wB (.inl rfl) hO (Rel.refl b K) hb (λ_=>hm) (.inr ⟨q.out,.inr ⟨i,D,hi,.inr (.inr ⟨e,lq,s,GY.of⟩)⟩⟩)
 .have cw:=λm=>dZ b gi ci r.Af.length n at_ m (w.alloc V_) q8 wB hnn hat (λh=>q (.inr h))
  gi_enter func146,ntmps146;gi_wp2_with (gi_at_call 138;refine(cw _).mono ?_;rintro e w1 ⟨rfl,E⟩;have E:=E.symm;subst E;generalize hw0:w.alloc V_=S at *);gi_wp2_with (first|(gi_at_call 140;refine(Uy 1 rb _).mono ?_;rintro e X ⟨rfl,t,V,k,l,p⟩)|refine Fa k ?_);refine T_ 0 1 (by simp[results,results146,go_sem,FU p]) rfl ?_;exact Ci h hO hm hb F G t l sN sN (.inl ⟨wB,GY.of⟩)
end
def VX (K:KS)(r:PR)(fd at_ n:Nat):KS->Nat->Nat->n_->Prop:=λK' x y f=>(¬(n=0\/at_+n<=r.Af.length)/\GY K 1 K' x y f)\/((n=0\/at_+n<=r.Af.length)/\XFd K r fd (λe g K' x y f=>∃T' ct,XWf K e g r at_ n ct x y f/\K'={K with T:=T',ct:=ct}) (λ_=>GY K 2) (λe K' x y f=>∃T' ct,XWr K (K.ct e).n r at_ n ct x y f/\K'={K with T:=T',ct:=ct}) K' x y f)
section
variable (m:Nat)(w:o_)
theorem am3 (K:KS)(NC NS b fd at_ n:Nat)(r:PR)(h:AY K w)(hO:DU NC NS K)(hm:b∈K.Ar)(hb:K.ps b=some r)(hn:r.en=false)(hfd:fd<65536)(hat:at_<65536)(hnn:n<65536):
  O_ m 147 #[Q_ K.kb,Q_ b,a_ (fd:Nat),a_ (at_:Nat),a_ (n:Nat)] w (FX (VX K r fd at_ n) NC NS b K w):=by
 have o:=hO.pr b r hb;have hL:=(hO.co.pl b r hb).1;have hI:=o.Af;have hnl:K.nl.length<=1000:=by have:=hO.Ei.nl;omega
 obtain⟨E,rb,F⟩:=IE w;have A:=h.no E;have Hl:K.T w.heap.size=(0,0):=h.lt _ w_;have ch:=λm w1 (a:Aa No (w.alloc V_) w1)=>YI m w1 K b fd r (A.no a) hb hn hfd
 obtain⟨gi,ci,q8,hRi,yK,him⟩:=A.lh hb hn;have WE:=hRi.le;by_cases q:n=0\/at_+n<=r.Af.length
 .obtain⟨dv,O,cw⟩:=Zn (b:=b) q8 him hat hL WE q
  replace q:Yp _:=q
  gi_enter func147,ntmps147;gi_wp2_with (gi_at_call 138;refine(cw _).mono ?_;rintro e w1 ⟨rfl,D⟩;have D:=D.symm;subst D;generalize hw0:w.alloc V_=U at *);gi_wp2_with (gi_at_call 202;refine(ch _ _ (Aa.refl No U)).mono ?_;rintro e w1 ⟨K1,xh,rfl,S,hxe⟩;cases xh)
  .have KK:=((Aa.refl No U)).then K1;gi_wp2_with (first|(gi_at_call 140;refine(Uy 2 (KK.old rb id) _).mono ?_;rintro e Y ⟨rfl,t,X,k,l,p⟩)|refine Fa k ?_);refine T_ 0 2 (by simp[results,results147,go_sem,FU p]) rfl ?_;exact Ci h hO hm hb E F (KK.then t) l sN sN (.inr ⟨q.out,.inl ⟨hxe.out.symm,GY.of⟩⟩)
  .have KK:=((Aa.refl No U)).then K1;obtain⟨nd,C,CX⟩:=S (by first|rfl|trivial);obtain⟨i,rfl,hi⟩:=(o.fd nd (t_ C)).resolve_left CX;obtain⟨hd,_⟩:=hO.close hm hb hn hi C;have h1:=A.no KK;obtain⟨g,c,q9,hRw,tg,ax4⟩:=h1.rZ hb hn;have hfl:=(Oc.1 C).1;have f1:(fd:Int)<(r.fds.length:Int):=wB;have d:=hRw.Pm rfl C;obtain⟨vv,R,_,_,hv4⟩:=h1.ent hi;have lq:Yp (K.tv i=vv):=x_ ((h1.ay0 hi).symm.trans R);have A8:=hv4 hd;have cg:=λm W (a:Aa No w1 W)=>jE m W K i vv hi (a.has R)
   refine DI (P:=prog) No _ rfl rfl sU 12 44 [0,1,2,3,4,5,6,7,8,9,11] [10] sU (by rfl) (λ_ v _=>v=vv) (λ_ _ _ _ _ h _=>h) _ _ rfl rfl ?_;gi_wp2;refine⟨rfl,sU,?_,?_,?_⟩
   .intro W a;have d9:=a.has (w:=w1.drew) q9;have dd:=a.has (w:=w1.drew) d
    repeat' (refine AA ?_ ?_)
    all_goals first|exact dE|gi_wp2
   .intro j hj u W a _;obtain rfl:j=10:=(by simpa using hj);refine BI rfl λKK2 cd5=>?_
    show wpListIn NF m prog _ _ _ (Act.put _ (some 41) (u 10)) _;gi_wp2_with (gi_at_call 203;refine(cg _ W ((Aa.refl No w1).drew.then a)).mono ?_;rintro e w2 ⟨K2,rfl⟩);exact⟨_,rfl,K2,rfl⟩
   .intro u W a hu;have hu:=hu 10 sJ;show wpListIn NF m prog _ _ _ (Act.put _ (some 41) (u 10)) _;rw[hu];have KW:Aa No U W:=KK.then ((Aa.refl No w1).drew.then a);have V:=A.no KW;obtain⟨e,⟨rfl,f,s,_⟩|⟨rfl,s,_⟩|⟨rfl,s,_⟩⟩:=A8
    .simp only[ptr];have Q:=aq4 e;have M:=λm=>ϴ m W K b e f _ _ r _ V hb hn hI hL s O hnl ⟨hO.Ei.nd,hO.Ei.nm,hO.Ei.dj⟩
     gi_wp2_with (first|(gi_at_call 279;refine(M _).mono ?_;rintro e7 Y Z;obtain⟨z,ct,x,y,N,rfl,S,hy,J,h7,I,B⟩:=Z;obtain⟨X,k,l,p⟩:=Az (x:=x) (y:=y) (f:=N) (I.old (KW.old rb id) Hl) J.one)|refine Fa k ?_);obtain⟨L,G⟩:=hO.fds (K1:={K with T:=z,ct:=ct}) (r':=r) (H:=BR K.ps K.Ar) ⟨rfl⟩ hm hb rfl rfl rfl rfl rfl o ⟨hO.Ei.ho,hO.Ei.le,hO.Ei.op,hO.Ei.nd,hO.Ei.nz,hO.Ei.nm,hO.Ei.dj⟩ λi _=>rfl
     rw[FD (K:={K with T:=z,ct:=ct}) hb]at L G;refine bodyPost_ret (v:=.agg #[a_ x,a_ y,N]) (by simp[results,results147,go_sem,FU p]) rfl ?_;exact BD (K':={K with T:=z,ct:=ct}) (x:=x) (y:=y) h.lt E F ((BQ.no KW A.lt).trans I) (h7) l S hy J (L) (G) hb (λ_=>hm) (.inr ⟨q.out,.inr ⟨i,C,hi,.inl ⟨e,f,lq,s,_,_,B,rfl⟩⟩⟩)
    .simp only[ptr];obtain⟨hpp,_⟩:=V.fl.rend e s;have Q:=aq6 hpp;have M:=λm=>ab6 m W dv
     gi_wp2_with (first|(gi_at_call 268;refine(M _).mono ?_;rintro e7 Y ⟨rfl,t⟩;obtain⟨X,k,l,p⟩:=Az (x:=0) (y:=2) (f:=.nilFunc) (t.old (KW.old rb id) id) rfl)|refine Fa k ?_);refine T_ 0 2 (by simp[results,results147,go_sem,FU p]) rfl ?_;exact BD (K':=K) (x:=0) (y:=2) h.lt E F ((BQ.no KW A.lt).then t) (V.no t) l wB wB (.inl rfl) hO (Rel.refl b K) hb (λ_=>hm) (.inr ⟨q.out,.inr ⟨i,C,hi,.inr (.inl ⟨e,lq,s,GY.of⟩)⟩⟩)
    .simp only[ptr];have Q:=aq5 e;have M:=λm=>ϛ m W K b e _ _ r _ V hb hn hI hL s O
     gi_wp2_with (first|(gi_at_call 275;refine(M _).mono ?_;rintro e7 Y Z;obtain⟨z,ct,x,y,N,rfl,S,hy,J,h7,I,B⟩:=Z;obtain⟨X,k,l,p⟩:=Az (x:=x) (y:=y) (f:=N) (I.old (KW.old rb id) Hl) J.one)|refine Fa k ?_);obtain⟨L,G⟩:=hO.fds (K1:={K with T:=z,ct:=ct}) (r':=r) (H:=BR K.ps K.Ar) ⟨rfl⟩ hm hb rfl rfl rfl rfl rfl o ⟨hO.Ei.ho,hO.Ei.le,hO.Ei.op,hO.Ei.nd,hO.Ei.nz,hO.Ei.nm,hO.Ei.dj⟩ λi _=>rfl
     rw[FD (K:={K with T:=z,ct:=ct}) hb]at L G;refine bodyPost_ret (v:=.agg #[a_ x,a_ y,N]) (by simp[results,results147,go_sem,FU p]) rfl ?_;exact BD (K':={K with T:=z,ct:=ct}) (x:=x) (y:=y) h.lt E F ((BQ.no KW A.lt).trans I) (h7) l S hy J (L) (G) hb (λ_=>hm) (.inr ⟨q.out,.inr ⟨i,C,hi,.inr (.inr ⟨e,lq,s,_,_,B,rfl⟩)⟩⟩)
 .have cw:=λm=>dZ b gi ci r.Af.length n at_ m (w.alloc V_) q8 wB hnn hat (λh=>q (.inr h))
  gi_enter func147,ntmps147;gi_wp2_with (gi_at_call 138;refine(cw _).mono ?_;rintro e w1 ⟨rfl,D⟩;have D:=D.symm;subst D;generalize hw0:w.alloc V_=U at *);gi_wp2_with (first|(gi_at_call 140;refine(Uy 1 rb _).mono ?_;rintro e Y ⟨rfl,t,X,k,l,p⟩)|refine Fa k ?_);refine T_ 0 1 (by simp[results,results147,go_sem,FU p]) rfl ?_;exact Ci h hO hm hb E F t l sN sN (.inl ⟨wB,GY.of⟩)
end
def iJ (S:Nat->Prop)(w1:o_)(e1 e2:Nat)(P1:n_->o_->Prop)(P2:n_->n_->o_->Prop)(L:Nat->Bool)(u:Y_)(W:o_):Prop:=
 Aa S w1 W/\(L e1=false->W=w1/\L e2=false)/\(L e1=true->L e2=false->P1 (u e1) W)/\(L e2=true->P2 (u e1) (u e2) W)
section
variable {S:Nat->Prop}{w1:o_}{e1 e2:Nat}{P1:n_->o_->Prop}{P2:n_->n_->o_->Prop}{ss:List Nat}
theorem YS (k:e1∈ss)(l:e2∈ss):∀L g u j W,(∀i∈ss,L i=g i/\u i=j i)->iJ S w1 e1 e2 P1 P2 L u W->iJ S w1 e1 e2 P1 P2 g j W:=by
 rintro L g u j W h ⟨a,b,c,d⟩;obtain⟨e,p2⟩:=h e1 k;obtain⟨q1,f⟩:=h e2 l;exact⟨a,λx=>by rw[<-q1];exact b (e.trans x),λx y=>p2 ▸ c (e.trans x) (q1.trans y),λx=>p2 ▸ f ▸ d (q1.trans x)⟩
theorem Uf (u:Y_):iJ S w1 e1 e2 P1 P2 (λ_=>false) u w1:=⟨Aa.refl _ _,λ_=>⟨rfl,rfl⟩,λh=>qx h sJ,λh=>qx h sJ⟩
theorem YR {W:o_}(h:iJ S w1 e1 e2 P1 P2 L u W)(c:e1≠e2)(hL:L e1=false)(d:Aa S w1 W')(e:P1 v W'):iJ S w1 e1 e2 P1 P2 (Oh L e1) (Kw u e1 v) W':=by
 obtain⟨_,b,_,_⟩:=h;have a:=(b hL).2;refine⟨d,λx=>qx x (by simp[Oh]),λ_ _=>by simp only[Kw,if_true];exact e,λx=>?_⟩;simp only[Oh,ru c.symm,a]at x;cases x
theorem YQ (a:e1≠e2)(hL:L e1=true)(c:Aa S w1 W')(d:P2 (u e1) v W'):iJ S w1 e1 e2 P1 P2 (Oh L e2) (Kw u e2 v) W':=by
 refine⟨c,λx=>?_,λ_ y=>qx y (by simp[Oh]),λ_=>?_⟩
 .simp only[Oh,ru a,hL]at x;cases x
 .simp only[Kw,if_true,ru a];exact d
end
section
variable (m:Nat)(w:o_)
theorem AY.nmc {w:o_}(h:AY K w)(hi:i<16):w.cell? (S_ K.kb (4+i))=some (VJ (K.nm i))/\∀b,K.nm i=some b->K.T b=(10,0):=by
 obtain⟨d,c,a⟩:=h.k;exact⟨(Ai c _).trans (a.nm i hi).1,(a.nm i hi).2⟩
theorem bx6 (K:KS)(i:Nat)(h:AY K w)(hi:i<16):O_ m 233 #[.pointer (some (S_ K.kb 4)),b_ (i:Nat)] w λe w'=>Aa No w w'/\e=.returned (.bool (K.nm i).isSome):=by
 have q:=(h.nmc hi).1;have a:(i:Int)<16:=wB
 cases hn:K.nm i with
 |none=>
  rw[hn]at q
  simp only[VJ]at q
  gi_enter func233,ntmps233
  gi_wp2
  go_ret
  exact⟨Aa.refl _ _,sJ⟩
 |some f=>
  rw[hn]at q
  simp only[VJ,ptr]at q
  gi_enter func233,ntmps233
  gi_wp2
  go_ret
  exact⟨Aa.refl _ _,sJ⟩
def bz9 (K:KS)(i:Nat)(x:Nat):Prop:=(x=0/\i<16/\∃f,K.nm i=some f)\/(x=6/\i<16/\K.nm i=none)\/(x=13/\16<=i)
theorem Rf (K:KS)(i:Nat)(h:AY K w)(hi:i<65536):O_ m 205 #[Q_ K.kb,a_ (i:Nat)] w λe w'=>Aa No w w'/\∃x:Nat,e=.returned (a_ x)/\bz9 K i x:=by
 by_cases a:i<16
 .have d:¬(16:Int)<=(i:Int):=wB
  have c:=λm=>bx6 m w K i h a
  cases hn:K.nm i with
  |none=>
   rw[hn]at c
   simp only[Option.isSome_none]at c
   gi_enter func205,ntmps205
   gi_wp2_with (gi_at_call 233;refine(c _).mono ?_;rintro e w1 ⟨b,rfl⟩)
   go_ret
   exact⟨b,6,sJ,.inr (.inl ⟨rfl,a,hn⟩)⟩
  |some f=>
   rw[hn]at c
   simp only[Option.isSome_some]at c
   gi_enter func205,ntmps205
   gi_wp2_with (gi_at_call 233;refine(c _).mono ?_;rintro e w1 ⟨b,rfl⟩)
   go_ret
   exact⟨b,0,sJ,.inl ⟨rfl,a,f,hn⟩⟩
 .have d:(16:Int)<=(i:Int):=wB
  gi_enter func205,ntmps205;gi_wp2;go_ret;exact⟨Aa.refl _ _,13,sJ,.inr (.inr ⟨rfl,wB⟩)⟩
def bq0 (T:Tag)(w:o_)(l:List Nat)(v:n_)(W:o_):Prop:=∃g c,v=P_ g l.length c/\Rw 101 1 W g l.length c (Ce l)/\(T g=(5,0)\/w.heap.size<=g)
theorem dc3 {w:o_}{l:List Nat}{G c2:Nat}{ty:j_}(hN:ϊ T w l v)(hb:w.cell? (R_ G)=some (ptr f))(I:l.length<=1000):∃v' W,(Builtin.append_ #[103,103] ty #[v,P_ G 1 c2]).run prog w=.ok v' W/\bq0 T w (l++[f]) v' W/\Aa (On T λt=>t=(5,0)) w W:=by
 have o:∀j u,(Ce [f])[j]?=some u->w.cell? (((R_ G):f_).add j)=some u:=λj u a=>by
  match j,a with
  |0,a=>
   simp[Ce]at a;subst a
   have A:((R_ G):f_).add 0=(R_ G):=by unfold Addr.add;split<;>simp_all
   rw[A];exact hb
 have n:∀u∈Ce [f],u.oneCell'=true:=λu p=>by simp[Ce]at p;subst p;rfl
 have i:(l++[f]).length=l.length+1:=sJ
 have B:Ce (l++[f])=Ce l++Ce [f]:=by simp[Ce]
 obtain⟨⟨rfl,rfl⟩|⟨g,c,rfl,hR,q⟩,_⟩:=hN
 .obtain⟨ii,hi,E,s,d⟩:=mJ.parts;have z:=run_append_nil (P:=prog) w 103 ty 101 ii (.pointer none) mJ.und hi E (R_ G) 1 c2 (Ce [f]) (by rw[s];rfl) o wB wB (by rw[d];omega);have h:=grownCap_ge w 1 0 101;refine⟨_,_,z,⟨w.heap.size,_,rfl,⟨⟨_,Yw rfl,?_,?_⟩,h,grownCap_le_maxLen w 1 0 101 (by simp only[maxLen];omega),rfl,n⟩,.inr w_⟩,((Aa.refl No w).drew.alloc _).no⟩
  .simp only[Array.size_append,List.size_toArray,size_zeroCells,mJ.zs];show 1+_=_;omega
  .simp only[Array.toList_append];exact List.take_left (l₁:=Ce [f])
 .obtain⟨C,r,F,D,y,k⟩:=yX (ty:=ty) (sCap:=c2) (m:=1) mJ hR (ys:=Ce [f]) rfl o n wB wB;refine⟨_,_,D,⟨C,r,by rw[i],by rw[i,B];exact y,?_⟩,?_⟩
  .obtain⟨rfl,_⟩|⟨rfl,_⟩:=k
   .exact .inl q
   .exact .inr w_
  .obtain⟨rfl,b⟩|⟨rfl,b⟩:=k
   .exact b.on λx _ e=>by subst e;exact q
   .exact b.no
end
theorem qP {c:Nat->Nat}{nl:List Nat}(hi:i<16)(d:nm i=some f):Nv c (Ah nm i none) (nl++[f])<=Nv c nm nl:=by
 unfold Nv;have e2:=V8 (f:=PO c (Ah nm i none)) (g:=PO c nm) (l:=List.range 16) (b:=i) List.nodup_range (List.mem_range.2 hi) λk _ a=>by unfold PO Ah;rw[ru a]
 have e3:PO c nm i=Aj (c f):=by unfold PO;rw[d]
 have e4:PO c (Ah nm i none) i=0:=by unfold PO Ah;rw[rW rfl]
 rw[QV];simp only[BP];omega
def RH (K:KS)(i:Nat):KS->Nat->Nat->n_->Prop:=λK' x y f=>(i<16/\∃fl,K.nm i=some fl/\x=0/\y=0/\f=.nilFunc/\∃T,K'={K with nl:=(K.nl++[fl]).filter (λb=>!(K.op b==0)),nm:=Ah K.nm i none,T:=T})\/(i<16/\K.nm i=none/\GY K 6 K' x y f)\/(16<=i/\GY K 13 K' x y f)
section
variable (m:Nat)(w:o_)
theorem Ϝ (K:KS)(i f:Nat)(h:AY K w)(hi:i<16)(hf:K.nm i=some f)(hnl:K.nl.length<=900):
  O_ m 208 #[.pointer (some (S_ K.kb 4)),b_ (i:Nat)] w λe w'=>e=.returned (.tuple #[])/\∃T',AY {K with nl:=(K.nl++[f]).filter (λb=>!(K.op b==0)),nm:=Ah K.nm i none,T:=T' } w'/\BQ K.T T' w w':=by
 obtain⟨d,y⟩:∃d,Nonempty (PLift (d=K.nl++[f])):=⟨_,⟨⟨rfl⟩⟩⟩;obtain⟨ks,I,hC⟩:=h.k;obtain⟨v,S,hN⟩:=hC.nl;have N:=(Ai I 20).trans S;have A:=(h.nmc hi).1;have tf:=(h.nmc hi).2 f hf;rw[hf]at A;simp only[VJ,ptr]at A;have f1:(i:Int)<16:=wB
 have L:=Dt I;gi_enter func208,ntmps208;gi_wp2;refine Dx (P:=prog) _ rfl rfl sU 13 26 [0,1,2,3,4,5,6,7,8,9,10] [11,12] sU (by rfl)
  (iJ (On K.T λt=>t=(5,0)) w.drew 11 12 (λv W=>v=P_ w.heap.size 1 1/\W.cell? (R_ w.heap.size)=some (ptr f)/\Aa No w.drew W) (λ_ v W=>bq0 K.T w d v W)) (YS sJ sJ) _ _ rfl rfl ?_;gi_wp2;refine⟨rfl,sU,Uf,?_,?_,?_⟩
 .intro O u W hI;have d20:=(hI.1.cell (w:=w.drew) (p:=(S_ K.kb 20)) L (by unfold On;rw[h.tk];simp)).trans N;have dn:=(hI.1.cell (w:=w.drew) (p:=(S_ K.kb (4+i))) L (by unfold On;rw[h.tk];simp)).trans A
  repeat' (refine AA ?_ ?_)
  all_goals first|exact dE|gi_wp2
 .intro j hj O u W hI J hu;obtain rfl|rfl:=(by simpa using hj:j=11\/j=12)
  .obtain⟨rfl,_⟩:=hI.2.1 J;refine BI rfl λKK Y=>?_
   show wpListIn NF m prog _ _ _ (Act.put (Act.put _ (some 15) (u 11)) (some 16) (u 12)) _;gi_wp2;refine⟨_,rfl,YR hI sN J ((Aa.refl _ _).alloc _) ⟨sJ,?_,(Aa.refl _ _).alloc _⟩⟩;have:=Yw (w:=w.drew) (o:=.cells #[Q_ f] 101) rfl;exact(Ai this 0).trans rfl
  .have s:=hu 11 sJ sN;obtain⟨r,q,KW⟩:=hI.2.2.1 s J;refine BI rfl λKK Y=>?_
   show wpListIn NF m prog _ _ _ (Act.put (Act.put _ (some 15) (u 11)) (some 16) (u 12)) _;rw[r];have KW0:Aa No w W:=(Aa.refl No w).drew.then KW;have F:ϊ K.T W K.nl v:=ϊ.keep (Q:=λt=>t=(0,0)) hN KW0.no sJ;obtain⟨v',W',U,hP,D⟩:=dc3 (ty:=103) (c2:=1) F q wB;gi_wp2_with (refine Dl rfl (.tmp 8) (.tmp 15) _ rfl rfl rfl U ?_);rw[<-r];refine⟨_,rfl,YQ sN s ((KW.no).then D) ?_⟩;obtain⟨⟨a⟩⟩:=y;rw[a];obtain⟨g,c,e,hR,l⟩:=hP;exact⟨g,c,e,hR,l.imp id λx=>lN KW0.size x⟩
 .intro O u W hI hL;obtain⟨g,c,C,hR,l⟩:=hI.2.2.2 (hL 12 sJ);show wpListIn NF m prog _ _ _ (Act.put (Act.put _ (some 15) (u 11)) (some 16) (u 12)) _;rw[C];have KW:Aa (On K.T λt=>t=(5,0)) w W:=(Aa.refl _ w).drew.then hI.1;have z:=KW.old I (by unfold On;rw[h.tk];simp);have z20:=Cf z 20;have zn:=Cf z (4+i);have Z:=(Ai z 20).trans S;have cn:W.cell? (S_ K.kb (4+i))=some (Q_ f):=(KW.cell (p:=(S_ K.kb (4+i))) L (by unfold On;rw[h.tk];simp)).trans A;have H:K.kb≠g:=λe=>by
   obtain l|l:=l
   .rw[<-e,h.tk]at l;simp at l
   .omega
  have G:g<W.heap.size:=hR.lt;have B:Aa (At K.kb) W ((W.setCell (S_ K.kb 20) (P_ g d.length c)).setCell (S_ K.kb (4+i)) (.pointer none)):=Aa.setCell (Aa.setCell (Aa.refl (At K.kb) W) _ (p:=(S_ K.kb 20)) λ_=>rfl) _ (p:=(S_ K.kb (4+i))) λ_=>rfl
  have V:Aa (On K.T λt=>t=(1,0)\/t=(5,0)) w ((W.setCell (S_ K.kb 20) (P_ g d.length c)).setCell (S_ K.kb (4+i)) (.pointer none)):=(KW.on λk _ e=>.inr e).trans B λk _ e=>by rw[show k=K.kb from e];exact .inl h.tk
  have n:CG K.T (Bi K.T g (5,0)) (λt=>t=(1,0)\/t=(5,0)) (λt=>t=(5,0)) w ((W.setCell (S_ K.kb 20) (P_ g d.length c)).setCell (S_ K.kb (4+i)) (.pointer none)):=CG.row V h.lt l (Nat.lt_of_lt_of_le G B.size) rfl;have M:CG K.T (Bi K.T g (5,0)) (λt=>t=(1,0)\/t=(5,0)\/10<=t.1) (λt=>t=(5,0)\/10<=t.1) w _:=n.PT (λt e=>by obtain e|e:=e;exact .inl e;exact .inr (.inl e)) (λt e=>.inl e);have E:ϊ (Bi K.T g (5,0)) ((W.setCell (S_ K.kb 20) (P_ g d.length c)).setCell (S_ K.kb (4+i)) (.pointer none)) d (P_ g d.length c):=⟨.inr ⟨g,c,rfl,hR.keep B (λe=>H e.symm),A7⟩,λb hb=>by
   obtain⟨⟨a⟩⟩:=y
   rw[a]at hb
   obtain hb|hb:=eF.1 hb
   .exact n.tag (hN.2 b hb) sJ
   .rw[List.mem_singleton.1 hb];exact n.tag tf sJ⟩
  have h1:AY {K with nl:=d,nm:=Ah K.nm i none,T:=Bi K.T g (5,0)} _:=h.aO M (Ap (Ap z _) _) ((KC.cb6 hC n E).ca6 (o:=none) hi (λb e=>by cases e)) (h.fl.I7 n (by rintro t (rfl|rfl)<;>simp) (by rintro t rfl;simp)) ((h.dk.I7 n sJ sJ).sub λln _=>by obtain⟨⟨a⟩⟩:=y;rw[a];exact qP hi hf);have cf:=λm=>gm m _ _ h1 (by obtain⟨⟨a⟩⟩:=y;show d.length<=100000;rw[a];simp;omega)
  gi_wp2_with (gi_at_call 234;refine(cf _).mono ?_;rintro e w9 ⟨rfl,R,X⟩);go_end0;obtain⟨⟨a⟩⟩:=y;rw[a]at R;exact⟨sJ,_,R,(n.Xu (by rintro t (rfl|rfl)<;>simp)).trans X⟩
theorem DU.unlink {NC NS:Nat}{T':Tag}(h:DU NC NS K)(t:b∈K.Ar)(hb:K.ps b=some r)(hi:i<16)(s:K.nm i=some f):DU NC NS {K with nl:=(K.nl++[f]).filter (λb=>!(K.op b==0)),nm:=Ah K.nm i none,T:=T' }/\Rel b K {K with nl:=(K.nl++[f]).filter (λb=>!(K.op b==0)),nm:=Ah K.nm i none,T:=T' }:=by
 have:=h.fds (K1:={K with nl:=(K.nl++[f]).filter (λb=>!(K.op b==0)),nm:=Ah K.nm i none,T:=T' }) (r':=r) (H:=BR K.ps K.Ar) ⟨rfl⟩ t hb rfl rfl rfl rfl rfl (h.pr b r hb) ⟨h.Ei.ho,h.Ei.le,h.Ei.op,?_,?_,?_,?_⟩ λ_ _=>rfl
 .rwa [FD (K:={K with nl:=(K.nl++[f]).filter (λb=>!(K.op b==0)),nm:=Ah K.nm i none,T:=T' }) hb]at this
 .refine List.Pairwise.filter _ ?_;show(K.nl++[f]).Nodup;rw[List.nodup_append];exact⟨h.Ei.nd,sJ,λx p y q e=>h.Ei.dj i f hi s (by rw[List.mem_singleton.1 q]at e;rw[<-e];exact p)⟩
 .intro g n;have:=(List.mem_filter.1 n).2;simp only[Bool.not_eq_true',beq_eq_false_iff_ne]at this;show 1<=K.op g;omega
 .intro j k g d o a c;simp only[Ah]at a c;split at a
  .cases a
  .split at c
   .cases c
   .exact h.Ei.nm j k g d o a c
 .intro j g d a c;simp only[Ah]at a;split at a
  .cases a
  .rename_i m;obtain l|l:=eF.1 (List.mem_filter.1 c).1
   .exact h.Ei.dj j g d a l
   .rw[List.mem_singleton.1 l]at a;exact m (h.Ei.nm j i f d hi a s)
theorem ϝ (K:KS)(NC NS b name:Nat)(r:PR)(h:AY K w)(J:DU NC NS K)(M:b∈K.Ar)(hb:K.ps b=some r)(I:name<65536):
  O_ m 153 #[Q_ K.kb,a_ (name:Nat)] w (FX (RH K name) NC NS b K w):=by
 obtain⟨l,rb,n⟩:=IE w;have o:=h.no l;have t:K.T w.heap.size=(0,0):=h.lt _ w_;have A:=λm=>Rf m _ K name o I
 gi_enter func153,ntmps153;gi_wp2_with (gi_at_call 205;refine(A _).mono ?_;rintro e w1 ⟨c,x,rfl,d⟩;generalize F:w.alloc V_=G at *;obtain⟨rfl,hi,f,p⟩|⟨rfl,d⟩|⟨rfl,d⟩:=d)
 .have C:=o.no c;have E:=J.Ei.nl;have B:=λm=>Ϝ m w1 K name f C hi p wB
  gi_wp2_with (gi_at_call 208;refine(B _).mono ?_;rintro e w2 ⟨rfl,T',D,v⟩);obtain⟨z,u⟩:=J.unlink (T':=T') M hb hi p;have k:BQ K.T T' G w2:=(BQ.no c o.lt).trans v;gi_wp2_with (first|(gi_at_call 152;refine(Eg _ _ 0 wB).mono ?_;rintro e s ⟨rfl,a⟩;obtain⟨q,g,i,j⟩:=Az (x:=0) (y:=0) (f:=.nilFunc) (a.old (k.old rb t) id) rfl)|refine Fa g ?_);refine T_ 0 0 (by simp[results,results153,go_sem,FU j]) rfl ?_;exact BD (K':={K with nl:=(K.nl++[f]).filter (λb=>!(K.op b==0)),nm:=Ah K.nm name none,T:=T' }) (x:=0) (y:=0) h.lt l n ((k).then a) ((D).no a) i wB wB (.inl rfl) (z) (u) hb (λ_=>M) (.inl ⟨hi,f,p,rfl,rfl,rfl,T',rfl⟩)
 .skip
  gi_wp2_with (first|(gi_at_call 140;refine(Uy 6 (c.old rb id) _).mono ?_;rintro e s ⟨rfl,a,q,g,i,j⟩)|refine Fa g ?_);refine T_ 0 6 (by simp[results,results153,go_sem,FU j]) rfl ?_;exact Ci h J M hb l n (c.then a) i sN sN (.inr (.inl ⟨d.1,d.2,GY.of⟩))
 .skip
  gi_wp2_with (first|(gi_at_call 140;refine(Uy 13 (c.old rb id) _).mono ?_;rintro e s ⟨rfl,a,q,g,i,j⟩)|refine Fa g ?_);refine T_ 0 13 (by simp[results,results153,go_sem,FU j]) rfl ?_;exact Ci h J M hb l n (c.then a) i sN sN (.inr (.inr ⟨d,GY.of⟩))
end
def dI (op:Nat->Nat):d_ Nat->Nat->Nat
 |none=>op
 |some f=>Ah op f (op f+1)
theorem oQ (op:Nat->Nat)(o:d_ Nat)(g:Nat):dI op o g=op g+(if o=some g then 1 else 0):=by
 cases o with
 |none=>simp[dI]
 |some f=>
  simp only[dI,Ah]
  by_cases e:g=f
  .subst e;simp
  .rw[ru e,ru (by simpa using gJ e)];rfl
theorem Ϸ {d:Nat->Nat}{e:Nat->d_ Nat}(hi:i0<20)(c:d i0=0)(g:Nat):DK (Ah d i0 1) (Ah e i0 o) g=DK d e g+(if o=some g then 1 else 0):=by
 have:=JG (f:=λj=>if 0<Ah d i0 1 j/\Ah e i0 o j=some g then 1 else 0) (g:=λj=>if 0<d j/\e j=some g then 1 else 0) List.nodup_range (List.mem_range.2 hi) (λk a=>by simp only[Ah,ru a]);have e1:(if 0<Ah d i0 1 i0/\Ah e i0 o i0=some g then 1 else 0)=(if o=some g then 1 else 0):=by simp[Ah]
 have e2:(if 0<d i0/\e i0=some g then 1 else 0)=0:=by simp[c]
 rw[e1,e2]at this;unfold DK;omega
theorem EP.add {ct:Nat->Ct}{tv:Nat->n_}(h:EP H K)(hi:i0<20)(e:K.desc i0=0)(d:∀i j f,i<16->j<16->nm i=some f->nm j=some f->i=j)(c:∀i f,i<16->nm i=some f->f ∉ K.nl):EP (Ah H i0 1) {K with desc:=Ah K.desc i0 1,ef:=Ah K.ef i0 o,op:=dI K.op o,nm:=nm,T:=T,ct:=ct,tv:=tv}:=by
 refine⟨λi a=>?_,λi a=>?_,λg=>?_,h.nd,λg b=>?_,d,c⟩
 .show Ah K.desc i0 1 i=Ah H i0 1 i;unfold Ah;split
  .rfl
  .exact h.ho i a
 .unfold Ah;split
  .omega
  .exact h.le i a
 .show dI K.op o g=DK (Ah K.desc i0 1) (Ah K.ef i0 o) g;rw[Ϸ hi e,oQ,h.op g]
 .have:=h.nz g b;show 1<=dI K.op o g;rw[oQ];omega
theorem bv4 (h:AY K w)(m:EP H K)(hb:w.heap.size<=b):K.op b=0:=by
 rw[m.op b];cases hz:DK K.desc K.ef b with
 |zero=>rfl
 |succ n=>
  exfalso
  obtain⟨i,hi,g⟩:=QU (f:=λi=>if 0<K.desc i/\K.ef i=some b then 1 else 0) (l:=List.range 20) (by unfold DK at hz;omega)
  split at g
  .rename_i c;obtain⟨v,_,_,_,j⟩:=h.ent (List.mem_range.1 hi);obtain⟨e,⟨_,f,k,a⟩|⟨_,_,a⟩|⟨_,_,a⟩⟩:=j c.1
   .rw[c.2]at a;obtain rfl:b=f:=(by simpa using a);obtain⟨_,d,_⟩:=h.fl.GU e b k;rw[h.lt b hb]at d;simp at d
   .rw[c.2]at a;cases a
   .rw[c.2]at a;cases a
  .omega
def Ct.nil:Ct:=⟨[],false,false,0⟩
theorem AY.ae0 {Qz:Nat->Ct}{w':o_}{t:Nat×Nat}(h:AY K w)(J:Aa No w w')(hb:w.heap.size<=b)(N:b<w'.heap.size)(P:10<=t.1)(O:EN (Bi K.T b t) K.op Qz w' K.kb b)(Q:∀k,k≠b->Qz k=K.ct k):AY {K with T:=Bi K.T b t,ct:=Qz} w'/\BQ K.T (Bi K.T b t) w w':=by
 obtain⟨F,j,s⟩:=h.k;have M:CG K.T (Bi K.T b t) (λt=>t=(1,0)\/t=(5,0)\/10<=t.1) (λt=>t=(5,0)\/10<=t.1) w w':=CG.row J.no h.lt (.inr hb) N (.inr P);have B:CG K.T (Bi K.T b t) (λt=>10<=t.1) (λt=>10<=t.1) w w':=CG.row J.no h.lt (.inr hb) N P;refine⟨h.aO (ks':=F) M (J.old j id) (KC.bq7 (s.I7 B sJ) Qz) (cO.of λk=>?_) ?_,M.Xu ?_⟩
 .by_cases e:k=b
  .subst e;exact O
  .refine EN.ct ?_ (Q k e);have m:=(h.fl.one k).keep J id (λ_ _=>id);have hT:∀x,x≠b->Bi K.T b t x=K.T x:=λx E=>AV E
   have A:∀{y v l},Tf K.T w' k y v l->Tf (Bi K.T b t) w' k y v l:=λq=>by
    obtain q | ⟨g,c,a1,a2,o,C,p⟩:=q
    .exact .inl q
    .exact .inr ⟨g,c,a1,a2,o,C,by rw[hT g (λe=>by rw[e,h.lt b hb]at p;simp at p)];exact p⟩
   refine⟨λa=>?_,λa=>?_,λf a=>?_,λa=>?_,λa=>?_⟩<;>rw[hT k e]at a
   .obtain⟨v,a1,a2⟩:=m.file a;exact⟨v,a1,A a2⟩
   .obtain⟨v,a1,a2⟩:=m.pipe a;exact⟨v,a1,A a2⟩
   .obtain⟨a1,a2,o⟩:=m.GU f a;exact⟨a1,by rw[hT f (λe=>by rw[e,h.lt b hb]at a2;simp at a2)];exact a2,o⟩
   .obtain⟨a1,a2⟩:=m.rend a;exact⟨a1,by rw[hT _ (λe=>by rw[e,h.lt b hb]at a2;simp at a2)];exact a2⟩
   .obtain⟨a1,a2⟩:=m.UD a;exact⟨a1,by rw[hT _ (λe=>by rw[e,h.lt b hb]at a2;simp at a2)];exact a2⟩
 .obtain⟨d,G,H⟩:=h.dk;have I:=h.lt b hb;obtain⟨n,D⟩:∃n,t=(10,0)->JS w' b n:=by
   by_cases e:t=(10,0)
   .obtain⟨v,a1,a2⟩:=O.file (by rw[A7,e]);obtain⟨rfl,_⟩|⟨g,c,rfl,_⟩:=a2
    .exact⟨0,λ_=>⟨_,_,_,a1⟩⟩
    .exact⟨_,λ_=>⟨_,_,_,a1⟩⟩
   .exact⟨0,λh=>qx h e⟩
  have u:∀k,K.T k=(10,0)->Ah d b n k=d k:=λk j=>ru (by rintro rfl;rw[I]at j;simp at j)
  refine⟨Ah d b n,λk e=>?_,?_⟩
  .by_cases z:k=b
   .subst z;rw[A7]at e;have:Ah d k n k=n:=rW rfl;rw[this];exact D e
   .rw[AV z]at e;rw[u k e];exact(G k e).keep J id
  .have e1:BP (PO (Ah d b n) K.nm) (List.range 16)=BP (PO d K.nm) (List.range 16):=BU λi hi=>by
    unfold PO
    cases N9:K.nm i with
    |none=>rfl
    |some f=>simp only;rw[u f ((s.nm i (List.mem_range.1 hi)).2 f N9)]
   obtain⟨_,_,_,r⟩:=s.nl;have e2:BP (λk=>Aj (Ah d b n k)) K.nl=BP (λk=>Aj (d k)) K.nl:=BU λk j=>by rw[u k (r k j)]
   show BP _ _+BP _ _<=40;rw[e1,e2];exact H
 .rintro t (rfl|rfl|h)<;>try simp
  rintro rfl;simp at h
theorem AY.ci8 (h:AY K w)(hi:i<16)(l:∀b,o=some b->K.T b=(10,0))(j:XW K.T (Ah K.nm i o) K.nl w):AY {K with nm:=Ah K.nm i o} (w.setCell (S_ K.kb (4+i)) (VJ o))/\BQ K.T K.T w (w.setCell (S_ K.kb (4+i)) (VJ o)):=by
 obtain⟨g,f,d⟩:=h.k;have c:Aa (At K.kb) w (w.setCell (S_ K.kb (4+i)) (VJ o)):=(Aa.refl _ _).setCell _ λ_=>rfl
 have M:CG K.T K.T (λt=>t=(1,0)\/t=(5,0)\/10<=t.1) (λt=>t=(5,0)\/10<=t.1) w (w.setCell (S_ K.kb (4+i)) (VJ o)):=CG.of (c.on λk _ e=>by subst e;exact .inl h.tk) h.lt;have a:CG K.T K.T (λt=>t=(1,0)) (λt=>t=(1,0)) w (w.setCell (S_ K.kb (4+i)) (VJ o)):=CG.of (c.on λk _ e=>by subst e;exact h.tk) h.lt;exact⟨h.aO M (Ap f _) ((d.I7 a sJ).ca6 hi l) (h.fl.I7 a (by rintro t rfl;simp) (by rintro t rfl;simp)) (j.I7 a sJ sJ),a.Xu (by rintro t rfl;simp)⟩
section
variable (m:Nat)(w:o_)
theorem bw4 (K:KS)(i:Nat)(h:AY K w)(hi:i<16)(B:K.op w.heap.size=0):
  O_ m 44 #[.pointer (some (S_ K.kb 4)),b_ (i:Nat),.slice none 0 0] w λe w'=>e=.returned (.tuple #[])/\AY {K with nm:=Ah K.nm i (some w.heap.size),T:=Bi K.T w.heap.size (10,0),ct:=Ah K.ct w.heap.size Ct.nil} w'/\BQ K.T (Bi K.T w.heap.size (10,0)) w w':=by
 have A:(i:Int)<16:=wB
 have u:Aa No w (w.alloc (.cells #[.slice none 0 0,b_ 0] 191)):=(Aa.refl _ _).alloc _;have a:(w.alloc (.cells #[.slice none 0 0,b_ 0] 191)).heap[w.heap.size]?=some (N_ #[.slice none 0 0,b_ 0] 191):=Yw rfl;obtain⟨d,q⟩:=h.ae0 (Qz:=Ah K.ct w.heap.size Ct.nil) (t:=(10,0)) u w_ (Dt a) sJ (EN.dH (v:=.slice none 0 0) A7 (by rw[a,B];rfl) (.inl ⟨rfl,by simp[Ah,Ct.nil]⟩)) (λk x=>ru x);obtain⟨p,n⟩:=AY.ci8 (i:=i) (o:=some w.heap.size) d hi (λb e=>by cases e;exact A7) (d.dk.sub λc y=>by
  have r:c w.heap.size=0:=(y _ A7).eq ⟨_,_,_,a⟩
  have e2:=V8 (f:=PO c (Ah K.nm i (some w.heap.size))) (g:=PO c K.nm) (l:=List.range 16) (b:=i) List.nodup_range (List.mem_range.2 hi) λk _ j=>by unfold PO Ah;rw[ru j]
  have e4:PO c (Ah K.nm i (some w.heap.size)) i=0:=by unfold PO Ah;rw[rW rfl];simp only;rw[r];rfl
  have s:BP (PO c (Ah K.nm i (some w.heap.size))) (List.range 16)<=BP (PO c K.nm) (List.range 16):=wB
  exact Nat.add_le_add_right s _);have z:=(d.nmc hi).1;have z1:=d.kfz (4+i);simp only[VJ,ptr]at p n;gi_enter func44,ntmps44;gi_wp2;go_end0;exact⟨sJ,p,q.trans n⟩
theorem zZ (K:KS)(i f:Nat)(h:AY K w)(hi:i<16)(x:K.nm i=some f)(y:K.op f<=1000):
  O_ m 206 #[.pointer (some (S_ K.kb 4)),b_ (i:Nat)] w λe w'=>∃pb,e=.returned (.iface 337 (ptr pb))/\AY {K with op:=Ah K.op f (K.op f+1),T:=Bi K.T pb (12,f),ct:=Ah K.ct pb Ct.nil} w'/\BQ K.T (Bi K.T pb (12,f)) w w'/\Yp (K.T pb=(0,0)):=by
 have s:(i:Int)<16:=wB
 obtain⟨l,a⟩:=h.nmc hi;have a:=a f x;rw[x]at l;simp only[VJ,ptr]at l;obtain⟨v,c,_⟩:=h.fl.file f a;have q1:w.cell? (S_ f 1)=some (b_ (K.op f)):=(Ai c 1).trans rfl;have z1:=Cf c 1;obtain⟨d,j⟩:=h.bn9 (n:=K.op f+1) a;push_cast at d j;have q:Aa No (w.setCell (S_ f 1) (b_ ((K.op f:Int)+1))) ((w.setCell (S_ f 1) (b_ ((K.op f:Int)+1))).alloc (.cells #[.pointer (some (S_ K.kb 4)),Q_ f,b_ 0] 339)):=(Aa.refl _ _).alloc _;have b:((w.setCell (S_ f 1) (b_ ((K.op f:Int)+1))).alloc (.cells #[.pointer (some (S_ K.kb 4)),Q_ f,b_ 0] 339)).heap[(w.setCell (S_ f 1) (b_ ((K.op f:Int)+1))).heap.size]?=some (N_ #[.pointer (some (S_ K.kb 4)),Q_ f,b_ 0] 339):=Yw rfl;have g:f≠(w.setCell (S_ f 1) (b_ ((K.op f:Int)+1))).heap.size:=λe=>by have:=d.lt f (Nat.le_of_eq e.symm);simp only at this;rw[a]at this;simp at this
 obtain⟨p,o⟩:=AY.ae0 (Qz:=Ah K.ct (w.setCell (S_ f 1) (b_ ((K.op f:Int)+1))).heap.size Ct.nil) (t:=(12,f)) d q w_ (Dt b) sJ (EN.zU A7 (b.trans (by simp[Ah,Ct.nil,ptr])) (by rw[AV g];exact a) (by simp[Ah,Ct.nil])) (λk r=>ru r);gi_enter func206,ntmps206;gi_wp2;go_ret;refine⟨(w.setCell (S_ f 1) (b_ ((K.op f:Int)+1))).heap.size,by simp[ptr],p,j.trans o,d.lt _ w_⟩
end
end Go.Fxa
