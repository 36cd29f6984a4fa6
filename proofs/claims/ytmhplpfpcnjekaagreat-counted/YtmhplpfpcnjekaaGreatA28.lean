/- Calls of descriptors. -/
import Derived.Test.YtmhplpfpcnjekaaGreatA27
namespace Go.Fxa
open Conc Proofs RowKit Proofs.Tryz
set_option maxRecDepth 1000000
set_option maxHeartbeats 0
section
variable (m:Nat) (w:o_)
theorem SY (K:KS) (i:Nat) (v:n_) (hi:i<20) (h1:w.cell? (T_ K.kb (21+i*2))=some v):
  P_ m 203 #[.pointer (some (T_ K.kb 21)),b_ (i:Nat)] w λe w'=>Keep No w w'/\e=.returned v:=by
 have a:(i:Int)<20:=by omega
 gi_enter func203,ntmps203;gi_wp2;go_ret;exact⟨p_ _ _,by simp⟩
end
section
variable (pb ib c L n a m:Nat) (w:o_)
theorem YV (h8:w.cell? (T_ pb 8)=some (Q_ ib L c)) (hn:1<=n) (hn':n<65536) (ha:a<65536) (h:¬a+n<=L):
  P_ m 138 #[.pointer (some (T_ pb 5)),a_ a,b_ n] w λe w'=>e=.returned (.tuple #[.slice none 0 0,.bool false])/\w'=w:=by
 gi_enter func138,ntmps138;gi_wp2;go_ret2;exact⟨by simp,rfl⟩
end
section
variable (m:Nat) (w:o_)
theorem ae6 (K:KS) (NC NS b fd pl:Nat) (r:PR) (h:AV K w) (hO:Ez NC NS K) (hm:b∈K.AP) (hb:K.ps b=some r) (hn:r.en=false) (hfd:fd<65536) (hpl:pl<65536):
  P_ m 154 #[R_ K.kb,R_ b,a_ (fd:Nat),a_ (pl:Nat)] w (FQ NC NS b K w):=by
 have o:=hO.pr b r hb;obtain⟨t,F,D⟩:=HY w;have s:=h.no t;have Gp:K.T w.heap.size=(0,0):=h.lt _ (w_ _);have ch:=λm w1 (a:Keep No (w.alloc V_) w1)=>Wu m w1 K b fd r (s.no a) hb hn hfd
 gi_enter func154,ntmps154;gi_wp2_with fail;generalize hw0:w.alloc V_=G at*;gi_wp2_with (gi_at_call 202;refine(ch _ _ (p_ No G)).mono ?_;rintro e w1 ⟨K1,xh,rfl,O⟩;cases xh)
 .have KK:=((p_ No G)).then K1;gi_wp2_with (first|(gi_at_call 140;refine(wr8 2 (KK.old F id) _).mono ?_;rintro e R ⟨rfl,k,Q,l,n,p⟩)|refine En l ?_);refine TR 0 2 (by simp[results,results154,go_sem,EF p]) rfl ?_;exact BJ h hO hm hb t D (KK.then k) n (by decide) (by decide)
 .have KK:=((p_ No G)).then K1;obtain⟨nd,E,Cm⟩:=O (by first|rfl|trivial);obtain⟨i,rfl,J⟩:=(o.fd nd (t_ E)).resolve_left Cm;obtain⟨hd,_⟩:=hO.close hm hb hn J E;have h1:=s.no KK;obtain⟨g,c,q9,uS,tg,vH⟩:=h1.bY hb hn;have hfl:=(LQ.1 E).1;have f1:(fd:Int)<(r.fds.length:Int):=by omega
  have d:=uS.MR rfl E;obtain⟨vv,M,_,_,N⟩:=h1.uU J;have AU:=N hd;have cg:=λm W (a:Keep No w1 W)=>SY m W K i vv J (a.has M)
  refine Cf (P:=prog) No _ rfl rfl (by kernel_rfl) 13 28 [0,1,2,3,4,5,6,7,8,9,11,12] [10] (by kernel_rfl) (by rfl) (λ_ v _=>v=vv) (λ_ _ _ _ _ h _=>h) _ _ rfl rfl ?_;gi_wp2;refine⟨rfl,by kernel_rfl,?_,?_,?_⟩
  .intro W a;have d9:=a.has (w:=w1.drew) q9;have dd:=a.has (w:=w1.drew) d
   repeat' (refine Ae ?_ ?_)
   all_goals first|exact trivial|gi_wp2
  .intro j hj u W a _;obtain rfl:j=10:=(by simpa using hj);refine Bh rfl λKK2 ac9=>?_
   show wpListIn NF m prog _ _ _ (Act.put _ (some 24) (u 10)) _;gi_wp2_with (gi_at_call 203;refine(cg _ W ((p_ No w1).drew.then a)).mono ?_;rintro e w2 ⟨K2,rfl⟩);exact⟨_,rfl,K2,rfl⟩
  .intro u W a L;have L:=L 10 (by simp);show wpListIn NF m prog _ _ _ (Act.put _ (some 24) (u 10)) _;rw[L];have KW:Keep No G W:=KK.then ((p_ No w1).drew.then a);have A:=s.no KW;obtain⟨e,⟨rfl,f,C,_⟩|⟨rfl,C,_⟩|⟨rfl,C,_⟩⟩:=AU
   .simp only[ptr];have B:=Ϭ e;have z:=λm=>Ϧ m W K b e f pl A C hpl
    gi_wp2_with (first|(gi_at_call 278;refine(z _).mono ?_;rintro Y R JW;obtain⟨I,x,y,Z,rfl,O,hy,U,h7,V⟩:=JW;obtain⟨Q,l,n,p⟩:=Ap (x:=x) (y:=y) (f:=Z) (V.old (KW.old F id) Gp) U.one)|refine En l ?_);obtain⟨X,S⟩:=hO.fds (K1:={ K with T:=I }) (r':=r) (H:=BF K.ps K.AP) ⟨rfl⟩ hm hb rfl rfl rfl rfl rfl o ⟨hO.DV.ho,hO.DV.le,hO.DV.op,hO.DV.nd,hO.DV.nz,hO.DV.nm,hO.DV.dj⟩ λi _=>rfl
    rw[FY (K:={ K with T:=I }) hb]at X S;refine bodyPost_ret (v:=.agg #[a_ x,a_ y,Z]) (by simp[results,results154,go_sem,EF p]) rfl ?_;exact A7 (K':={ K with T:=I }) (x:=x) (y:=y) h.lt t D ((BM.no KW s.lt).trans V) (h7) n O hy U (X) (S) hb (λ_=>hm)
   .simp only[ptr];obtain⟨pp,q,_⟩:=A.fl.rend e C;have B:=Ϯ q;have z:=λm=>iM m W (b_ (pl:Nat))
    gi_wp2_with (first|(gi_at_call 267;refine(z _).mono ?_;rintro Y R ⟨rfl,k⟩;obtain⟨Q,l,n,p⟩:=Ap (x:=0) (y:=2) (f:=.nilFunc) (k.old (KW.old F id) id) rfl)|refine En l ?_);refine TR 0 2 (by simp[results,results154,go_sem,EF p]) rfl ?_;exact A7 (K':=K) (x:=0) (y:=2) h.lt t D ((BM.no KW s.lt).then k) (A.no k) n (by omega) (by omega) (.inl rfl) hO (Rel.refl b K) hb (λ_=>hm)
   .simp only[ptr];obtain⟨pp,q,_⟩:=A.fl.Ru e C;have B:=ϭ q;have z:=λm=>iM m W (b_ (pl:Nat))
    gi_wp2_with (first|(gi_at_call 267;refine(z _).mono ?_;rintro Y R ⟨rfl,k⟩;obtain⟨Q,l,n,p⟩:=Ap (x:=0) (y:=2) (f:=.nilFunc) (k.old (KW.old F id) id) rfl)|refine En l ?_);refine TR 0 2 (by simp[results,results154,go_sem,EF p]) rfl ?_;exact A7 (K':=K) (x:=0) (y:=2) h.lt t D ((BM.no KW s.lt).then k) (A.no k) n (by omega) (by omega) (.inl rfl) hO (Rel.refl b K) hb (λ_=>hm)
end
section
variable (m:Nat) (w:o_)
theorem af9 (K:KS) (NC NS b fd at_ n:Nat) (r:PR) (h:AV K w) (hO:Ez NC NS K) (hm:b∈K.AP) (hb:K.ps b=some r) (hn:r.en=false) (hfd:fd<65536) (hat:at_<65536) (hnn:n<65536):
  P_ m 146 #[R_ K.kb,R_ b,a_ (fd:Nat),a_ (at_:Nat),a_ (n:Nat)] w (FQ NC NS b K w):=by
 have o:=hO.pr b r hb;have hL:=(hO.co.pl b r hb).1;have hI:=o.Ag;obtain⟨J,Q,M⟩:=HY w;have s:=h.no J;have Gp:K.T w.heap.size=(0,0):=h.lt _ (w_ _);have ch:=λm w1 (a:Keep No (w.alloc V_) w1)=>Wu m w1 K b fd r (s.no a) hb hn hfd
 obtain⟨gi,ci,q8,hRi,kP,him⟩:=s.YF hb hn;have XY:=hRi.le;by_cases hz:n=0
 .subst hz;have yC:Jr r (.slice none 0 0):=.inl rfl;have cw:=λm=>Jt b at_ m (w.alloc V_)
  gi_enter func146,ntmps146;gi_wp2_with (gi_at_call 138;refine(cw _).mono ?_;rintro e w1 ⟨rfl,G⟩;have G:=G.symm;subst G;generalize hw0:w.alloc V_=L at *);gi_wp2_with (gi_at_call 202;refine(ch _ _ (p_ No L)).mono ?_;rintro e w1 ⟨K1,xh,rfl,H⟩;cases xh)
  .have KK:=((p_ No L)).then K1;gi_wp2_with (first|(gi_at_call 140;refine(wr8 2 (KK.old Q id) _).mono ?_;rintro e S ⟨rfl,q,R,k,l,p⟩)|refine En k ?_);refine TR 0 2 (by simp[results,results146,go_sem,EF p]) rfl ?_;exact BJ h hO hm hb J M (KK.then q) l (by decide) (by decide)
  .have KK:=((p_ No L)).then K1;obtain⟨nd,O,Cm⟩:=H (by first|rfl|trivial);obtain⟨i,rfl,hi⟩:=(o.fd nd (t_ O)).resolve_left Cm;obtain⟨hd,_⟩:=hO.close hm hb hn hi O;have h1:=s.no KK;obtain⟨g,c,q9,uS,tg,vH⟩:=h1.bY hb hn;have hfl:=(LQ.1 O).1;have f1:(fd:Int)<(r.fds.length:Int):=(by omega);have d:=uS.MR rfl O;obtain⟨vv,hv1,_,_,hv4⟩:=h1.uU hi;have AU:=hv4 hd;have cg:=λm W (a:Keep No w1 W)=>SY m W K i vv hi (a.has hv1)
   refine Cf (P:=prog) No _ rfl rfl (by kernel_rfl) 12 44 [0,1,2,3,4,5,6,7,8,9,11] [10] (by kernel_rfl) (by rfl) (λ_ v _=>v=vv) (λ_ _ _ _ _ h _=>h) _ _ rfl rfl ?_;gi_wp2;refine⟨rfl,by kernel_rfl,?_,?_,?_⟩
   .intro W a;have d9:=a.has (w:=w1.drew) q9;have dd:=a.has (w:=w1.drew) d
    repeat' (refine Ae ?_ ?_)
    all_goals first|exact trivial|gi_wp2
   .intro j hj u W a _;obtain rfl:j=10:=(by simpa using hj);refine Bh rfl λKK2 ac9=>?_
    show wpListIn NF m prog _ _ _ (Act.put _ (some 41) (u 10)) _;gi_wp2_with (gi_at_call 203;refine(cg _ W ((p_ No w1).drew.then a)).mono ?_;rintro e w2 ⟨K2,rfl⟩);exact⟨_,rfl,K2,rfl⟩
   .intro u W a hu;have hu:=hu 10 (by simp);show wpListIn NF m prog _ _ _ (Act.put _ (some 41) (u 10)) _;rw[hu];have KW:Keep No L W:=KK.then ((p_ No w1).drew.then a);have N:=s.no KW;obtain⟨e,⟨rfl,f,I,_⟩|⟨rfl,I,_⟩|⟨rfl,I,_⟩⟩:=AU
    .simp only[ptr];have F:=gY e;have D:=λm=>gz m W K b e f r _ N hb hn hI I yC
     gi_wp2_with (first|(gi_at_call 277;refine(D _).mono ?_;rintro e7 S V;obtain⟨Ag,x,y,E,rfl,H,hy,z,t,Y,Z,C⟩:=V;obtain⟨R,k,l,p⟩:=Ap (x:=x) (y:=y) (f:=E) (C.old (KW.old Q id) Gp) z.one)|refine En k ?_);obtain⟨X,U⟩:=hO.fds (r':={ r with Ag:=Ag }) (Q4.refl K) hm hb rfl rfl rfl rfl t ⟨o.A,o.B,o.P,o.st,o.pid,o.par,Y,o.fds,o.fd,λe=>by simp only[t];exact o.len e,λe=>absurd e (by simp[hn])⟩ hO.DV λi _=>rfl
     refine bodyPost_ret (v:=.agg #[a_ x,a_ y,E]) (by simp[results,results146,go_sem,EF p]) rfl ?_;exact A7 (K':=K.Di b { r with Ag:=Ag }) (x:=x) (y:=y) h.lt J M ((BM.no KW s.lt).trans C) (Z) l H hy z (X) (U) Am (λ_=>hm)
    .simp only[ptr];have F:=ig e;have D:=λm=>fU m W K b e r _ N hb hn hI I yC
     gi_wp2_with (first|(gi_at_call 266;refine(D _).mono ?_;rintro e7 S V;obtain⟨Ag,x,y,E,rfl,H,hy,z,t,Y,Z,C⟩:=V;obtain⟨R,k,l,p⟩:=Ap (x:=x) (y:=y) (f:=E) (C.old (KW.old Q id) Gp) z.one)|refine En k ?_);obtain⟨X,U⟩:=hO.fds (r':={ r with Ag:=Ag }) (Q4.refl K) hm hb rfl rfl rfl rfl t ⟨o.A,o.B,o.P,o.st,o.pid,o.par,Y,o.fds,o.fd,λe=>by simp only[t];exact o.len e,λe=>absurd e (by simp[hn])⟩ hO.DV λi _=>rfl
     refine bodyPost_ret (v:=.agg #[a_ x,a_ y,E]) (by simp[results,results146,go_sem,EF p]) rfl ?_;exact A7 (K':=K.Di b { r with Ag:=Ag }) (x:=x) (y:=y) h.lt J M ((BM.no KW s.lt).trans C) (Z) l H hy z (X) (U) Am (λ_=>hm)
    .simp only[ptr];obtain⟨pp,hpp,_⟩:=N.fl.Ru e I;have F:=gZ hpp;have D:=λm=>iO m W (.slice none 0 0)
     gi_wp2_with (first|(gi_at_call 274;refine(D _).mono ?_;rintro e7 S ⟨rfl,q⟩;obtain⟨R,k,l,p⟩:=Ap (x:=0) (y:=2) (f:=.nilFunc) (q.old (KW.old Q id) id) rfl)|refine En k ?_);refine TR 0 2 (by simp[results,results146,go_sem,EF p]) rfl ?_;exact A7 (K':=K) (x:=0) (y:=2) h.lt J M ((BM.no KW s.lt).then q) (N.no q) l (by omega) (by omega) (.inl rfl) hO (Rel.refl b K) hb (λ_=>hm)
 .by_cases Eo:at_+n<=r.Ag.length
  .have yC:Jr r (.slice (some (T_ gi at_)) n n):=.inr ⟨gi,ci,at_,n,him,rfl,by omega,Eo⟩;have cw:=λm=>EM b gi ci r.Ag.length n at_ m (w.alloc V_) q8 (by omega) hat hL XY Eo
   gi_enter func146,ntmps146;gi_wp2_with (gi_at_call 138;refine(cw _).mono ?_;rintro e w1 ⟨rfl,G⟩;have G:=G.symm;subst G;generalize hw0:w.alloc V_=L at *);gi_wp2_with (gi_at_call 202;refine(ch _ _ (p_ No L)).mono ?_;rintro e w1 ⟨K1,xh,rfl,H⟩;cases xh)
   .have KK:=((p_ No L)).then K1;gi_wp2_with (first|(gi_at_call 140;refine(wr8 2 (KK.old Q id) _).mono ?_;rintro e S ⟨rfl,q,R,k,l,p⟩)|refine En k ?_);refine TR 0 2 (by simp[results,results146,go_sem,EF p]) rfl ?_;exact BJ h hO hm hb J M (KK.then q) l (by decide) (by decide)
   .have KK:=((p_ No L)).then K1;obtain⟨nd,O,Cm⟩:=H (by first|rfl|trivial);obtain⟨i,rfl,hi⟩:=(o.fd nd (t_ O)).resolve_left Cm;obtain⟨hd,_⟩:=hO.close hm hb hn hi O;have h1:=s.no KK;obtain⟨g,c,q9,uS,tg,vH⟩:=h1.bY hb hn;have hfl:=(LQ.1 O).1;have f1:(fd:Int)<(r.fds.length:Int):=(by omega);have d:=uS.MR rfl O;obtain⟨vv,hv1,_,_,hv4⟩:=h1.uU hi;have AU:=hv4 hd;have cg:=λm W (a:Keep No w1 W)=>SY m W K i vv hi (a.has hv1)
    refine Cf (P:=prog) No _ rfl rfl (by kernel_rfl) 12 44 [0,1,2,3,4,5,6,7,8,9,11] [10] (by kernel_rfl) (by rfl) (λ_ v _=>v=vv) (λ_ _ _ _ _ h _=>h) _ _ rfl rfl ?_;gi_wp2;refine⟨rfl,by kernel_rfl,?_,?_,?_⟩
    .intro W a;have d9:=a.has (w:=w1.drew) q9;have dd:=a.has (w:=w1.drew) d
     repeat' (refine Ae ?_ ?_)
     all_goals first|exact trivial|gi_wp2
    .intro j hj u W a _;obtain rfl:j=10:=(by simpa using hj);refine Bh rfl λKK2 ac9=>?_
     show wpListIn NF m prog _ _ _ (Act.put _ (some 41) (u 10)) _;gi_wp2_with (gi_at_call 203;refine(cg _ W ((p_ No w1).drew.then a)).mono ?_;rintro e w2 ⟨K2,rfl⟩);exact⟨_,rfl,K2,rfl⟩
    .intro u W a hu;have hu:=hu 10 (by simp);show wpListIn NF m prog _ _ _ (Act.put _ (some 41) (u 10)) _;rw[hu];have KW:Keep No L W:=KK.then ((p_ No w1).drew.then a);have N:=s.no KW;obtain⟨e,⟨rfl,f,I,_⟩|⟨rfl,I,_⟩|⟨rfl,I,_⟩⟩:=AU
     .simp only[ptr];have F:=gY e;have D:=λm=>gz m W K b e f r _ N hb hn hI I yC
      gi_wp2_with (first|(gi_at_call 277;refine(D _).mono ?_;rintro e7 S V;obtain⟨Ag,x,y,E,rfl,H,hy,z,t,Y,Z,C⟩:=V;obtain⟨R,k,l,p⟩:=Ap (x:=x) (y:=y) (f:=E) (C.old (KW.old Q id) Gp) z.one)|refine En k ?_);obtain⟨X,U⟩:=hO.fds (r':={ r with Ag:=Ag }) (Q4.refl K) hm hb rfl rfl rfl rfl t ⟨o.A,o.B,o.P,o.st,o.pid,o.par,Y,o.fds,o.fd,λe=>by simp only[t];exact o.len e,λe=>absurd e (by simp[hn])⟩ hO.DV λi _=>rfl
      refine bodyPost_ret (v:=.agg #[a_ x,a_ y,E]) (by simp[results,results146,go_sem,EF p]) rfl ?_;exact A7 (K':=K.Di b { r with Ag:=Ag }) (x:=x) (y:=y) h.lt J M ((BM.no KW s.lt).trans C) (Z) l H hy z (X) (U) Am (λ_=>hm)
     .simp only[ptr];have F:=ig e;have D:=λm=>fU m W K b e r _ N hb hn hI I yC
      gi_wp2_with (first|(gi_at_call 266;refine(D _).mono ?_;rintro e7 S V;obtain⟨Ag,x,y,E,rfl,H,hy,z,t,Y,Z,C⟩:=V;obtain⟨R,k,l,p⟩:=Ap (x:=x) (y:=y) (f:=E) (C.old (KW.old Q id) Gp) z.one)|refine En k ?_);obtain⟨X,U⟩:=hO.fds (r':={ r with Ag:=Ag }) (Q4.refl K) hm hb rfl rfl rfl rfl t ⟨o.A,o.B,o.P,o.st,o.pid,o.par,Y,o.fds,o.fd,λe=>by simp only[t];exact o.len e,λe=>absurd e (by simp[hn])⟩ hO.DV λi _=>rfl
      refine bodyPost_ret (v:=.agg #[a_ x,a_ y,E]) (by simp[results,results146,go_sem,EF p]) rfl ?_;exact A7 (K':=K.Di b { r with Ag:=Ag }) (x:=x) (y:=y) h.lt J M ((BM.no KW s.lt).trans C) (Z) l H hy z (X) (U) Am (λ_=>hm)
     .simp only[ptr];obtain⟨pp,hpp,_⟩:=N.fl.Ru e I;have F:=gZ hpp;have D:=λm=>iO m W (.slice (some (T_ gi at_)) n n)
      gi_wp2_with (first|(gi_at_call 274;refine(D _).mono ?_;rintro e7 S ⟨rfl,q⟩;obtain⟨R,k,l,p⟩:=Ap (x:=0) (y:=2) (f:=.nilFunc) (q.old (KW.old Q id) id) rfl)|refine En k ?_);refine TR 0 2 (by simp[results,results146,go_sem,EF p]) rfl ?_;exact A7 (K':=K) (x:=0) (y:=2) h.lt J M ((BM.no KW s.lt).then q) (N.no q) l (by omega) (by omega) (.inl rfl) hO (Rel.refl b K) hb (λ_=>hm)
  .have cw:=λm=>YV b gi ci r.Ag.length n at_ m (w.alloc V_) q8 (by omega) hnn hat Eo
   gi_enter func146,ntmps146;gi_wp2_with (gi_at_call 138;refine(cw _).mono ?_;rintro e w1 ⟨rfl,G⟩;have G:=G.symm;subst G;generalize hw0:w.alloc V_=L at *);gi_wp2_with (first|(gi_at_call 140;refine(wr8 1 Q _).mono ?_;rintro e S ⟨rfl,q,R,k,l,p⟩)|refine En k ?_);refine TR 0 1 (by simp[results,results146,go_sem,EF p]) rfl ?_;exact BJ h hO hm hb J M q l (by decide) (by decide)
end
section
variable (m:Nat) (w:o_)
theorem ϊ (K:KS) (NC NS b fd at_ n:Nat) (r:PR) (h:AV K w) (hO:Ez NC NS K) (hm:b∈K.AP) (hb:K.ps b=some r) (hn:r.en=false) (hfd:fd<65536) (hat:at_<65536) (hnn:n<65536):
  P_ m 147 #[R_ K.kb,R_ b,a_ (fd:Nat),a_ (at_:Nat),a_ (n:Nat)] w (FQ NC NS b K w):=by
 have o:=hO.pr b r hb;have hL:=(hO.co.pl b r hb).1;have hI:=o.Ag;have hnl:K.nl.length<=1000:=by have:=hO.DV.nl;omega
 obtain⟨L,R,N⟩:=HY w;have t:=h.no L;have Gp:K.T w.heap.size=(0,0):=h.lt _ (w_ _);have ch:=λm w1 (a:Keep No (w.alloc V_) w1)=>Wu m w1 K b fd r (t.no a) hb hn hfd
 obtain⟨gi,ci,q8,hRi,kP,him⟩:=t.YF hb hn;have XY:=hRi.le;by_cases hz:n=0
 .subst hz;have yC:Jr r (.slice none 0 0):=.inl rfl;have cw:=λm=>Jt b at_ m (w.alloc V_)
  gi_enter func147,ntmps147;gi_wp2_with (gi_at_call 138;refine(cw _).mono ?_;rintro e w1 ⟨rfl,G⟩;have G:=G.symm;subst G;generalize hw0:w.alloc V_=M at *);gi_wp2_with (gi_at_call 202;refine(ch _ _ (p_ No M)).mono ?_;rintro e w1 ⟨K1,xh,rfl,I⟩;cases xh)
  .have KK:=((p_ No M)).then K1;gi_wp2_with (first|(gi_at_call 140;refine(wr8 2 (KK.old R id) _).mono ?_;rintro e U ⟨rfl,s,S,k,l,p⟩)|refine En k ?_);refine TR 0 2 (by simp[results,results147,go_sem,EF p]) rfl ?_;exact BJ h hO hm hb L N (KK.then s) l (by decide) (by decide)
  .have KK:=((p_ No M)).then K1;obtain⟨nd,Q,Cm⟩:=I (by first|rfl|trivial);obtain⟨i,rfl,Y⟩:=(o.fd nd (t_ Q)).resolve_left Cm;obtain⟨hd,_⟩:=hO.close hm hb hn Y Q;have h1:=t.no KK;obtain⟨g,c,q9,uS,tg,vH⟩:=h1.bY hb hn;have hfl:=(LQ.1 Q).1;have f1:(fd:Int)<(r.fds.length:Int):=(by omega);have d:=uS.MR rfl Q;obtain⟨vv,hv1,_,_,hv4⟩:=h1.uU Y;have AU:=hv4 hd;have cg:=λm W (a:Keep No w1 W)=>SY m W K i vv Y (a.has hv1)
   refine Cf (P:=prog) No _ rfl rfl (by kernel_rfl) 12 44 [0,1,2,3,4,5,6,7,8,9,11] [10] (by kernel_rfl) (by rfl) (λ_ v _=>v=vv) (λ_ _ _ _ _ h _=>h) _ _ rfl rfl ?_;gi_wp2;refine⟨rfl,by kernel_rfl,?_,?_,?_⟩
   .intro W a;have d9:=a.has (w:=w1.drew) q9;have dd:=a.has (w:=w1.drew) d
    repeat' (refine Ae ?_ ?_)
    all_goals first|exact trivial|gi_wp2
   .intro j hj u W a _;obtain rfl:j=10:=(by simpa using hj);refine Bh rfl λKK2 ac9=>?_
    show wpListIn NF m prog _ _ _ (Act.put _ (some 41) (u 10)) _;gi_wp2_with (gi_at_call 203;refine(cg _ W ((p_ No w1).drew.then a)).mono ?_;rintro e w2 ⟨K2,rfl⟩);exact⟨_,rfl,K2,rfl⟩
   .intro u W a hu;have hu:=hu 10 (by simp);show wpListIn NF m prog _ _ _ (Act.put _ (some 41) (u 10)) _;rw[hu];have KW:Keep No M W:=KK.then ((p_ No w1).drew.then a);have O:=t.no KW;obtain⟨e,⟨rfl,f,J,_⟩|⟨rfl,J,_⟩|⟨rfl,J,_⟩⟩:=AU
    .simp only[ptr];have F:=gU e;have D:=λm=>Za m W K b e f r _ O hb hn hI hL J yC hnl ⟨hO.DV.nd,hO.DV.nm,hO.DV.dj⟩
     gi_wp2_with (first|(gi_at_call 279;refine(D _).mono ?_;rintro e7 U V;obtain⟨q,x,y,E,rfl,I,hy,A,X,B⟩:=V;obtain⟨S,k,l,p⟩:=Ap (x:=x) (y:=y) (f:=E) (B.old (KW.old R id) Gp) A.one)|refine En k ?_);obtain⟨C,z⟩:=hO.fds (K1:={ K with T:=q }) (r':=r) (H:=BF K.ps K.AP) ⟨rfl⟩ hm hb rfl rfl rfl rfl rfl o ⟨hO.DV.ho,hO.DV.le,hO.DV.op,hO.DV.nd,hO.DV.nz,hO.DV.nm,hO.DV.dj⟩ λi _=>rfl
     rw[FY (K:={ K with T:=q }) hb]at C z;refine bodyPost_ret (v:=.agg #[a_ x,a_ y,E]) (by simp[results,results147,go_sem,EF p]) rfl ?_;exact A7 (K':={ K with T:=q }) (x:=x) (y:=y) h.lt L N ((BM.no KW t.lt).trans B) (X) l I hy A (C) (z) hb (λ_=>hm)
    .simp only[ptr];obtain⟨pp,Z,_⟩:=O.fl.rend e J;have F:=gX Z;have D:=λm=>Zr m W (.slice none 0 0)
     gi_wp2_with (first|(gi_at_call 268;refine(D _).mono ?_;rintro e7 U ⟨rfl,s⟩;obtain⟨S,k,l,p⟩:=Ap (x:=0) (y:=2) (f:=.nilFunc) (s.old (KW.old R id) id) rfl)|refine En k ?_);refine TR 0 2 (by simp[results,results147,go_sem,EF p]) rfl ?_;exact A7 (K':=K) (x:=0) (y:=2) h.lt L N ((BM.no KW t.lt).then s) (O.no s) l (by omega) (by omega) (.inl rfl) hO (Rel.refl b K) hb (λ_=>hm)
    .simp only[ptr];have F:=gV e;have D:=λm=>YW m W K b e r _ O hb hn hI hL J yC
     gi_wp2_with (first|(gi_at_call 275;refine(D _).mono ?_;rintro e7 U V;obtain⟨q,x,y,E,rfl,I,hy,A,X,B⟩:=V;obtain⟨S,k,l,p⟩:=Ap (x:=x) (y:=y) (f:=E) (B.old (KW.old R id) Gp) A.one)|refine En k ?_);obtain⟨C,z⟩:=hO.fds (K1:={ K with T:=q }) (r':=r) (H:=BF K.ps K.AP) ⟨rfl⟩ hm hb rfl rfl rfl rfl rfl o ⟨hO.DV.ho,hO.DV.le,hO.DV.op,hO.DV.nd,hO.DV.nz,hO.DV.nm,hO.DV.dj⟩ λi _=>rfl
     rw[FY (K:={ K with T:=q }) hb]at C z;refine bodyPost_ret (v:=.agg #[a_ x,a_ y,E]) (by simp[results,results147,go_sem,EF p]) rfl ?_;exact A7 (K':={ K with T:=q }) (x:=x) (y:=y) h.lt L N ((BM.no KW t.lt).trans B) (X) l I hy A (C) (z) hb (λ_=>hm)
 .by_cases Eo:at_+n<=r.Ag.length
  .have yC:Jr r (.slice (some (T_ gi at_)) n n):=.inr ⟨gi,ci,at_,n,him,rfl,by omega,Eo⟩;have cw:=λm=>EM b gi ci r.Ag.length n at_ m (w.alloc V_) q8 (by omega) hat hL XY Eo
   gi_enter func147,ntmps147;gi_wp2_with (gi_at_call 138;refine(cw _).mono ?_;rintro e w1 ⟨rfl,G⟩;have G:=G.symm;subst G;generalize hw0:w.alloc V_=M at *);gi_wp2_with (gi_at_call 202;refine(ch _ _ (p_ No M)).mono ?_;rintro e w1 ⟨K1,xh,rfl,I⟩;cases xh)
   .have KK:=((p_ No M)).then K1;gi_wp2_with (first|(gi_at_call 140;refine(wr8 2 (KK.old R id) _).mono ?_;rintro e U ⟨rfl,s,S,k,l,p⟩)|refine En k ?_);refine TR 0 2 (by simp[results,results147,go_sem,EF p]) rfl ?_;exact BJ h hO hm hb L N (KK.then s) l (by decide) (by decide)
   .have KK:=((p_ No M)).then K1;obtain⟨nd,Q,Cm⟩:=I (by first|rfl|trivial);obtain⟨i,rfl,Y⟩:=(o.fd nd (t_ Q)).resolve_left Cm;obtain⟨hd,_⟩:=hO.close hm hb hn Y Q;have h1:=t.no KK;obtain⟨g,c,q9,uS,tg,vH⟩:=h1.bY hb hn;have hfl:=(LQ.1 Q).1;have f1:(fd:Int)<(r.fds.length:Int):=(by omega);have d:=uS.MR rfl Q;obtain⟨vv,hv1,_,_,hv4⟩:=h1.uU Y;have AU:=hv4 hd;have cg:=λm W (a:Keep No w1 W)=>SY m W K i vv Y (a.has hv1)
    refine Cf (P:=prog) No _ rfl rfl (by kernel_rfl) 12 44 [0,1,2,3,4,5,6,7,8,9,11] [10] (by kernel_rfl) (by rfl) (λ_ v _=>v=vv) (λ_ _ _ _ _ h _=>h) _ _ rfl rfl ?_;gi_wp2;refine⟨rfl,by kernel_rfl,?_,?_,?_⟩
    .intro W a;have d9:=a.has (w:=w1.drew) q9;have dd:=a.has (w:=w1.drew) d
     repeat' (refine Ae ?_ ?_)
     all_goals first|exact trivial|gi_wp2
    .intro j hj u W a _;obtain rfl:j=10:=(by simpa using hj);refine Bh rfl λKK2 ac9=>?_
     show wpListIn NF m prog _ _ _ (Act.put _ (some 41) (u 10)) _;gi_wp2_with (gi_at_call 203;refine(cg _ W ((p_ No w1).drew.then a)).mono ?_;rintro e w2 ⟨K2,rfl⟩);exact⟨_,rfl,K2,rfl⟩
    .intro u W a hu;have hu:=hu 10 (by simp);show wpListIn NF m prog _ _ _ (Act.put _ (some 41) (u 10)) _;rw[hu];have KW:Keep No M W:=KK.then ((p_ No w1).drew.then a);have O:=t.no KW;obtain⟨e,⟨rfl,f,J,_⟩|⟨rfl,J,_⟩|⟨rfl,J,_⟩⟩:=AU
     .simp only[ptr];have F:=gU e;have D:=λm=>Za m W K b e f r _ O hb hn hI hL J yC hnl ⟨hO.DV.nd,hO.DV.nm,hO.DV.dj⟩
      gi_wp2_with (first|(gi_at_call 279;refine(D _).mono ?_;rintro e7 U V;obtain⟨q,x,y,E,rfl,I,hy,A,X,B⟩:=V;obtain⟨S,k,l,p⟩:=Ap (x:=x) (y:=y) (f:=E) (B.old (KW.old R id) Gp) A.one)|refine En k ?_);obtain⟨C,z⟩:=hO.fds (K1:={ K with T:=q }) (r':=r) (H:=BF K.ps K.AP) ⟨rfl⟩ hm hb rfl rfl rfl rfl rfl o ⟨hO.DV.ho,hO.DV.le,hO.DV.op,hO.DV.nd,hO.DV.nz,hO.DV.nm,hO.DV.dj⟩ λi _=>rfl
      rw[FY (K:={ K with T:=q }) hb]at C z;refine bodyPost_ret (v:=.agg #[a_ x,a_ y,E]) (by simp[results,results147,go_sem,EF p]) rfl ?_;exact A7 (K':={ K with T:=q }) (x:=x) (y:=y) h.lt L N ((BM.no KW t.lt).trans B) (X) l I hy A (C) (z) hb (λ_=>hm)
     .simp only[ptr];obtain⟨pp,Z,_⟩:=O.fl.rend e J;have F:=gX Z;have D:=λm=>Zr m W (.slice (some (T_ gi at_)) n n)
      gi_wp2_with (first|(gi_at_call 268;refine(D _).mono ?_;rintro e7 U ⟨rfl,s⟩;obtain⟨S,k,l,p⟩:=Ap (x:=0) (y:=2) (f:=.nilFunc) (s.old (KW.old R id) id) rfl)|refine En k ?_);refine TR 0 2 (by simp[results,results147,go_sem,EF p]) rfl ?_;exact A7 (K':=K) (x:=0) (y:=2) h.lt L N ((BM.no KW t.lt).then s) (O.no s) l (by omega) (by omega) (.inl rfl) hO (Rel.refl b K) hb (λ_=>hm)
     .simp only[ptr];have F:=gV e;have D:=λm=>YW m W K b e r _ O hb hn hI hL J yC
      gi_wp2_with (first|(gi_at_call 275;refine(D _).mono ?_;rintro e7 U V;obtain⟨q,x,y,E,rfl,I,hy,A,X,B⟩:=V;obtain⟨S,k,l,p⟩:=Ap (x:=x) (y:=y) (f:=E) (B.old (KW.old R id) Gp) A.one)|refine En k ?_);obtain⟨C,z⟩:=hO.fds (K1:={ K with T:=q }) (r':=r) (H:=BF K.ps K.AP) ⟨rfl⟩ hm hb rfl rfl rfl rfl rfl o ⟨hO.DV.ho,hO.DV.le,hO.DV.op,hO.DV.nd,hO.DV.nz,hO.DV.nm,hO.DV.dj⟩ λi _=>rfl
      rw[FY (K:={ K with T:=q }) hb]at C z;refine bodyPost_ret (v:=.agg #[a_ x,a_ y,E]) (by simp[results,results147,go_sem,EF p]) rfl ?_;exact A7 (K':={ K with T:=q }) (x:=x) (y:=y) h.lt L N ((BM.no KW t.lt).trans B) (X) l I hy A (C) (z) hb (λ_=>hm)
  .have cw:=λm=>YV b gi ci r.Ag.length n at_ m (w.alloc V_) q8 (by omega) hnn hat Eo
   gi_enter func147,ntmps147;gi_wp2_with (gi_at_call 138;refine(cw _).mono ?_;rintro e w1 ⟨rfl,G⟩;have G:=G.symm;subst G;generalize hw0:w.alloc V_=M at *);gi_wp2_with (first|(gi_at_call 140;refine(wr8 1 R _).mono ?_;rintro e U ⟨rfl,s,S,k,l,p⟩)|refine En k ?_);refine TR 0 1 (by simp[results,results147,go_sem,EF p]) rfl ?_;exact BJ h hO hm hb L N s l (by decide) (by decide)
end
def Yi (S:Nat->Prop) (w1:o_) (e1 e2:Nat) (P1:n_->o_->Prop) (P2:n_->n_->o_->Prop) (L:Nat->Bool) (u:Y_) (W:o_):Prop:=
 Keep S w1 W/\(L e1=false->W=w1/\L e2=false)/\(L e1=true->L e2=false->P1 (u e1) W)/\(L e2=true->P2 (u e1) (u e2) W)
section
variable {S:Nat->Prop} {w1:o_} {e1 e2:Nat} {P1:n_->o_->Prop} {P2:n_->n_->o_->Prop} {ss:List Nat}
theorem Tu (h1:e1∈ss) (h2:e2∈ss):∀L L' u u' W,(∀i∈ss,L i=L' i/\u i=u' i)->Yi S w1 e1 e2 P1 P2 L u W->Yi S w1 e1 e2 P1 P2 L' u' W:=by
 rintro L L' u u' W h ⟨a,b,c,d⟩;obtain⟨e,p2⟩:=h e1 h1;obtain⟨q1,f⟩:=h e2 h2;exact⟨a,λx=>by rw[<-q1];exact b (e.trans x),λx y=>p2 ▸ c (e.trans x) (q1.trans y),λx=>p2 ▸ f ▸ d (q1.trans x)⟩
theorem O1 (u:Y_):Yi S w1 e1 e2 P1 P2 (λ_=>false) u w1:=⟨p_ _ _,λ_=>⟨rfl,rfl⟩,λh=>absurd h (by simp),λh=>absurd h (by simp)⟩
theorem Tt {L:Nat->Bool} {u:Nat->n_} {W W':o_} {v:n_} (h:Yi S w1 e1 e2 P1 P2 L u W) (Cm:e1≠e2) (hL:L e1=false) (hK:Keep S w1 W') (hv:P1 v W'):Yi S w1 e1 e2 P1 P2 (ML L e1) (JO u e1 v) W':=by
 obtain⟨_,b,_,_⟩:=h;have a:=(b hL).2;refine⟨hK,λx=>absurd x (by simp[ML]),λ_ _=>by simp only[JO,if_true];exact hv,λx=>?_⟩;simp only[ML,if_neg Cm.symm,a]at x;cases x
theorem Tq {L:Nat->Bool} {u:Nat->n_} {W':o_} {v:n_} (Cm:e1≠e2) (hL:L e1=true) (hK:Keep S w1 W') (hv:P2 (u e1) v W'):Yi S w1 e1 e2 P1 P2 (ML L e2) (JO u e2 v) W':=by
 refine⟨hK,λx=>?_,λ_ y=>absurd y (by simp[ML]),λ_=>?_⟩
 .simp only[ML,if_neg Cm,hL]at x;cases x
 .simp only[JO,if_true,if_neg Cm];exact hv
end
section
variable (m:Nat) (w:o_)
theorem AV.nmc {K:KS} {w:o_} {i:Nat} (h:AV K w) (hi:i<16):w.cell? (T_ K.kb (4+i))=some (XX (K.nm i))/\∀b,K.nm i=some b->K.T b=(10,0):=by
 obtain⟨d,c,a⟩:=h.k;exact⟨(Af c _).trans (a.nm i hi).1,(a.nm i hi).2⟩
theorem az0 (K:KS) (i:Nat) (h:AV K w) (hi:i<16):P_ m 233 #[.pointer (some (T_ K.kb 4)),b_ (i:Nat)] w λe w'=>Keep No w w'/\e=.returned (.bool (K.nm i).isSome):=by
 have q:=(h.nmc hi).1;have a:(i:Int)<16:=by omega
 cases hn:K.nm i with
 |none=>
  rw[hn]at q
  simp only[XX]at q
  gi_enter func233,ntmps233
  gi_wp2
  go_ret
  exact⟨p_ _ _,by simp⟩
 |some f=>
  rw[hn]at q
  simp only[XX,ptr]at q
  gi_enter func233,ntmps233
  gi_wp2
  go_ret
  exact⟨p_ _ _,by simp⟩
def bb8 (K:KS) (i:Nat) (x:Nat):Prop:=(x=0/\i<16/\∃f,K.nm i=some f)\/(x=6/\i<16/\K.nm i=none)\/(x=13/\16<=i)
theorem Qj (K:KS) (i:Nat) (h:AV K w) (hi:i<65536):P_ m 205 #[R_ K.kb,a_ (i:Nat)] w λe w'=>Keep No w w'/\∃x:Nat,e=.returned (a_ x)/\bb8 K i x:=by
 by_cases a:i<16
 .have d:¬(16:Int)<=(i:Int):=by omega
  have c:=λm=>az0 m w K i h a
  cases hn:K.nm i with
  |none=>
   rw[hn]at c
   simp only[Option.isSome_none]at c
   gi_enter func205,ntmps205
   gi_wp2_with (gi_at_call 233;refine(c _).mono ?_;rintro e w1 ⟨b,rfl⟩)
   go_ret
   exact⟨b,6,by simp,.inr (.inl ⟨rfl,a,hn⟩)⟩
  |some f=>
   rw[hn]at c
   simp only[Option.isSome_some]at c
   gi_enter func205,ntmps205
   gi_wp2_with (gi_at_call 233;refine(c _).mono ?_;rintro e w1 ⟨b,rfl⟩)
   go_ret
   exact⟨b,0,by simp,.inl ⟨rfl,a,f,hn⟩⟩
 .have d:(16:Int)<=(i:Int):=by omega
  gi_enter func205,ntmps205;gi_wp2;go_ret;exact⟨p_ _ _,13,by simp,.inr (.inr ⟨rfl,by omega⟩)⟩
def ap9 (T:Tag) (w:o_) (l:List Nat) (v:n_) (W:o_):Prop:=∃g c,v=Q_ g l.length c/\Rw 101 1 W g l.length c (Bj l)/\(T g=(5,0)\/w.heap.size<=g)
theorem bz2 {T:Tag} {w:o_} {l:List Nat} {v:n_} {f vb c2:Nat} {ty:j_} (hN:ve T w l v) (hb:w.cell? (S_ vb)=some (ptr f)) (hl:l.length<=1000):∃v' W,(Builtin.append_ #[103,103] ty #[v,Q_ vb 1 c2]).run prog w=.ok v' W/\ap9 T w (l++[f]) v' W/\Keep (On T λt=>t=(5,0)) w W:=by
 have o:∀j u,(Bj [f])[j]?=some u->w.cell? (((S_ vb):f_).add j)=some u:=λj u a=>by
  match j,a with
  |0,a=>
   simp[Bj]at a;subst a
   have A:((S_ vb):f_).add 0=(S_ vb):=by unfold Addr.add;split<;>simp_all
   rw[A];exact hb
 have n:∀u∈Bj [f],u.oneCell'=true:=λu p=>by simp[Bj]at p;subst p;rfl
 have i:(l++[f]).length=l.length+1:=by simp
 have B:Bj (l++[f])=Bj l++Bj [f]:=by simp[Bj]
 obtain⟨⟨rfl,rfl⟩|⟨g,c,rfl,D,q⟩,_⟩:=hN
 .obtain⟨ii,E,G,z,d⟩:=dZ.parts;have s:=run_append_nil (P:=prog) w 103 ty 101 ii (.pointer none) dZ.und E G (S_ vb) 1 c2 (Bj [f]) (by rw[z];rfl) o (by omega) (by omega) (by rw[d];omega);have h:=grownCap_ge w 1 0 101;refine⟨_,_,s,⟨w.heap.size,_,rfl,⟨⟨_,heap_alloc_new rfl,?_,?_⟩,h,grownCap_le_maxLen w 1 0 101 (by simp only[maxLen];omega),rfl,n⟩,.inr (w_ _)⟩,((p_ No w).drew.alloc _).no⟩
  .simp only[Array.size_append,List.size_toArray,size_zeroCells,dZ.zs];show 1+_=_;omega
  .simp only[Array.toList_append];exact List.take_left (l₁:=Bj [f])
 .obtain⟨C,r,H,F,y,k⟩:=dN (ty:=ty) (sCap:=c2) (m:=1) dZ D (ys:=Bj [f]) rfl o n (by omega) (by omega);refine⟨_,_,F,⟨C,r,by rw[i],by rw[i,B];exact y,?_⟩,?_⟩
  .obtain⟨rfl,_⟩|⟨rfl,_⟩:=k
   .exact .inl q
   .exact .inr (w_ _)
  .obtain⟨rfl,b⟩|⟨rfl,b⟩:=k
   .exact b.on λx _ e=>by subst e;exact q
   .exact b.no
end
theorem jZ {ln:Nat->Nat} {nm:Nat->d_ Nat} {nl:List Nat} {i f:Nat} (hi:i<16) (hf:nm i=some f):Rx ln (Ar nm i none) (nl++[f])<=Rx ln nm nl:=by
 unfold Rx;have e2:=UE (f:=Ot ln (Ar nm i none)) (g:=Ot ln nm) (l:=List.range 16) (b:=i) List.nodup_range (List.mem_range.2 hi) λk _ a=>by unfold Ot Ar;rw[if_neg a]
 have e3:Ot ln nm i=Aj (ln f):=by unfold Ot;rw[hf]
 have e4:Ot ln (Ar nm i none) i=0:=by unfold Ot Ar;rw[if_pos rfl]
 rw[OA];simp only[BD];omega
section
variable (m:Nat) (w:o_)
theorem vO (K:KS) (i f:Nat) (h:AV K w) (hi:i<16) (hf:K.nm i=some f) (hnl:K.nl.length<=900):
  P_ m 208 #[.pointer (some (T_ K.kb 4)),b_ (i:Nat)] w λe w'=>e=.returned (.tuple #[])/\∃T',AV { K with nl:=(K.nl++[f]).filter (λb=>!(K.op b==0)),nm:=Ar K.nm i none,T:=T' } w'/\BM K.T T' w w':=by
 obtain⟨d,A⟩:∃d,Nonempty (PLift (d=K.nl++[f])):=⟨_,⟨⟨rfl⟩⟩⟩;obtain⟨ks,O,X⟩:=h.k;obtain⟨v,Z,Y⟩:=X.nl;have S:=(Af O 20).trans Z;have D:=(h.nmc hi).1;have tf:=(h.nmc hi).2 f hf;rw[hf]at D;simp only[XX,ptr]at D;have f1:(i:Int)<16:=by omega
 have R:=BQ O;gi_enter func208,ntmps208;gi_wp2;refine CV (P:=prog) _ rfl rfl (by kernel_rfl) 13 26 [0,1,2,3,4,5,6,7,8,9,10] [11,12] (by kernel_rfl) (by rfl)
  (Yi (On K.T λt=>t=(5,0)) w.drew 11 12 (λv W=>v=Q_ w.heap.size 1 1/\W.cell? (S_ w.heap.size)=some (ptr f)/\Keep No w.drew W) (λ_ v W=>ap9 K.T w d v W)) (Tu (by simp) (by simp)) _ _ rfl rfl ?_;gi_wp2;refine⟨rfl,by kernel_rfl,O1,?_,?_,?_⟩
 .intro U u W l;have d20:=(l.1.cell (w:=w.drew) (p:=(T_ K.kb 20)) R (by unfold On;rw[h.tk];simp)).trans S;have dn:=(l.1.cell (w:=w.drew) (p:=(T_ K.kb (4+i))) R (by unfold On;rw[h.tk];simp)).trans D
  repeat' (refine Ae ?_ ?_)
  all_goals first|exact trivial|gi_wp2
 .intro j hj U u W l F hu;obtain rfl|rfl:=(by simpa using hj:j=11\/j=12)
  .obtain⟨rfl,_⟩:=l.2.1 F;refine Bh rfl λKK Lh=>?_
   show wpListIn NF m prog _ _ _ (Act.put (Act.put _ (some 15) (u 11)) (some 16) (u 12)) _;gi_wp2;refine⟨_,rfl,Tt l (by decide) F ((p_ _ _).alloc _) ⟨by simp,?_,(p_ _ _).alloc _⟩⟩;have:=heap_alloc_new (w:=w.drew) (o:=.cells #[R_ f] 101) rfl;exact(Af this 0).trans rfl
  .have z:=hu 11 (by simp) (by decide);obtain⟨y,r,KW⟩:=l.2.2.1 z F;refine Bh rfl λKK Lh=>?_
   show wpListIn NF m prog _ _ _ (Act.put (Act.put _ (some 15) (u 11)) (some 16) (u 12)) _;rw[y];have KW0:Keep No w W:=(p_ No w).drew.then KW;have J:ve K.T W K.nl v:=ve.keep (Q:=λt=>t=(0,0)) Y KW0.no (by simp);obtain⟨v',W',GH,hP,H⟩:=bz2 (ty:=103) (c2:=1) J r (by omega);gi_wp2_with (refine Ci rfl (.tmp 8) (.tmp 15) _ rfl rfl rfl GH ?_);rw[<-y];refine⟨_,rfl,Tq (by decide) z ((KW.no).then H) ?_⟩;obtain⟨⟨a⟩⟩:=A;rw[a];obtain⟨g,c,e,C,n⟩:=hP;exact⟨g,c,e,C,n.imp id λx=>Nat.le_trans KW0.size x⟩
 .intro U u W l hL;obtain⟨g,c,G,C,n⟩:=l.2.2.2 (hL 12 (by simp));show wpListIn NF m prog _ _ _ (Act.put (Act.put _ (some 15) (u 11)) (some 16) (u 12)) _;rw[G];have KW:Keep (On K.T λt=>t=(5,0)) w W:=(p_ _ w).drew.then l.1;have B:=KW.old O (by unfold On;rw[h.tk];simp);have z20:=BO B 20;have zn:=BO B (4+i);have c20:=(Af B 20).trans Z;have cn:W.cell? (T_ K.kb (4+i))=some (R_ f):=(KW.cell (p:=(T_ K.kb (4+i))) R (by unfold On;rw[h.tk];simp)).trans D;have N:K.kb≠g:=λe=>by
   obtain n|n:=n
   .rw[<-e,h.tk]at n;simp at n
   .omega
  have L:g<W.heap.size:=C.lt;have E:Keep (At K.kb) W ((W.setCell (T_ K.kb 20) (Q_ g d.length c)).setCell (T_ K.kb (4+i)) (.pointer none)):=Keep.setCell (Keep.setCell (p_ (At K.kb) W) _ (p:=(T_ K.kb 20)) λ_=>rfl) _ (p:=(T_ K.kb (4+i))) λ_=>rfl
  have K2:Keep (On K.T λt=>t=(1,0)\/t=(5,0)) w ((W.setCell (T_ K.kb 20) (Q_ g d.length c)).setCell (T_ K.kb (4+i)) (.pointer none)):=(KW.on λk _ e=>.inr e).trans E λk _ e=>by rw[show k=K.kb from e];exact .inl h.tk
  have q:Dv K.T (BA K.T g (5,0)) (λt=>t=(1,0)\/t=(5,0)) (λt=>t=(5,0)) w ((W.setCell (T_ K.kb 20) (Q_ g d.length c)).setCell (T_ K.kb (4+i)) (.pointer none)):=Dv.row K2 h.lt n (Nat.lt_of_lt_of_le L E.size) rfl;have M:Dv K.T (BA K.T g (5,0)) (λt=>t=(1,0)\/t=(5,0)\/10<=t.1) (λt=>t=(5,0)\/10<=t.1) w _:=q.weak (λt e=>by obtain e|e:=e;exact .inl e;exact .inr (.inl e)) (λt e=>.inl e);have I:ve (BA K.T g (5,0)) ((W.setCell (T_ K.kb 20) (Q_ g d.length c)).setCell (T_ K.kb (4+i)) (.pointer none)) d (Q_ g d.length c):=⟨.inr ⟨g,c,rfl,C.keep E (λe=>N e.symm),BH⟩,λb s=>by
   obtain⟨⟨a⟩⟩:=A
   rw[a]at s
   obtain s|s:=List.mem_append.1 s
   .exact q.tag (Y.2 b s) (by simp)
   .rw[List.mem_singleton.1 s];exact q.tag tf (by simp)⟩
  have h1:AV { K with nl:=d,nm:=Ar K.nm i none,T:=BA K.T g (5,0) } _:=h.Yd M (Ah (Ah B _) _) ((KC.bc8 X q I).bc5 (o:=none) hi (λb e=>by cases e)) (h.fl.IE q (by rintro t (rfl|rfl)<;>simp) (by rintro t rfl;simp)) ((h.dk.IE q (by simp) (by simp)).sub λln _=>by obtain⟨⟨a⟩⟩:=A;rw[a];exact jZ hi hf);have cf:=λm=>Zo m _ _ h1 (by obtain⟨⟨a⟩⟩:=A;show d.length<=100000;rw[a];simp;omega)
  gi_wp2_with (gi_at_call 234;refine(cf _).mono ?_;rintro e w9 ⟨rfl,V,M9⟩);go_end0;obtain⟨⟨a⟩⟩:=A;rw[a]at V;exact⟨by simp,_,V,(q.Vt (by rintro t (rfl|rfl)<;>simp)).trans M9⟩
theorem Ez.unlink {NC NS b i f:Nat} {K:KS} {T':Tag} {r:PR} (h:Ez NC NS K) (hm:b∈K.AP) (hb:K.ps b=some r) (hi:i<16) (hf:K.nm i=some f):Ez NC NS { K with nl:=(K.nl++[f]).filter (λb=>!(K.op b==0)),nm:=Ar K.nm i none,T:=T' }/\Rel b K { K with nl:=(K.nl++[f]).filter (λb=>!(K.op b==0)),nm:=Ar K.nm i none,T:=T' }:=by
 have:=h.fds (K1:={ K with nl:=(K.nl++[f]).filter (λb=>!(K.op b==0)),nm:=Ar K.nm i none,T:=T' }) (r':=r) (H:=BF K.ps K.AP) ⟨rfl⟩ hm hb rfl rfl rfl rfl rfl (h.pr b r hb) ⟨h.DV.ho,h.DV.le,h.DV.op,?_,?_,?_,?_⟩ λ_ _=>rfl
 .rwa [FY (K:={ K with nl:=(K.nl++[f]).filter (λb=>!(K.op b==0)),nm:=Ar K.nm i none,T:=T' }) hb]at this
 .refine List.Pairwise.filter _ ?_;show(K.nl++[f]).Nodup;rw[List.nodup_append];exact⟨h.DV.nd,by simp,λx p y q e=>h.DV.dj i f hi hf (by rw[List.mem_singleton.1 q]at e;rw[<-e];exact p)⟩
 .intro g n;have:=(List.mem_filter.1 n).2;simp only[Bool.not_eq_true',beq_eq_false_iff_ne]at this;show 1<=K.op g;omega
 .intro j k g d o a c;simp only[Ar]at a c;split at a
  .cases a
  .split at c
   .cases c
   .exact h.DV.nm j k g d o a c
 .intro j g d a c;simp only[Ar]at a;split at a
  .cases a
  .rename_i m;obtain l|l:=List.mem_append.1 (List.mem_filter.1 c).1
   .exact h.DV.dj j g d a l
   .rw[List.mem_singleton.1 l]at a;exact m (h.DV.nm j i f d hi a hf)
theorem vP (K:KS) (NC NS b name:Nat) (r:PR) (h:AV K w) (hO:Ez NC NS K) (hm:b∈K.AP) (hb:K.ps b=some r) (hname:name<65536):
  P_ m 153 #[R_ K.kb,a_ (name:Nat)] w (FQ NC NS b K w):=by
 obtain⟨k,o,l⟩:=HY w;have n:=h.no k;have u:K.T w.heap.size=(0,0):=h.lt _ (w_ _);have B:=λm=>Qj m _ K name n hname
 gi_enter func153,ntmps153;gi_wp2_with (gi_at_call 205;refine(B _).mono ?_;rintro e w1 ⟨c,x,rfl,H⟩;generalize G:w.alloc V_=I at *;obtain⟨rfl,q,f,p⟩|⟨rfl,_⟩|⟨rfl,_⟩:=H)
 .have D:=n.no c;have F:=hO.DV.nl;have C:=λm=>vO m w1 K name f D q p (by omega)
  gi_wp2_with (gi_at_call 208;refine(C _).mono ?_;rintro e w2 ⟨rfl,T',E,z⟩);obtain⟨A,v⟩:=hO.unlink (T':=T') hm hb q p;have j:BM K.T T' I w2:=(BM.no c n.lt).trans z;gi_wp2_with (first|(gi_at_call 152;refine(Dx _ _ 0 (by omega)).mono ?_;rintro e t ⟨rfl,a⟩;obtain⟨s,d,g,i⟩:=Ap (x:=0) (y:=0) (f:=.nilFunc) (a.old (j.old o u) id) rfl)|refine En d ?_);refine TR 0 0 (by simp[results,results153,go_sem,EF i]) rfl ?_;exact A7 (K':={ K with nl:=(K.nl++[f]).filter (λb=>!(K.op b==0)),nm:=Ar K.nm name none,T:=T' }) (x:=0) (y:=0) h.lt k l ((j).then a) ((E).no a) g (by omega) (by omega) (.inl rfl) (A) (v) hb (λ_=>hm)
 .skip
  gi_wp2_with (first|(gi_at_call 140;refine(wr8 6 (c.old o id) _).mono ?_;rintro e t ⟨rfl,a,s,d,g,i⟩)|refine En d ?_);refine TR 0 6 (by simp[results,results153,go_sem,EF i]) rfl ?_;exact BJ h hO hm hb k l (c.then a) g (by decide) (by decide)
 .skip
  gi_wp2_with (first|(gi_at_call 140;refine(wr8 13 (c.old o id) _).mono ?_;rintro e t ⟨rfl,a,s,d,g,i⟩)|refine En d ?_);refine TR 0 13 (by simp[results,results153,go_sem,EF i]) rfl ?_;exact BJ h hO hm hb k l (c.then a) g (by decide) (by decide)
end
end Go.Fxa
