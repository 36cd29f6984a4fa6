/- Calls of descriptors. -/
import Derived.Test.YtmhplpfpcnjekaaGreatA27
namespace Go.Fxa
open Conc Proofs RowKit Proofs.Tryz
set_option maxRecDepth 1000000
set_option maxHeartbeats 0
def qV (K:KS) (b:Nat) (r:PR) (fd at_ n:Nat):KS->Nat->Nat->n_->Prop:=λK' x y f=>(¬(n=0\/at_+n<=r.Ae.length)/\O6 K 1 K' x y f)\/((n=0\/at_+n<=r.Ae.length)/\XFd K r fd (λe g K' x y f=>∃Ae ct,xH K e g r at_ n Ae ct x y f/\K'=KS.AP { K with ct:=ct } b { r with Ae:=Ae }) (λe K' x y f=>∃Ae ct,XRd K (K.ct e).n r at_ n Ae ct x y f/\K'=KS.AP { K with ct:=ct } b { r with Ae:=Ae }) (λ_=>O6 K 2) K' x y f)
section
variable (m:Nat) (w:o_)
theorem ad4 (K:KS) (NC NS b fd at_ n:Nat) (r:PR) (h:A8 K w) (hO:GK NC NS K) (hm:b∈K.AV) (hb:K.ps b=some r) (hn:r.en=false) (hfd:fd<65536) (hat:at_<65536) (hnn:n<65536):
  P_ m 146 #[R_ K.kb,R_ b,a_ (fd:Nat),a_ (at_:Nat),a_ (n:Nat)] w (Kr (qV K b r fd at_ n) NC NS b K w):=by
 have o:=hO.pr b r hb;have hL:=(hO.co.pl b r hb).1;have hI:=o.Ae;obtain⟨N,S,Q⟩:=Oa w;have C:=h.no N;have MR:K.T w.heap.size=(0,0):=h.lt _ (w_ _);have ch:=λm w1 (a:Keep No (w.alloc V_) w1)=>kG m w1 K b fd r (C.no a) hb hn hfd
 obtain⟨gi,ci,q8,hRi,tgi,him⟩:=C.qw hb hn;have jw:=hRi.le;by_cases hz:n=0
 .subst hz;have xu:Jq r (.slice none 0 0) at_ 0:=.inl ⟨rfl,rfl⟩;have cw:=λm=>OJ b at_ m (w.alloc V_)
  gi_enter func146,ntmps146;gi_wp2_with (gi_at_call 138;refine(cw _).mono ?_;rintro e w1 ⟨rfl,L⟩;have L:=L.symm;subst L;generalize hw0:w.alloc V_=O at *);gi_wp2_with (gi_at_call 202;refine(ch _ _ (p_ No O)).mono ?_;rintro e w1 ⟨K1,xh,rfl,M,hxe⟩;cases xh)
  .have KK:=((p_ No O)).then K1;gi_wp2_with (first|(gi_at_call 140;refine(wr8 2 (KK.old S id) _).mono ?_;rintro e V ⟨rfl,z,U,k,l,p⟩)|refine Io k ?_);refine TR 0 2 (by simp[results,results146,go_sem,Jj p]) rfl ?_;exact DX h hO hm hb N Q (KK.then z) l (by decide) (by decide) (.inr ⟨.inl rfl,.inl ⟨hxe.out.symm,O6.of⟩⟩)
  .have KK:=((p_ No O)).then K1;obtain⟨nd,s,Cf⟩:=M (by first|rfl|trivial);obtain⟨i,rfl,t⟩:=(o.fd nd (t_ s)).resolve_left Cf;obtain⟨hd,_⟩:=hO.close hm hb hn t s;have h1:=C.no KK;obtain⟨g,c,q9,ϴ,tg,aa5⟩:=h1.qx hb hn;have hfl:=(O5.1 s).1;have f1:(fd:Int)<(r.fds.length:Int):=(by omega);have d:=ϴ.O7 rfl s;obtain⟨vv,J,_,_,hv4⟩:=h1.xy t;have TM:Hid (K.tv i=vv):=x_ ((h1.xY t).symm.trans J);have AO:=hv4 hd;have cg:=λm W (a:Keep No w1 W)=>VI m W K i vv t (a.has J)
   refine CP (P:=prog) No _ rfl rfl (by kernel_rfl) 12 44 [0,1,2,3,4,5,6,7,8,9,11] [10] (by kernel_rfl) (by rfl) (λ_ v _=>v=vv) (λ_ _ _ _ _ h _=>h) _ _ rfl rfl ?_;gi_wp2;refine⟨rfl,by kernel_rfl,?_,?_,?_⟩
   .intro W a;have d9:=a.has (w:=w1.drew) q9;have dd:=a.has (w:=w1.drew) d
    repeat' (refine Az ?_ ?_)
    all_goals first|exact trivial|gi_wp2
   .intro j hj u W a _;obtain rfl:j=10:=(by simpa using hj);refine BJ rfl λKK2 ar0=>?_
    show wpListIn NF m prog _ _ _ (Act.put _ (some 41) (u 10)) _;gi_wp2_with (gi_at_call 203;refine(cg _ W ((p_ No w1).drew.then a)).mono ?_;rintro e w2 ⟨K2,rfl⟩);exact⟨_,rfl,K2,rfl⟩
   .intro u W a hu;have hu:=hu 10 (by simp);show wpListIn NF m prog _ _ _ (Act.put _ (some 41) (u 10)) _;rw[hu];have KW:Keep No O W:=KK.then ((p_ No w1).drew.then a);have R:=C.no KW;obtain⟨e,⟨rfl,f,q,_⟩|⟨rfl,q,_⟩|⟨rfl,q,_⟩⟩:=AO
    .simp only[ptr];have I:=dV e;have G:=λm=>dI m W K b e f _ _ r _ R hb hn hI q xu
     gi_wp2_with (first|(gi_at_call 277;refine(G _).mono ?_;rintro e7 V Z;obtain⟨Ae,ct,x,y,H,rfl,M,hy,E,D,UF,h7,F,jy⟩:=Z;obtain⟨U,k,l,p⟩:=AU (x:=x) (y:=y) (f:=H) (F.old (KW.old S id) MR) E.one)|refine Io k ?_);obtain⟨TP,Y⟩:=hO.fds (r':={ r with Ae:=Ae }) (K1:={ K with ct:=ct }) ⟨rfl⟩ hm hb rfl rfl rfl rfl D ⟨o.A,o.B,o.P,o.st,o.pid,o.par,UF,o.fds,o.fd,λe=>by simp only[D];exact o.len e,λe=>absurd e (by simp[hn])⟩ ⟨hO.Eh.ho,hO.Eh.le,hO.Eh.op,hO.Eh.nd,hO.Eh.nz,hO.Eh.nm,hO.Eh.dj⟩ λi _=>rfl
     refine bodyPost_ret (v:=.agg #[a_ x,a_ y,H]) (by simp[results,results146,go_sem,Jj p]) rfl ?_;exact Ci (K':=KS.AP { K with ct:=ct } b { r with Ae:=Ae }) (x:=x) (y:=y) h.lt N Q ((BV.no KW C.lt).trans F) (h7) l M hy E (TP) (Y) Ah (λ_=>hm) (.inr ⟨.inl rfl,.inr ⟨i,s,t,.inl ⟨e,f,TM,q,_,_,jy,rfl⟩⟩⟩)
    .simp only[ptr];have I:=dX e;have G:=λm=>dh m W K b e _ _ r _ R hb hn hI q xu
     gi_wp2_with (first|(gi_at_call 266;refine(G _).mono ?_;rintro e7 V Z;obtain⟨Ae,ct,x,y,H,rfl,M,hy,E,D,UF,h7,F,jy⟩:=Z;obtain⟨U,k,l,p⟩:=AU (x:=x) (y:=y) (f:=H) (F.old (KW.old S id) MR) E.one)|refine Io k ?_);obtain⟨TP,Y⟩:=hO.fds (r':={ r with Ae:=Ae }) (K1:={ K with ct:=ct }) ⟨rfl⟩ hm hb rfl rfl rfl rfl D ⟨o.A,o.B,o.P,o.st,o.pid,o.par,UF,o.fds,o.fd,λe=>by simp only[D];exact o.len e,λe=>absurd e (by simp[hn])⟩ ⟨hO.Eh.ho,hO.Eh.le,hO.Eh.op,hO.Eh.nd,hO.Eh.nz,hO.Eh.nm,hO.Eh.dj⟩ λi _=>rfl
     refine bodyPost_ret (v:=.agg #[a_ x,a_ y,H]) (by simp[results,results146,go_sem,Jj p]) rfl ?_;exact Ci (K':=KS.AP { K with ct:=ct } b { r with Ae:=Ae }) (x:=x) (y:=y) h.lt N Q ((BV.no KW C.lt).trans F) (h7) l M hy E (TP) (Y) Ah (λ_=>hm) (.inr ⟨.inl rfl,.inr ⟨i,s,t,.inr (.inl ⟨e,TM,q,_,_,jy,rfl⟩)⟩⟩)
    .simp only[ptr];obtain⟨hpp,_⟩:=R.fl.TU e q;have I:=dW hpp;have G:=λm=>fC m W (.slice none 0 0)
     gi_wp2_with (first|(gi_at_call 274;refine(G _).mono ?_;rintro e7 V ⟨rfl,z⟩;obtain⟨U,k,l,p⟩:=AU (x:=0) (y:=2) (f:=.nilFunc) (z.old (KW.old S id) id) rfl)|refine Io k ?_);refine TR 0 2 (by simp[results,results146,go_sem,Jj p]) rfl ?_;exact Ci (K':=K) (x:=0) (y:=2) h.lt N Q ((BV.no KW C.lt).then z) (R.no z) l (by omega) (by omega) (.inl rfl) hO (Rel.refl b K) hb (λ_=>hm) (.inr ⟨.inl rfl,.inr ⟨i,s,t,.inr (.inr ⟨e,TM,q,O6.of⟩)⟩⟩)
 .by_cases X:at_+n<=r.Ae.length
  .have xu:Jq r (.slice (some (T_ gi at_)) n n) at_ n:=.inr ⟨gi,ci,him,rfl,by omega,X⟩;have cw:=λm=>GV b gi ci r.Ae.length n at_ m (w.alloc V_) q8 (by omega) hat hL jw X
   gi_enter func146,ntmps146;gi_wp2_with (gi_at_call 138;refine(cw _).mono ?_;rintro e w1 ⟨rfl,L⟩;have L:=L.symm;subst L;generalize hw0:w.alloc V_=O at *);gi_wp2_with (gi_at_call 202;refine(ch _ _ (p_ No O)).mono ?_;rintro e w1 ⟨K1,xh,rfl,M,hxe⟩;cases xh)
   .have KK:=((p_ No O)).then K1;gi_wp2_with (first|(gi_at_call 140;refine(wr8 2 (KK.old S id) _).mono ?_;rintro e V ⟨rfl,z,U,k,l,p⟩)|refine Io k ?_);refine TR 0 2 (by simp[results,results146,go_sem,Jj p]) rfl ?_;exact DX h hO hm hb N Q (KK.then z) l (by decide) (by decide) (.inr ⟨.inr X,.inl ⟨hxe.out.symm,O6.of⟩⟩)
   .have KK:=((p_ No O)).then K1;obtain⟨nd,s,Cf⟩:=M (by first|rfl|trivial);obtain⟨i,rfl,t⟩:=(o.fd nd (t_ s)).resolve_left Cf;obtain⟨hd,_⟩:=hO.close hm hb hn t s;have h1:=C.no KK;obtain⟨g,c,q9,ϴ,tg,aa5⟩:=h1.qx hb hn;have hfl:=(O5.1 s).1;have f1:(fd:Int)<(r.fds.length:Int):=(by omega);have d:=ϴ.O7 rfl s;obtain⟨vv,J,_,_,hv4⟩:=h1.xy t;have TM:Hid (K.tv i=vv):=x_ ((h1.xY t).symm.trans J);have AO:=hv4 hd;have cg:=λm W (a:Keep No w1 W)=>VI m W K i vv t (a.has J)
    refine CP (P:=prog) No _ rfl rfl (by kernel_rfl) 12 44 [0,1,2,3,4,5,6,7,8,9,11] [10] (by kernel_rfl) (by rfl) (λ_ v _=>v=vv) (λ_ _ _ _ _ h _=>h) _ _ rfl rfl ?_;gi_wp2;refine⟨rfl,by kernel_rfl,?_,?_,?_⟩
    .intro W a;have d9:=a.has (w:=w1.drew) q9;have dd:=a.has (w:=w1.drew) d
     repeat' (refine Az ?_ ?_)
     all_goals first|exact trivial|gi_wp2
    .intro j hj u W a _;obtain rfl:j=10:=(by simpa using hj);refine BJ rfl λKK2 ar0=>?_
     show wpListIn NF m prog _ _ _ (Act.put _ (some 41) (u 10)) _;gi_wp2_with (gi_at_call 203;refine(cg _ W ((p_ No w1).drew.then a)).mono ?_;rintro e w2 ⟨K2,rfl⟩);exact⟨_,rfl,K2,rfl⟩
    .intro u W a hu;have hu:=hu 10 (by simp);show wpListIn NF m prog _ _ _ (Act.put _ (some 41) (u 10)) _;rw[hu];have KW:Keep No O W:=KK.then ((p_ No w1).drew.then a);have R:=C.no KW;obtain⟨e,⟨rfl,f,q,_⟩|⟨rfl,q,_⟩|⟨rfl,q,_⟩⟩:=AO
     .simp only[ptr];have I:=dV e;have G:=λm=>dI m W K b e f _ _ r _ R hb hn hI q xu
      gi_wp2_with (first|(gi_at_call 277;refine(G _).mono ?_;rintro e7 V Z;obtain⟨Ae,ct,x,y,H,rfl,M,hy,E,D,UF,h7,F,jy⟩:=Z;obtain⟨U,k,l,p⟩:=AU (x:=x) (y:=y) (f:=H) (F.old (KW.old S id) MR) E.one)|refine Io k ?_);obtain⟨TP,Y⟩:=hO.fds (r':={ r with Ae:=Ae }) (K1:={ K with ct:=ct }) ⟨rfl⟩ hm hb rfl rfl rfl rfl D ⟨o.A,o.B,o.P,o.st,o.pid,o.par,UF,o.fds,o.fd,λe=>by simp only[D];exact o.len e,λe=>absurd e (by simp[hn])⟩ ⟨hO.Eh.ho,hO.Eh.le,hO.Eh.op,hO.Eh.nd,hO.Eh.nz,hO.Eh.nm,hO.Eh.dj⟩ λi _=>rfl
      refine bodyPost_ret (v:=.agg #[a_ x,a_ y,H]) (by simp[results,results146,go_sem,Jj p]) rfl ?_;exact Ci (K':=KS.AP { K with ct:=ct } b { r with Ae:=Ae }) (x:=x) (y:=y) h.lt N Q ((BV.no KW C.lt).trans F) (h7) l M hy E (TP) (Y) Ah (λ_=>hm) (.inr ⟨.inr X,.inr ⟨i,s,t,.inl ⟨e,f,TM,q,_,_,jy,rfl⟩⟩⟩)
     .simp only[ptr];have I:=dX e;have G:=λm=>dh m W K b e _ _ r _ R hb hn hI q xu
      gi_wp2_with (first|(gi_at_call 266;refine(G _).mono ?_;rintro e7 V Z;obtain⟨Ae,ct,x,y,H,rfl,M,hy,E,D,UF,h7,F,jy⟩:=Z;obtain⟨U,k,l,p⟩:=AU (x:=x) (y:=y) (f:=H) (F.old (KW.old S id) MR) E.one)|refine Io k ?_);obtain⟨TP,Y⟩:=hO.fds (r':={ r with Ae:=Ae }) (K1:={ K with ct:=ct }) ⟨rfl⟩ hm hb rfl rfl rfl rfl D ⟨o.A,o.B,o.P,o.st,o.pid,o.par,UF,o.fds,o.fd,λe=>by simp only[D];exact o.len e,λe=>absurd e (by simp[hn])⟩ ⟨hO.Eh.ho,hO.Eh.le,hO.Eh.op,hO.Eh.nd,hO.Eh.nz,hO.Eh.nm,hO.Eh.dj⟩ λi _=>rfl
      refine bodyPost_ret (v:=.agg #[a_ x,a_ y,H]) (by simp[results,results146,go_sem,Jj p]) rfl ?_;exact Ci (K':=KS.AP { K with ct:=ct } b { r with Ae:=Ae }) (x:=x) (y:=y) h.lt N Q ((BV.no KW C.lt).trans F) (h7) l M hy E (TP) (Y) Ah (λ_=>hm) (.inr ⟨.inr X,.inr ⟨i,s,t,.inr (.inl ⟨e,TM,q,_,_,jy,rfl⟩)⟩⟩)
     .simp only[ptr];obtain⟨hpp,_⟩:=R.fl.TU e q;have I:=dW hpp;have G:=λm=>fC m W (.slice (some (T_ gi at_)) n n)
      gi_wp2_with (first|(gi_at_call 274;refine(G _).mono ?_;rintro e7 V ⟨rfl,z⟩;obtain⟨U,k,l,p⟩:=AU (x:=0) (y:=2) (f:=.nilFunc) (z.old (KW.old S id) id) rfl)|refine Io k ?_);refine TR 0 2 (by simp[results,results146,go_sem,Jj p]) rfl ?_;exact Ci (K':=K) (x:=0) (y:=2) h.lt N Q ((BV.no KW C.lt).then z) (R.no z) l (by omega) (by omega) (.inl rfl) hO (Rel.refl b K) hb (λ_=>hm) (.inr ⟨.inr X,.inr ⟨i,s,t,.inr (.inr ⟨e,TM,q,O6.of⟩)⟩⟩)
  .have cw:=λm=>YF b gi ci r.Ae.length n at_ m (w.alloc V_) q8 (by omega) hnn hat X
   gi_enter func146,ntmps146;gi_wp2_with (gi_at_call 138;refine(cw _).mono ?_;rintro e w1 ⟨rfl,L⟩;have L:=L.symm;subst L;generalize hw0:w.alloc V_=O at *);gi_wp2_with (first|(gi_at_call 140;refine(wr8 1 S _).mono ?_;rintro e V ⟨rfl,z,U,k,l,p⟩)|refine Io k ?_);refine TR 0 1 (by simp[results,results146,go_sem,Jj p]) rfl ?_;exact DX h hO hm hb N Q z l (by decide) (by decide) (.inl ⟨by omega,O6.of⟩)
end
def Zt (K:KS) (r:PR) (fd at_ n:Nat):KS->Nat->Nat->n_->Prop:=λK' x y f=>(¬(n=0\/at_+n<=r.Ae.length)/\O6 K 1 K' x y f)\/((n=0\/at_+n<=r.Ae.length)/\XFd K r fd (λ_ _ K' x y f=>∃T' ct,NW ct x y f/\K'={ K with T:=T',ct:=ct }) (λ_=>O6 K 2) (λe K' x y f=>∃T' ct,XWr K (K.ct e).n r at_ n ct x y f/\K'={ K with T:=T',ct:=ct }) K' x y f)
section
variable (m:Nat) (w:o_)
theorem zV (K:KS) (NC NS b fd at_ n:Nat) (r:PR) (h:A8 K w) (hO:GK NC NS K) (hm:b∈K.AV) (hb:K.ps b=some r) (hn:r.en=false) (hfd:fd<65536) (hat:at_<65536) (hnn:n<65536):
  P_ m 147 #[R_ K.kb,R_ b,a_ (fd:Nat),a_ (at_:Nat),a_ (n:Nat)] w (Kr (Zt K r fd at_ n) NC NS b K w):=by
 have o:=hO.pr b r hb;have hL:=(hO.co.pl b r hb).1;have hI:=o.Ae;have hnl:K.nl.length<=1000:=by have:=hO.Eh.nl;omega
 obtain⟨O,U,R⟩:=Oa w;have B:=h.no O;have MR:K.T w.heap.size=(0,0):=h.lt _ (w_ _);have ch:=λm w1 (a:Keep No (w.alloc V_) w1)=>kG m w1 K b fd r (B.no a) hb hn hfd
 obtain⟨gi,ci,q8,hRi,tgi,him⟩:=B.qw hb hn;have jw:=hRi.le;by_cases hz:n=0
 .subst hz;have xu:Jq r (.slice none 0 0) at_ 0:=.inl ⟨rfl,rfl⟩;have cw:=λm=>OJ b at_ m (w.alloc V_)
  gi_enter func147,ntmps147;gi_wp2_with (gi_at_call 138;refine(cw _).mono ?_;rintro e w1 ⟨rfl,M⟩;have M:=M.symm;subst M;generalize hw0:w.alloc V_=Q at *);gi_wp2_with (gi_at_call 202;refine(ch _ _ (p_ No Q)).mono ?_;rintro e w1 ⟨K1,xh,rfl,N,hxe⟩;cases xh)
  .have KK:=((p_ No Q)).then K1;gi_wp2_with (first|(gi_at_call 140;refine(wr8 2 (KK.old U id) _).mono ?_;rintro e X ⟨rfl,A,V,k,l,p⟩)|refine Io k ?_);refine TR 0 2 (by simp[results,results147,go_sem,Jj p]) rfl ?_;exact DX h hO hm hb O R (KK.then A) l (by decide) (by decide) (.inr ⟨.inl rfl,.inl ⟨hxe.out.symm,O6.of⟩⟩)
  .have KK:=((p_ No Q)).then K1;obtain⟨nd,t,Cf⟩:=N (by first|rfl|trivial);obtain⟨i,rfl,z⟩:=(o.fd nd (t_ t)).resolve_left Cf;obtain⟨hd,_⟩:=hO.close hm hb hn z t;have h1:=B.no KK;obtain⟨g,c,q9,ϴ,tg,aa5⟩:=h1.qx hb hn;have hfl:=(O5.1 t).1;have f1:(fd:Int)<(r.fds.length:Int):=(by omega);have d:=ϴ.O7 rfl t;obtain⟨vv,L,_,_,hv4⟩:=h1.xy z;have TM:Hid (K.tv i=vv):=x_ ((h1.xY z).symm.trans L);have AO:=hv4 hd;have cg:=λm W (a:Keep No w1 W)=>VI m W K i vv z (a.has L)
   refine CP (P:=prog) No _ rfl rfl (by kernel_rfl) 12 44 [0,1,2,3,4,5,6,7,8,9,11] [10] (by kernel_rfl) (by rfl) (λ_ v _=>v=vv) (λ_ _ _ _ _ h _=>h) _ _ rfl rfl ?_;gi_wp2;refine⟨rfl,by kernel_rfl,?_,?_,?_⟩
   .intro W a;have d9:=a.has (w:=w1.drew) q9;have dd:=a.has (w:=w1.drew) d
    repeat' (refine Az ?_ ?_)
    all_goals first|exact trivial|gi_wp2
   .intro j hj u W a _;obtain rfl:j=10:=(by simpa using hj);refine BJ rfl λKK2 ar0=>?_
    show wpListIn NF m prog _ _ _ (Act.put _ (some 41) (u 10)) _;gi_wp2_with (gi_at_call 203;refine(cg _ W ((p_ No w1).drew.then a)).mono ?_;rintro e w2 ⟨K2,rfl⟩);exact⟨_,rfl,K2,rfl⟩
   .intro u W a hu;have hu:=hu 10 (by simp);show wpListIn NF m prog _ _ _ (Act.put _ (some 41) (u 10)) _;rw[hu];have KW:Keep No Q W:=KK.then ((p_ No w1).drew.then a);have S:=B.no KW;obtain⟨e,⟨rfl,f,q,_⟩|⟨rfl,q,_⟩|⟨rfl,q,_⟩⟩:=AO
    .simp only[ptr];have J:=dO e;have G:=λm=>YR m W K b e f _ _ r _ S hb hn hI hL q xu hnl ⟨hO.Eh.nd,hO.Eh.nm,hO.Eh.dj⟩
     gi_wp2_with (first|(gi_at_call 279;refine(G _).mono ?_;rintro e7 X Z;obtain⟨s,ct,x,y,I,rfl,N,hy,C,h7,E,jy⟩:=Z;obtain⟨V,k,l,p⟩:=AU (x:=x) (y:=y) (f:=I) (E.old (KW.old U id) MR) C.one)|refine Io k ?_);obtain⟨F,D⟩:=hO.fds (K1:={ K with T:=s,ct:=ct }) (r':=r) (H:=BP K.ps K.AV) ⟨rfl⟩ hm hb rfl rfl rfl rfl rfl o ⟨hO.Eh.ho,hO.Eh.le,hO.Eh.op,hO.Eh.nd,hO.Eh.nz,hO.Eh.nm,hO.Eh.dj⟩ λi _=>rfl
     rw[GX (K:={ K with T:=s,ct:=ct }) hb]at F D;refine bodyPost_ret (v:=.agg #[a_ x,a_ y,I]) (by simp[results,results147,go_sem,Jj p]) rfl ?_;exact Ci (K':={ K with T:=s,ct:=ct }) (x:=x) (y:=y) h.lt O R ((BV.no KW B.lt).trans E) (h7) l N hy C (F) (D) hb (λ_=>hm) (.inr ⟨.inl rfl,.inr ⟨i,t,z,.inl ⟨e,f,TM,q,_,_,jy,rfl⟩⟩⟩)
    .simp only[ptr];obtain⟨hpp,_⟩:=S.fl.rend e q;have J:=dU hpp;have G:=λm=>Y5 m W (.slice none 0 0)
     gi_wp2_with (first|(gi_at_call 268;refine(G _).mono ?_;rintro e7 X ⟨rfl,A⟩;obtain⟨V,k,l,p⟩:=AU (x:=0) (y:=2) (f:=.nilFunc) (A.old (KW.old U id) id) rfl)|refine Io k ?_);refine TR 0 2 (by simp[results,results147,go_sem,Jj p]) rfl ?_;exact Ci (K':=K) (x:=0) (y:=2) h.lt O R ((BV.no KW B.lt).then A) (S.no A) l (by omega) (by omega) (.inl rfl) hO (Rel.refl b K) hb (λ_=>hm) (.inr ⟨.inl rfl,.inr ⟨i,t,z,.inr (.inl ⟨e,TM,q,O6.of⟩)⟩⟩)
    .simp only[ptr];have J:=dQ e;have G:=λm=>YG m W K b e _ _ r _ S hb hn hI hL q xu
     gi_wp2_with (first|(gi_at_call 275;refine(G _).mono ?_;rintro e7 X Z;obtain⟨s,ct,x,y,I,rfl,N,hy,C,h7,E,jy⟩:=Z;obtain⟨V,k,l,p⟩:=AU (x:=x) (y:=y) (f:=I) (E.old (KW.old U id) MR) C.one)|refine Io k ?_);obtain⟨F,D⟩:=hO.fds (K1:={ K with T:=s,ct:=ct }) (r':=r) (H:=BP K.ps K.AV) ⟨rfl⟩ hm hb rfl rfl rfl rfl rfl o ⟨hO.Eh.ho,hO.Eh.le,hO.Eh.op,hO.Eh.nd,hO.Eh.nz,hO.Eh.nm,hO.Eh.dj⟩ λi _=>rfl
     rw[GX (K:={ K with T:=s,ct:=ct }) hb]at F D;refine bodyPost_ret (v:=.agg #[a_ x,a_ y,I]) (by simp[results,results147,go_sem,Jj p]) rfl ?_;exact Ci (K':={ K with T:=s,ct:=ct }) (x:=x) (y:=y) h.lt O R ((BV.no KW B.lt).trans E) (h7) l N hy C (F) (D) hb (λ_=>hm) (.inr ⟨.inl rfl,.inr ⟨i,t,z,.inr (.inr ⟨e,TM,q,_,_,jy,rfl⟩)⟩⟩)
 .by_cases Y:at_+n<=r.Ae.length
  .have xu:Jq r (.slice (some (T_ gi at_)) n n) at_ n:=.inr ⟨gi,ci,him,rfl,by omega,Y⟩;have cw:=λm=>GV b gi ci r.Ae.length n at_ m (w.alloc V_) q8 (by omega) hat hL jw Y
   gi_enter func147,ntmps147;gi_wp2_with (gi_at_call 138;refine(cw _).mono ?_;rintro e w1 ⟨rfl,M⟩;have M:=M.symm;subst M;generalize hw0:w.alloc V_=Q at *);gi_wp2_with (gi_at_call 202;refine(ch _ _ (p_ No Q)).mono ?_;rintro e w1 ⟨K1,xh,rfl,N,hxe⟩;cases xh)
   .have KK:=((p_ No Q)).then K1;gi_wp2_with (first|(gi_at_call 140;refine(wr8 2 (KK.old U id) _).mono ?_;rintro e X ⟨rfl,A,V,k,l,p⟩)|refine Io k ?_);refine TR 0 2 (by simp[results,results147,go_sem,Jj p]) rfl ?_;exact DX h hO hm hb O R (KK.then A) l (by decide) (by decide) (.inr ⟨.inr Y,.inl ⟨hxe.out.symm,O6.of⟩⟩)
   .have KK:=((p_ No Q)).then K1;obtain⟨nd,t,Cf⟩:=N (by first|rfl|trivial);obtain⟨i,rfl,z⟩:=(o.fd nd (t_ t)).resolve_left Cf;obtain⟨hd,_⟩:=hO.close hm hb hn z t;have h1:=B.no KK;obtain⟨g,c,q9,ϴ,tg,aa5⟩:=h1.qx hb hn;have hfl:=(O5.1 t).1;have f1:(fd:Int)<(r.fds.length:Int):=(by omega);have d:=ϴ.O7 rfl t;obtain⟨vv,L,_,_,hv4⟩:=h1.xy z;have TM:Hid (K.tv i=vv):=x_ ((h1.xY z).symm.trans L);have AO:=hv4 hd;have cg:=λm W (a:Keep No w1 W)=>VI m W K i vv z (a.has L)
    refine CP (P:=prog) No _ rfl rfl (by kernel_rfl) 12 44 [0,1,2,3,4,5,6,7,8,9,11] [10] (by kernel_rfl) (by rfl) (λ_ v _=>v=vv) (λ_ _ _ _ _ h _=>h) _ _ rfl rfl ?_;gi_wp2;refine⟨rfl,by kernel_rfl,?_,?_,?_⟩
    .intro W a;have d9:=a.has (w:=w1.drew) q9;have dd:=a.has (w:=w1.drew) d
     repeat' (refine Az ?_ ?_)
     all_goals first|exact trivial|gi_wp2
    .intro j hj u W a _;obtain rfl:j=10:=(by simpa using hj);refine BJ rfl λKK2 ar0=>?_
     show wpListIn NF m prog _ _ _ (Act.put _ (some 41) (u 10)) _;gi_wp2_with (gi_at_call 203;refine(cg _ W ((p_ No w1).drew.then a)).mono ?_;rintro e w2 ⟨K2,rfl⟩);exact⟨_,rfl,K2,rfl⟩
    .intro u W a hu;have hu:=hu 10 (by simp);show wpListIn NF m prog _ _ _ (Act.put _ (some 41) (u 10)) _;rw[hu];have KW:Keep No Q W:=KK.then ((p_ No w1).drew.then a);have S:=B.no KW;obtain⟨e,⟨rfl,f,q,_⟩|⟨rfl,q,_⟩|⟨rfl,q,_⟩⟩:=AO
     .simp only[ptr];have J:=dO e;have G:=λm=>YR m W K b e f _ _ r _ S hb hn hI hL q xu hnl ⟨hO.Eh.nd,hO.Eh.nm,hO.Eh.dj⟩
      gi_wp2_with (first|(gi_at_call 279;refine(G _).mono ?_;rintro e7 X Z;obtain⟨s,ct,x,y,I,rfl,N,hy,C,h7,E,jy⟩:=Z;obtain⟨V,k,l,p⟩:=AU (x:=x) (y:=y) (f:=I) (E.old (KW.old U id) MR) C.one)|refine Io k ?_);obtain⟨F,D⟩:=hO.fds (K1:={ K with T:=s,ct:=ct }) (r':=r) (H:=BP K.ps K.AV) ⟨rfl⟩ hm hb rfl rfl rfl rfl rfl o ⟨hO.Eh.ho,hO.Eh.le,hO.Eh.op,hO.Eh.nd,hO.Eh.nz,hO.Eh.nm,hO.Eh.dj⟩ λi _=>rfl
      rw[GX (K:={ K with T:=s,ct:=ct }) hb]at F D;refine bodyPost_ret (v:=.agg #[a_ x,a_ y,I]) (by simp[results,results147,go_sem,Jj p]) rfl ?_;exact Ci (K':={ K with T:=s,ct:=ct }) (x:=x) (y:=y) h.lt O R ((BV.no KW B.lt).trans E) (h7) l N hy C (F) (D) hb (λ_=>hm) (.inr ⟨.inr Y,.inr ⟨i,t,z,.inl ⟨e,f,TM,q,_,_,jy,rfl⟩⟩⟩)
     .simp only[ptr];obtain⟨hpp,_⟩:=S.fl.rend e q;have J:=dU hpp;have G:=λm=>Y5 m W (.slice (some (T_ gi at_)) n n)
      gi_wp2_with (first|(gi_at_call 268;refine(G _).mono ?_;rintro e7 X ⟨rfl,A⟩;obtain⟨V,k,l,p⟩:=AU (x:=0) (y:=2) (f:=.nilFunc) (A.old (KW.old U id) id) rfl)|refine Io k ?_);refine TR 0 2 (by simp[results,results147,go_sem,Jj p]) rfl ?_;exact Ci (K':=K) (x:=0) (y:=2) h.lt O R ((BV.no KW B.lt).then A) (S.no A) l (by omega) (by omega) (.inl rfl) hO (Rel.refl b K) hb (λ_=>hm) (.inr ⟨.inr Y,.inr ⟨i,t,z,.inr (.inl ⟨e,TM,q,O6.of⟩)⟩⟩)
     .simp only[ptr];have J:=dQ e;have G:=λm=>YG m W K b e _ _ r _ S hb hn hI hL q xu
      gi_wp2_with (first|(gi_at_call 275;refine(G _).mono ?_;rintro e7 X Z;obtain⟨s,ct,x,y,I,rfl,N,hy,C,h7,E,jy⟩:=Z;obtain⟨V,k,l,p⟩:=AU (x:=x) (y:=y) (f:=I) (E.old (KW.old U id) MR) C.one)|refine Io k ?_);obtain⟨F,D⟩:=hO.fds (K1:={ K with T:=s,ct:=ct }) (r':=r) (H:=BP K.ps K.AV) ⟨rfl⟩ hm hb rfl rfl rfl rfl rfl o ⟨hO.Eh.ho,hO.Eh.le,hO.Eh.op,hO.Eh.nd,hO.Eh.nz,hO.Eh.nm,hO.Eh.dj⟩ λi _=>rfl
      rw[GX (K:={ K with T:=s,ct:=ct }) hb]at F D;refine bodyPost_ret (v:=.agg #[a_ x,a_ y,I]) (by simp[results,results147,go_sem,Jj p]) rfl ?_;exact Ci (K':={ K with T:=s,ct:=ct }) (x:=x) (y:=y) h.lt O R ((BV.no KW B.lt).trans E) (h7) l N hy C (F) (D) hb (λ_=>hm) (.inr ⟨.inr Y,.inr ⟨i,t,z,.inr (.inr ⟨e,TM,q,_,_,jy,rfl⟩)⟩⟩)
  .have cw:=λm=>YF b gi ci r.Ae.length n at_ m (w.alloc V_) q8 (by omega) hnn hat Y
   gi_enter func147,ntmps147;gi_wp2_with (gi_at_call 138;refine(cw _).mono ?_;rintro e w1 ⟨rfl,M⟩;have M:=M.symm;subst M;generalize hw0:w.alloc V_=Q at *);gi_wp2_with (first|(gi_at_call 140;refine(wr8 1 U _).mono ?_;rintro e X ⟨rfl,A,V,k,l,p⟩)|refine Io k ?_);refine TR 0 1 (by simp[results,results147,go_sem,Jj p]) rfl ?_;exact DX h hO hm hb O R A l (by decide) (by decide) (.inl ⟨by omega,O6.of⟩)
end
section
variable {S:Nat->Prop} {w1:o_} {e1 e2:Nat} {P1:n_->o_->Prop} {P2:n_->n_->o_->Prop} {ss:List Nat}
end
section
variable (m:Nat) (w:o_)
end
section
variable (m:Nat) (w:o_)
end
def Yx (op:Nat->Nat):d_ Nat->Nat->Nat
 |none=>op
 |some f=>Aj op f (op f+1)
theorem fM (op:Nat->Nat) (o:d_ Nat) (g:Nat):Yx op o g=op g+(if o=some g then 1 else 0):=by
 cases o with
 |none=>simp[Yx]
 |some f=>
  simp only[Yx,Aj]
  by_cases e:g=f
  .subst e;simp
  .rw[if_neg e,if_neg (by simpa using Ne.symm e)];rfl
theorem vw {d:Nat->Nat} {e:Nat->d_ Nat} {i0:Nat} {o:d_ Nat} (hi:i0<20) (hd:d i0=0) (g:Nat):EM (Aj d i0 1) (Aj e i0 o) g=EM d e g+(if o=some g then 1 else 0):=by
 have:=Jb (f:=λj=>if 0<Aj d i0 1 j/\Aj e i0 o j=some g then 1 else 0) (g:=λj=>if 0<d j/\e j=some g then 1 else 0) List.nodup_range (List.mem_range.2 hi) (λk a=>by simp only[Aj,if_neg a]);have e1:(if 0<Aj d i0 1 i0/\Aj e i0 o i0=some g then 1 else 0)=(if o=some g then 1 else 0):=by simp[Aj]
 have e2:(if 0<d i0/\e i0=some g then 1 else 0)=0:=by simp[hd]
 rw[e1,e2]at this;unfold EM;omega
theorem EH.add {H:Nat->Nat} {K:KS} {i0:Nat} {o:d_ Nat} {nm:Nat->d_ Nat} {T:Tag} {ct:Nat->Ct} {tv:Nat->n_} (h:EH H K) (hi:i0<20) (hd:K.desc i0=0) (hnm:∀i j f,i<16->j<16->nm i=some f->nm j=some f->i=j) (hdj:∀i f,i<16->nm i=some f->f ∉ K.nl):EH (Aj H i0 1) { K with desc:=Aj K.desc i0 1,ef:=Aj K.ef i0 o,op:=Yx K.op o,nm:=nm,T:=T,ct:=ct,tv:=tv }:=by
 refine⟨λi a=>?_,λi a=>?_,λg=>?_,h.nd,λg b=>?_,hnm,hdj⟩
 .show Aj K.desc i0 1 i=Aj H i0 1 i;unfold Aj;split
  .rfl
  .exact h.ho i a
 .unfold Aj;split
  .omega
  .exact h.le i a
 .show Yx K.op o g=EM (Aj K.desc i0 1) (Aj K.ef i0 o) g;rw[vw hi hd,fM,h.op g]
 .have:=h.nz g b;show 1<=Yx K.op o g;rw[fM];omega
theorem A8.ap9 {QL:Nat->Ct} {K:KS} {w w':o_} {b:Nat} {t:Nat×Nat} (h:A8 K w) (hK:Keep No w w') (hb:w.heap.size<=b) (hb':b<w'.heap.size) (ht:10<=t.1) (hp:FOne (DZ K.T b t) K.op QL w' K.kb b) (Es:∀k,k≠b->QL k=K.ct k):A8 { K with T:=DZ K.T b t,ct:=QL } w'/\BV K.T (DZ K.T b t) w w':=by
 obtain⟨H,j,u⟩:=h.k;have M:DY K.T (DZ K.T b t) (λt=>t=(1,0)\/t=(5,0)\/10<=t.1) (λt=>t=(5,0)\/10<=t.1) w w':=DY.row hK.no h.lt (.inr hb) hb' (.inr ht);have C:DY K.T (DZ K.T b t) (λt=>10<=t.1) (λt=>10<=t.1) w w':=DY.row hK.no h.lt (.inr hb) hb' ht;refine⟨h.aX (ks':=H) M (hK.old j id) (KC.ap4 (u.Jl C (by simp)) QL) (Yq.of λk=>?_) ?_,M.TL ?_⟩
 .by_cases e:k=b
  .subst e;exact hp
  .refine FOne.ct ?_ (Es k e);have o:=(h.fl.one k).keep hK id (λ_ _=>id);have m:∀x,x≠b->DZ K.T b t x=K.T x:=λx G=>Bj G
   have B:∀{z v l},RJ K.T w' k z v l->RJ (DZ K.T b t) w' k z v l:=λr=>by
    obtain r | ⟨g,c,a1,a2,p,D,q⟩:=r
    .exact .inl r
    .exact .inr ⟨g,c,a1,a2,p,D,by rw[m g (λe=>by rw[e,h.lt b hb]at q;simp at q)];exact q⟩
   refine⟨λa=>?_,λa=>?_,λf a=>?_,λa=>?_,λa=>?_⟩<;>rw[m k e]at a
   .obtain⟨v,a1,a2⟩:=o.file a;exact⟨v,a1,B a2⟩
   .obtain⟨v,a1,a2⟩:=o.pipe a;exact⟨v,a1,B a2⟩
   .obtain⟨a1,a2,p⟩:=o.Iu f a;exact⟨a1,by rw[m f (λe=>by rw[e,h.lt b hb]at a2;simp at a2)];exact a2,p⟩
   .obtain⟨a1,a2⟩:=o.rend a;exact⟨a1,by rw[m _ (λe=>by rw[e,h.lt b hb]at a2;simp at a2)];exact a2⟩
   .obtain⟨a1,a2⟩:=o.TU a;exact⟨a1,by rw[m _ (λe=>by rw[e,h.lt b hb]at a2;simp at a2)];exact a2⟩
 .obtain⟨d,I,J⟩:=h.dk;have L:=h.lt b hb;obtain⟨n,F⟩:∃n,t=(10,0)->LenAt w' b n:=by
   by_cases e:t=(10,0)
   .obtain⟨v,a1,a2⟩:=hp.file (by rw[CX,e]);obtain⟨rfl,_⟩|⟨g,c,rfl,_⟩:=a2
    .exact⟨0,λ_=>⟨_,_,_,a1⟩⟩
    .exact⟨_,λ_=>⟨_,_,_,a1⟩⟩
   .exact⟨0,λh=>absurd h e⟩
  have y:∀k,K.T k=(10,0)->Aj d b n k=d k:=λk j=>if_neg (by rintro rfl;rw[L]at j;simp at j)
  refine⟨Aj d b n,λk e=>?_,?_⟩
  .by_cases A:k=b
   .subst A;rw[CX]at e;have:Aj d k n k=n:=if_pos rfl;rw[this];exact F e
   .rw[Bj A]at e;rw[y k e];exact(I k e).keep hK id
  .have e1:BF (UE (Aj d b n) K.nm) (List.range 16)=BF (UE d K.nm) (List.range 16):=BQ λi E=>by
    unfold UE
    cases Hl:K.nm i with
    |none=>rfl
    |some f=>simp only;rw[y f ((u.nm i (List.mem_range.1 E)).2 f Hl)]
   obtain⟨_,_,_,s⟩:=u.nl;have e2:BF (λk=>Am (Aj d b n k)) K.nl=BF (λk=>Am (d k)) K.nl:=BQ λk j=>by rw[y k (s k j)]
   show BF _ _+BF _ _<=40;rw[e1,e2];exact J
 .rintro t (rfl|rfl|h)<;>try simp
  rintro rfl;simp at h
section
variable (m:Nat) (w:o_)
end
section
variable (m:Nat) (w:o_)
end
theorem RF (w:o_) (o:Obj):(w.alloc o).heap.size=w.heap.size+1:=by simp
theorem Wj {f:Nat->d_ PR} {b:Nat} {r r':PR}:BX (BX f b r) b r'=BX f b r':=by funext k;unfold BX;split<;>rfl
theorem PS {K:KS} {b:Nat} {r r':PR}:(K.AP b r).AP b r'=K.AP b r':=by
 unfold KS.AP;have e:BX (BX K.ps b r) b r'=BX K.ps b r':=by funext k;unfold BX;split<;>rfl
 simp only[e]
theorem ai (l:List Int):EI l=l.count (-1):=by
 unfold EI aY;rw[List.count,List.countP_eq_length_filter]
theorem uQ {d:Nat->Nat} {i1:Nat} (h:2<=Ia d 20):∃i,i<20/\Aj d i1 1 i=0:=by
 refine Classical.byContradiction λc=>?_
 have f:∀x∈(List.range 20).filter (λi=>d i==0),x∈[i1]:=λx g=>by
  obtain⟨a,b⟩:=List.mem_filter.1 g
  refine List.mem_singleton.2 (Classical.byContradiction λe=>c ⟨x,List.mem_range.1 a,?_⟩)
  simp only[Aj,if_neg e];simpa using b
 have:=Uu (List.Pairwise.filter _ List.nodup_range) f;unfold Ia at h;simp at this;omega
theorem A8.ZG {K:KS} {w:o_} {b g c i x:Nat} {r:PR} (h:A8 K w) (hb:K.ps b=some r) (hn:r.en=false) (h1:r.im=Q_ g r.Ae.length c):A8 (K.AP b { r with Ae:=r.Ae.set i x }) (w.setCell (T_ g i) (a_ (x:Nat)))/\BV K.T K.T w (w.setCell (T_ g i) (a_ (x:Nat))):=by
 obtain⟨e,d,_,f,j,a⟩:=h.qw hb hn;obtain⟨rfl,rfl⟩:g=e/\c=d:=by rw[a]at h1;simp at h1;exact⟨h1.1.symm,h1.2.symm⟩
 have:=f.set (i:=i) (a_ (x:Nat)) rfl;exact h.zo hb hn a j ((p_ _ _).setCell _ λ_=>rfl) (by simpa [AB,List.map_set]using this) (by simp)
def Ff (ct:Nat->Ct) (p e1 e2:Nat):Nat->Ct:=Aj (Aj (Aj ct p ⟨[],true,true,0⟩) e1 ⟨[],false,false,p⟩) e2 ⟨[],false,false,p⟩
def Least (d:Nat->Nat) (i:Nat):Prop:=d i=0/\∀j,j<i->d j≠0
def qW (K:KS) (b:Nat) (r:PR) (at_:Nat):KS->Nat->Nat->n_->Prop:=λK' x y f=>(¬at_+2<=r.Ae.length/\O6 K 1 K' x y f)\/(at_+2<=r.Ae.length/\EI r.fds<2/\O6 K 7 K' x y f)\/(at_+2<=r.Ae.length/\2<=EI r.fds/\Ia K.desc 20<2/\O6 K 8 K' x y f)\/(at_+2<=r.Ae.length/\∃p e1 e2 T3 i1 i2 j1 j2,(K.T p=(0,0)/\K.T e1=(0,0)/\K.T e2=(0,0)/\e1=p+1/\e2=p+2/\T3 p=(11,0)/\T3 e1=(13,0)/\T3 e2=(14,0))/\i1<20/\Least K.desc i1/\i2<20/\Least (Aj K.desc i1 1) i2/\OH r.fds j1/\OH (r.fds.set j1 (i1:Int)) j2/\K'=KS.AP { K with T:=T3,desc:=Aj (Aj K.desc i1 1) i2 1,ef:=Aj (Aj K.ef i1 none) i2 none,tv:=Aj (Aj K.tv i1 (.iface 330 (ptr e1))) i2 (.iface 334 (ptr e2)),ct:=Ff K.ct p e1 e2 } b { r with fds:=(r.fds.set j1 (i1:Int)).set j2 (i2:Int),Ae:=(r.Ae.set at_ j1).set (at_+1) j2 }/\x=0/\y=0/\f=.nilFunc)
section
variable (m:Nat) (w:o_)
theorem ou (K:KS) (h:A8 K w):P_ m 199 #[] w λe w'=>∃e1 e2 p T3,e=.returned (.tuple #[.iface 330 (ptr e1),.iface 334 (ptr e2)])/\A8 { K with T:=T3,ct:=Ff K.ct p e1 e2 } w'/\T3 e1=(13,0)/\T3 e2=(14,0)/\BV K.T T3 w w'/\Hid (T3 p=(11,0)/\w.heap.size<=p/\e1=p+1/\e2=p+2):=by
 have a1:(w.alloc (.cells #[.slice none 0 0,.bool true,.bool true] 329)).heap[w.heap.size]?=some (O_ #[.slice none 0 0,.bool true,.bool true] 329):=heap_alloc_new rfl;obtain⟨j,f⟩:=h.ap9 (QL:=Aj K.ct w.heap.size ⟨[],true,true,0⟩) (t:=(11,0)) (w':=w.alloc (.cells #[.slice none 0 0,.bool true,.bool true] 329)) ((p_ _ _).alloc _) (w_ _) (DN a1) (by simp) (FOne.UK (v:=.slice none 0 0) CX (a1.trans (by simp[Aj])) (.inl ⟨rfl,by simp[Aj]⟩)) (λk a=>if_neg a);have c:(w.alloc (.cells #[.slice none 0 0,.bool true,.bool true] 329)).heap.size=w.heap.size+1:=RF _ _;have a2:((w.alloc (.cells #[.slice none 0 0,.bool true,.bool true] 329)).alloc (.cells #[R_ w.heap.size] 333)).heap[w.heap.size+1]?=some (O_ #[R_ w.heap.size] 333):=by
  have:=heap_alloc_new (w:=w.alloc (.cells #[.slice none 0 0,.bool true,.bool true] 329)) (o:=.cells #[R_ w.heap.size] 333) rfl
  rwa [c]at this
 obtain⟨l,g⟩:=A8.ap9 (QL:=Aj (Aj K.ct w.heap.size ⟨[],true,true,0⟩) (w.heap.size+1) ⟨[],false,false,w.heap.size⟩) (t:=(13,0)) (w':=(w.alloc (.cells #[.slice none 0 0,.bool true,.bool true] 329)).alloc (.cells #[R_ w.heap.size] 333)) j ((p_ _ _).alloc _) (Nat.le_of_eq c) (DN a2) (by simp) (FOne.rend' CX (a2.trans (by simp[Aj,ptr])) (by show DZ (DZ K.T w.heap.size (11,0)) (w.heap.size+1) (13,0) (Aj (Aj K.ct w.heap.size ⟨[],true,true,0⟩) (w.heap.size+1) ⟨[],false,false,w.heap.size⟩ (w.heap.size+1)).n=(11,0);rw[show Aj (Aj K.ct w.heap.size ⟨[],true,true,0⟩) (w.heap.size+1) ⟨[],false,false,w.heap.size⟩ (w.heap.size+1)=⟨[],false,false,w.heap.size⟩from if_pos rfl];show DZ (DZ K.T w.heap.size (11,0)) (w.heap.size+1) (13,0) w.heap.size=(11,0);exact(Bj (by omega)).trans CX)) (λk a=>if_neg a);have d:((w.alloc (.cells #[.slice none 0 0,.bool true,.bool true] 329)).alloc (.cells #[R_ w.heap.size] 333)).heap.size=w.heap.size+2:=by rw[RF,RF]
 have b:(((w.alloc (.cells #[.slice none 0 0,.bool true,.bool true] 329)).alloc (.cells #[R_ w.heap.size] 333)).alloc (.cells #[R_ w.heap.size] 335)).heap[w.heap.size+2]?=some (O_ #[R_ w.heap.size] 335):=by
  have:=heap_alloc_new (w:=(w.alloc (.cells #[.slice none 0 0,.bool true,.bool true] 329)).alloc (.cells #[R_ w.heap.size] 333)) (o:=.cells #[R_ w.heap.size] 335) rfl
  rwa [d]at this
 obtain⟨q,i⟩:=A8.ap9 (QL:=Ff K.ct w.heap.size (w.heap.size+1) (w.heap.size+2)) (t:=(14,0)) (w':=((w.alloc (.cells #[.slice none 0 0,.bool true,.bool true] 329)).alloc (.cells #[R_ w.heap.size] 333)).alloc (.cells #[R_ w.heap.size] 335)) l ((p_ _ _).alloc _) (Nat.le_of_eq d) (DN b) (by simp) (FOne.bc7 CX (b.trans (by simp[Ff,Aj,ptr])) (by show DZ (DZ (DZ K.T w.heap.size (11,0)) (w.heap.size+1) (13,0)) (w.heap.size+2) (14,0) (Ff K.ct w.heap.size (w.heap.size+1) (w.heap.size+2) (w.heap.size+2)).n=(11,0);rw[show Ff K.ct w.heap.size (w.heap.size+1) (w.heap.size+2) (w.heap.size+2)=⟨[],false,false,w.heap.size⟩from if_pos rfl];show DZ (DZ (DZ K.T w.heap.size (11,0)) (w.heap.size+1) (13,0)) (w.heap.size+2) (14,0) w.heap.size=(11,0);exact(Bj (by omega)).trans ((Bj (by omega)).trans CX))) (λk a=>if_neg a);gi_enter func199,ntmps199;gi_wp2;go_ret2;refine⟨w.heap.size+1,w.heap.size+2,by first|rfl|simp[ptr],w.heap.size,DZ (DZ (DZ K.T w.heap.size (11,0)) (w.heap.size+1) (13,0)) (w.heap.size+2) (14,0),q,(Bj (by omega)).trans CX,CX,(f.trans g).trans i,(Bj (by omega)).trans ((Bj (by omega)).trans CX),w_ _,rfl,rfl⟩
theorem vG (K:KS) (NC NS b at_:Nat) (r:PR) (h:A8 K w) (hO:GK NC NS K) (hm:b∈K.AV) (hb:K.ps b=some r) (hn:r.en=false) (hat:at_<65536):
  P_ m 145 #[R_ K.kb,R_ b,a_ (at_:Nat)] w (Kr (qW K b r at_) NC NS b K w):=by
 have o:=hO.pr b r hb;have hlen:r.fds.length<=6:=by rw[o.fds hn];omega
 have hL:=(hO.co.pl b r hb).1;obtain⟨K0,rb,Cj⟩:=Oa w;have h0:=h.no K0;have MR:K.T w.heap.size=(0,0):=h.lt _ (w_ _);obtain⟨R,ci,q8,hRi,tgi,F⟩:=h0.qw hb hn;have jw:=hRi.le;have ct:=λm w1 (hK:Keep No (w.alloc V_) w1)=>lU m w1 K b 2 r (h0.no hK) hb hn (by omega)
 have two:((2:Nat):Int)=2:=rfl;simp only[two]at ct;by_cases L:at_+2<=r.Ae.length
 .have cw:=λm=>GV b R ci r.Ae.length 2 at_ m (w.alloc V_) q8 (by omega) hat hL jw L
  gi_enter func145,ntmps145;gi_wp2_with (first|(gi_at_call 138;refine(cw _).mono ?_;rintro e w1 ⟨rfl,I⟩;have I:=I.symm;subst I)|(gi_at_call 198;refine(ct _ _ (p_ No _)).mono ?_;rintro e w2 ⟨⟨rfl,hs1,hs2⟩|⟨xx,rfl,hxx,ca6,hxe⟩,K2⟩<;>generalize hw0:w.alloc V_=w0 at *))
  .have h2:=h0.no K2;have cp:=λm=>ou m w2 K h2
   gi_wp2_with (gi_at_call 199;refine(cp _).mono ?_;rintro e w3 ⟨e1,e2,C,T3,rfl,h3,te1,te2,M3,p⟩;simp only[ptr]);have ca:=λm=>zM m w3 { K with T:=T3,ct:=Ff K.ct C e1 e2 } (.iface 330 (ptr e1)) none h3 ⟨e1,.inr (.inl ⟨rfl,te1,rfl⟩)⟩ (uS (by show 1<=Ia K.desc 20;omega))
   simp only[ptr]at ca;gi_wp2_with (gi_at_call 201;refine(ca _).mono ?_;rintro e w4 ⟨g,t,⟨E,hl1⟩,rfl,h4,M4⟩);have chd:=λm=>sK m w4 { K with T:=T3,desc:=Aj K.desc g 1,ef:=Aj K.ef g none,tv:=Aj K.tv g (.iface 330 (ptr e1)),ct:=Ff K.ct C e1 e2 } b (g:Int) r h4 hb hn (by omega) (by omega)
   gi_wp2_with (gi_at_call 200;refine(chd _).mono ?_;rintro e w5 ⟨l,W,rfl,h5,M5⟩;have G:=W.1;have cb7:=(O5.1 G).1;have cb9:l<6:=(by omega);obtain⟨g5,c5,_,S,tg5,bt0⟩:=h5.qw Ah hn;have D:R=g5/\ci=c5:=(by have:=F.symm.trans bt0;simpa using this);obtain⟨rfl,rfl⟩:=D;have z5:=S.fz at_;have q5:=S.cell (i:=at_) (by show at_<r.Ae.length*1;omega);obtain⟨x5,hx5⟩:∃v,(AB r.Ae)[at_]?=some v:=⟨_,Lh (by simp[AB];omega)⟩;have q5:=q5.trans hx5);have s6:=h5.ZG (i:=at_) (x:=l) Ah hn F;rw[PS]at s6;obtain⟨h6,M6⟩:=s6;have cb:=λm=>zM m _ _ (.iface 334 (ptr e2)) none h6 ⟨e2,.inr (.inr ⟨rfl,te2,rfl⟩)⟩ (uQ (d:=K.desc) hs2)
   simp only[ptr]at cb;gi_wp2_with (gi_at_call 201;refine(cb _).mono ?_;rintro e w7 ⟨j,u,⟨q,hl2⟩,rfl,h7,M7⟩);have Z:1<=EI (r.fds.set l (g:Int)):=by
    have:=VK (m:=(g:Int)) (a:=-1) G
    rw[ai]at hs1 ⊢
    rw[if_pos rfl,if_neg (by omega)]at this
    omega
   have che:=λm=>sK m w7 _ b (j:Int) _ h7 Ah hn (by show(r.fds.set l (g:Int)).length<=1000;simp;omega) Z
   gi_wp2_with (gi_at_call 200;refine(che _).mono ?_;rintro e w8' ⟨n,X,rfl,h8,M8⟩;have Y:=X.1;have cb6:=(O5.1 Y).1;have cb8:n<6:=(by have:(r.fds.set l (g:Int)).length<=6:=(by simp;omega);omega);obtain⟨g8,c8,_,U,tg8,O⟩:=h8.qw Ah hn;have D:R=g8/\ci=c8:=(by have:=F.symm.trans O;simpa using this);obtain⟨rfl,rfl⟩:=D;have z8:=U.fz (at_+1);have q8:=U.cell (i:=at_+1) (by show at_+1<(r.Ae.set at_ l).length*1;simp;omega);obtain⟨x8,hx8⟩:∃v,(AB (r.Ae.set at_ l))[at_+1]?=some v:=⟨_,Lh (by simp[AB];omega)⟩;have q8:=q8.trans hx8);have s9:=h8.ZG (i:=at_+1) (x:=n) Ah hn O;rw[PS]at s9;obtain⟨h9,M9⟩:=s9;have eK:KS.AP { ({ K with T:=T3,desc:=Aj K.desc g 1,ef:=Aj K.ef g none,tv:=Aj K.tv g (.iface 330 (ptr e1)),ct:=Ff K.ct C e1 e2 }:KS).AP b { r with fds:=r.fds.set l (g:Int),Ae:=r.Ae.set at_ l } with desc:=Aj (Aj K.desc g 1) j 1,ef:=Aj (Aj K.ef g none) j none,tv:=Aj (Aj K.tv g (.iface 330 (ptr e1))) j (.iface 334 (ptr e2)) } b { r with fds:=(r.fds.set l (g:Int)).set n (j:Int),Ae:=(r.Ae.set at_ l).set (at_+1) n }=KS.AP { K with T:=T3,desc:=Aj (Aj K.desc g 1) j 1,ef:=Aj (Aj K.ef g none) j none,tv:=Aj (Aj K.tv g (.iface 330 (ptr e1))) j (.iface 334 (ptr e2)),ct:=Ff K.ct C e1 e2 } b { r with fds:=(r.fds.set l (g:Int)).set n (j:Int),Ae:=(r.Ae.set at_ l).set (at_+1) n }:=(by unfold KS.AP;simp only[Wj]);have h9:A8 (KS.AP { K with T:=T3,desc:=Aj (Aj K.desc g 1) j 1,ef:=Aj (Aj K.ef g none) j none,tv:=Aj (Aj K.tv g (.iface 330 (ptr e1))) j (.iface 334 (ptr e2)),ct:=Ff K.ct C e1 e2 } b { r with fds:=(r.fds.set l (g:Int)).set n (j:Int),Ae:=(r.Ae.set at_ l).set (at_+1) n }) (w8'.setCell (T_ R (at_+1)) (a_ (n:Nat))):=(by rw[<-eK];exact h9);have hH1:BP K.ps K.AV g=0:=(by rw[<-hO.Eh.ho g t];exact E);have Cf:j≠g:=λe=>by rw[e]at q;simp[KS.AP,Aj]at q
   have bt5:K.desc j=0:=(by have:Aj K.desc g 1 j=0:=q;rwa [show Aj K.desc g 1 j=K.desc j from if_neg Cf]at this);have hH2:BP K.ps K.AV j=0:=(by rw[<-hO.Eh.ho j u];exact bt5);have bo7:=hO.Eh.add (o:=none) (nm:=K.nm) (T:=T3) (ct:=K.ct) (tv:=K.tv) t E hO.Eh.nm hO.Eh.dj;have J:=bo7.add (o:=none) (nm:=K.nm) (T:=T3) (ct:=K.ct) (tv:=K.tv) u (show Aj K.desc g 1 j=0 from q) hO.Eh.nm hO.Eh.dj;have s:((r.Ae.set at_ l).set (at_+1) n).length=r.Ae.length:=(by simp);obtain⟨TP,Jn⟩:=hO.fds (K1:={ K with T:=T3,desc:=Aj (Aj K.desc g 1) j 1,ef:=Aj (Aj K.ef g none) j none,tv:=Aj (Aj K.tv g (.iface 330 (ptr e1))) j (.iface 334 (ptr e2)),ct:=Ff K.ct C e1 e2 }) (r':={ r with fds:=(r.fds.set l (g:Int)).set n (j:Int),Ae:=(r.Ae.set at_ l).set (at_+1) n }) (H:=Aj (Aj (BP K.ps K.AV) g 1) j 1) ⟨rfl⟩ hm hb rfl rfl rfl rfl s ⟨o.A,o.B,o.P,o.st,o.pid,o.par,λx hx=>by
    obtain hx|rfl:=List.mem_or_eq_of_mem_set hx
    .obtain hx|rfl:=List.mem_or_eq_of_mem_set hx
     .exact o.Ae x hx
     .omega
    .omega,λe=>by simp[o.fds e],kH (kH o.fd (.inr ⟨g,rfl,t⟩)) (.inr ⟨j,rfl,u⟩),λe=>by simp only[s];exact o.len e,λe=>absurd e (by simp[hn])⟩ ⟨J.ho,J.le,J.op,J.nd,J.nz,J.nm,J.dj⟩ (λk _=>by
    have a1:=VK (m:=(g:Int)) (a:=(k:Int)) G;have a2:=VK (m:=(j:Int)) (a:=(k:Int)) Y;rw[if_neg (c:=(-1:Int)=(k:Int)) (by omega)]at a1 a2;simp only at a2 ⊢;simp only[Aj];by_cases e2:k=j
    .subst e2;rw[if_neg (by omega)]at a1;rw[if_pos rfl]at a2 ⊢;omega
    .rw[if_neg (by omega)]at a2;rw[if_neg e2];by_cases e1:k=g
     .subst e1;rw[if_pos rfl]at a1 ⊢;omega
     .rw[if_neg (by omega)]at a1;rw[if_neg e1];omega)
   have V:BV K.T T3 w0 _:=((((((BV.no K2 h0.lt).trans M3).trans M4).trans M5).trans M6).trans M7).trans (M8.trans M9);gi_wp2_with (first|(gi_at_call 152;refine(KT _ _ 0 (by omega)).mono ?_;rintro e wz ⟨rfl,z⟩;obtain⟨w8,M,N,Q⟩:=AU (x:=0) (y:=0) (f:=.nilFunc) (z.old (V.old rb MR) id) rfl)|refine Io M ?_);refine TR 0 0 (by simp[results,results145,go_sem,Jj Q]) rfl ?_;exact Ci (K':=KS.AP { K with T:=T3,desc:=Aj (Aj K.desc g 1) j 1,ef:=Aj (Aj K.ef g none) j none,tv:=Aj (Aj K.tv g (.iface 330 (ptr e1))) j (.iface 334 (ptr e2)),ct:=Ff K.ct C e1 e2 } b { r with fds:=(r.fds.set l (g:Int)).set n (j:Int),Ae:=(r.Ae.set at_ l).set (at_+1) n }) (x:=0) (y:=0) h.lt K0 Cj ((V).then z) ((h9).no z) N (by omega) (by omega) (.inl rfl) (TP) (Jn) Ah (λ_=>hm) (.inr (.inr (.inr ⟨L,C,e1,e2,T3,g,j,l,n,⟨h2.lt _ p.out.2.1,h2.lt _ (by have:=p.out;omega),h2.lt _ (by have:=p.out;omega),p.out.2.2.1,p.out.2.2.2,p.out.1,te1,te2⟩,t,⟨E,hl1⟩,u,⟨q,hl2⟩,W,X,rfl,rfl,rfl,rfl⟩)))
  .skip
   gi_wp2_with (first|(gi_at_call 140;refine(UW _ _ xx).mono ?_;rintro e wz ⟨rfl,z⟩;obtain⟨w8,M,N,Q⟩:=AU (x:=0) (y:=xx) (f:=.nilFunc) (z.old (K2.old rb id) id) rfl)|refine Io M ?_);refine TR 0 xx (by simp[results,results145,go_sem,Jj Q]) rfl ?_;exact DX h hO hm hb K0 Cj (K2.then z) N (by decide) (by omega) (.inr (by obtain⟨a1,rfl⟩|⟨a1,a2,rfl⟩:=hxe.out;exact .inl ⟨L,a1,O6.of⟩;exact .inr (.inl ⟨L,a1,a2,O6.of⟩)))
 .have cw:=λm=>MB b R ci r.Ae.length 2 at_ m (w.alloc V_) q8 (by omega) (by omega) hat L
  gi_enter func145,ntmps145;gi_wp2_with (gi_at_call 138;refine(cw _).mono ?_;rintro e w1 ⟨rfl,I⟩;have I:=I.symm;subst I;generalize hw0:w.alloc V_=w0 at *);gi_wp2_with (first|(gi_at_call 140;refine(wr8 1 rb _).mono ?_;rintro e wz ⟨rfl,z,w8,M,N,Q⟩)|refine Io M ?_);refine TR 0 1 (by simp[results,results145,go_sem,Jj Q]) rfl ?_;exact DX h hO hm hb K0 Cj z N (by decide) (by decide) (.inl ⟨L,O6.of⟩)
end
section
variable (m:Nat) (w:o_)
end
section
variable (m:Nat) (w:o_)
end
end Go.Fxa
