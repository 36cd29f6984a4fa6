/- Calls of descriptors. -/
import Derived.Test.YtmhplpfpcnjekaaGreatA30
namespace Go.Fxa
open Conc Proofs RowKit Proofs.Tryz
set_option maxRecDepth 1000000
set_option maxHeartbeats 0
section
variable (m:Nat) (w:World)
theorem pF (K:KS) (NC NS b fd at_ n:Nat) (r:PR) (h:AQ K w) (hO:DZ NC NS K) (hm:b∈K.AJ) (hb:K.ps b=some r) (hn:r.en=false) (Zn:fd<65536) (hat:at_<65536) (hnn:n<65536):
  CallsIn NF m prog 147 #[R_ K.kb,R_ b,.int .u16 (fd:Nat),.int .u16 (at_:Nat),.int .u16 (n:Nat)] w (ED NC NS b K w):=by
 have o:=hO.pr b r hb;have hL:=(hO.co.pl b r hb).1;have hI:=o.Ah;have hnl:K.nl.length<=1000:=by have:=hO.CY.nl;omega
 obtain⟨K0,rb,BA⟩:=FU w;have h0:=h.no K0;have E8:K.T w.heap.size=(0,0):=h.lt _ (Nat.le_refl _);have ch:=fun m w1 (hK:Ab No (w.alloc V_) w1)=>RU m w1 K b fd r (h0.no hK) hb hn Zn
 obtain⟨gi,ci,q8,Jw,Zc,him⟩:=h0.Uu hb hn;have TF:=Jw.le;by_cases hz:n=0
 ·subst hz;have lQ:Hm r (.slice none 0 0):=.inl rfl;have cw:=fun m=>Hq b at_ m (w.alloc V_)
  gi_enter func147,ntmps147;gi_wp2_with (gi_at_call 138;refine(cw _).mono ?_;rintro e w1 ⟨rfl,hw⟩;have hw:=hw.symm;subst hw;generalize hw0:w.alloc V_=w0 at *);gi_wp2_with (gi_at_call 202;refine(ch _ _ (Ab.refl No w0)).mono ?_;rintro e w1 ⟨K1,xh,rfl,hx⟩;cases xh)
  ·have KK:=((Ab.refl No w0)).then K1;gi_wp2_with (first|(gi_at_call 140;refine(AL _ _ 2).mono ?_;rintro e wz ⟨rfl,Kz⟩;obtain⟨w8,Ar,K8,b8⟩:=Af (x:=0) (y:=2) (f:=.nilFunc) (Kz.old (KK.old rb id) id) rfl)|refine Ae rfl _ _ _ rfl rfl rfl Ar ?_);refine TR 0 2 (by simp[results,results147,go_sem,Dz b8]) rfl ?_;exact Br h hO hm hb K0 BA (KK.then Kz) K8 (by decide) (by decide)
  ·have KK:=((Ab.refl No w0)).then K1;obtain⟨nd,hg,BN⟩:=hx (by first|rfl|trivial);obtain⟨i,rfl,hi⟩:=(o.fd nd (List.mem_of_getElem? hg)).resolve_left BN;obtain⟨hd,_⟩:=hO.close hm hb hn hi hg;have h1:=h0.no KK;obtain⟨g,c,q9,iX,tg,jo⟩:=h1.WH hb hn;have hfl:=(KH.1 hg).1;have f1:(fd:Int)<(r.fds.length:Int):=(by omega);have d:=iX.JH rfl hg;obtain⟨vv,hv1,_,_,hv4⟩:=h1.iZ hi;have AO:=hv4 hd;have cg:=fun m W (hK:Ab No w1 W)=>O8 m W K i vv hi (hK.has hv1)
   refine AA (P:=prog) No _ rfl rfl (by kernel_rfl) 12 44 [0,1,2,3,4,5,6,7,8,9,11] [10] (by kernel_rfl) (by rfl) (fun _ v _=>v=vv) (fun _ _ _ _ _ h _=>h) _ _ rfl rfl ?_;gi_wp2;refine⟨rfl,by kernel_rfl,?_,?_,?_⟩
   ·intro W hK;have d9:=hK.has (w:=w1.drew) q9;have dd:=hK.has (w:=w1.drew) d
    repeat' (refine Ao ?_ ?_)
    all_goals first|exact trivial|gi_wp2
   ·intro j hj u W hK _;obtain rfl:j=10:=(by simpa using hj);refine Bh rfl fun KK2 tL=>?_
    show wpListIn NF m prog _ _ _ (Act.put _ (some 41) (u 10)) _;gi_wp2_with (gi_at_call 203;refine(cg _ W ((Ab.refl No w1).drew.then hK)).mono ?_;rintro e w2 ⟨K2,rfl⟩);exact⟨_,rfl,K2,rfl⟩
   ·intro u W hK hu;have hu:=hu 10 (by simp);show wpListIn NF m prog _ _ _ (Act.put _ (some 41) (u 10)) _;rw[hu];have KW:Ab No w0 W:=KK.then ((Ab.refl No w1).drew.then hK);have hW:=h0.no KW;obtain⟨e,⟨rfl,f,te,_⟩|⟨rfl,te,_⟩|⟨rfl,te,_⟩⟩:=AO
    ·simp only[ptr];have hmt:=XM e;have cM:=fun m=>UX m W K b e f r _ hW hb hn hI hL te lQ hnl
     gi_wp2_with (first|(gi_at_call 279;refine(cM _).mono ?_;rintro e7 wz Ip;obtain⟨T',x,y,fv,rfl,hx,hy,IZ,h7,M7⟩:=Ip;obtain⟨w8,Ar,K8,b8⟩:=Af (x:=x) (y:=y) (f:=fv) (M7.old (KW.old rb id) E8) IZ.one)|refine Ae rfl _ _ _ rfl rfl rfl Ar ?_);obtain⟨J5,Fb⟩:=hO.fds (K1:={ K with T:=T' }) (r':=r) (H:=Bi K.ps K.AJ) ⟨rfl⟩ hm hb rfl rfl rfl rfl rfl o ⟨hO.CY.ho,hO.CY.le,hO.CY.op,hO.CY.nd,hO.CY.nz,hO.CY.nm,hO.CY.dj⟩ fun i _=>rfl
     rw[EJ (K:={ K with T:=T' }) hb]at J5 Fb;refine bodyPost_ret (v:=.agg #[.int .u16 x,.int .u16 y,fv]) (by simp[results,results147,go_sem,Dz b8]) rfl ?_;exact AV (K':={ K with T:=T' }) (x:=x) (y:=y) h.lt K0 BA ((Bw.no KW h0.lt).trans M7) (h7) K8 hx hy IZ (J5) (Fb) hb (fun _=>hm)
    ·simp only[ptr];obtain⟨pp,Zm,_⟩:=hW.fl.rend e te;have hmt:=XO Zm;have cM:=fun m=>Vd m W (.slice none 0 0)
     gi_wp2_with (first|(gi_at_call 268;refine(cM _).mono ?_;rintro e7 wz ⟨rfl,Kz⟩;obtain⟨w8,Ar,K8,b8⟩:=Af (x:=0) (y:=2) (f:=.nilFunc) (Kz.old (KW.old rb id) id) rfl)|refine Ae rfl _ _ _ rfl rfl rfl Ar ?_);refine TR 0 2 (by simp[results,results147,go_sem,Dz b8]) rfl ?_;exact AV (K':=K) (x:=0) (y:=2) h.lt K0 BA ((Bw.no KW h0.lt).then Kz) (hW.no Kz) K8 (by omega) (by omega) (.inl rfl) hO (Rel.refl b K) hb (fun _=>hm)
    ·simp only[ptr];have hmt:=XN e;have cM:=fun m=>UK m W K b e r _ hW hb hn hI hL te lQ
     gi_wp2_with (first|(gi_at_call 275;refine(cM _).mono ?_;rintro e7 wz Ip;obtain⟨T',x,y,fv,rfl,hx,hy,IZ,h7,M7⟩:=Ip;obtain⟨w8,Ar,K8,b8⟩:=Af (x:=x) (y:=y) (f:=fv) (M7.old (KW.old rb id) E8) IZ.one)|refine Ae rfl _ _ _ rfl rfl rfl Ar ?_);obtain⟨J5,Fb⟩:=hO.fds (K1:={ K with T:=T' }) (r':=r) (H:=Bi K.ps K.AJ) ⟨rfl⟩ hm hb rfl rfl rfl rfl rfl o ⟨hO.CY.ho,hO.CY.le,hO.CY.op,hO.CY.nd,hO.CY.nz,hO.CY.nm,hO.CY.dj⟩ fun i _=>rfl
     rw[EJ (K:={ K with T:=T' }) hb]at J5 Fb;refine bodyPost_ret (v:=.agg #[.int .u16 x,.int .u16 y,fv]) (by simp[results,results147,go_sem,Dz b8]) rfl ?_;exact AV (K':={ K with T:=T' }) (x:=x) (y:=y) h.lt K0 BA ((Bw.no KW h0.lt).trans M7) (h7) K8 hx hy IZ (J5) (Fb) hb (fun _=>hm)
 ·by_cases Dp:at_+n<=r.Ah.length
  ·have lQ:Hm r (.slice (some (T_ gi at_)) n n):=.inr ⟨gi,ci,at_,n,him,rfl,by omega,Dp⟩;have cw:=fun m=>DN b gi ci r.Ah.length n at_ m (w.alloc V_) q8 (by omega) hat hL TF Dp
   gi_enter func147,ntmps147;gi_wp2_with (gi_at_call 138;refine(cw _).mono ?_;rintro e w1 ⟨rfl,hw⟩;have hw:=hw.symm;subst hw;generalize hw0:w.alloc V_=w0 at *);gi_wp2_with (gi_at_call 202;refine(ch _ _ (Ab.refl No w0)).mono ?_;rintro e w1 ⟨K1,xh,rfl,hx⟩;cases xh)
   ·have KK:=((Ab.refl No w0)).then K1;gi_wp2_with (first|(gi_at_call 140;refine(AL _ _ 2).mono ?_;rintro e wz ⟨rfl,Kz⟩;obtain⟨w8,Ar,K8,b8⟩:=Af (x:=0) (y:=2) (f:=.nilFunc) (Kz.old (KK.old rb id) id) rfl)|refine Ae rfl _ _ _ rfl rfl rfl Ar ?_);refine TR 0 2 (by simp[results,results147,go_sem,Dz b8]) rfl ?_;exact Br h hO hm hb K0 BA (KK.then Kz) K8 (by decide) (by decide)
   ·have KK:=((Ab.refl No w0)).then K1;obtain⟨nd,hg,BN⟩:=hx (by first|rfl|trivial);obtain⟨i,rfl,hi⟩:=(o.fd nd (List.mem_of_getElem? hg)).resolve_left BN;obtain⟨hd,_⟩:=hO.close hm hb hn hi hg;have h1:=h0.no KK;obtain⟨g,c,q9,iX,tg,jo⟩:=h1.WH hb hn;have hfl:=(KH.1 hg).1;have f1:(fd:Int)<(r.fds.length:Int):=(by omega);have d:=iX.JH rfl hg;obtain⟨vv,hv1,_,_,hv4⟩:=h1.iZ hi;have AO:=hv4 hd;have cg:=fun m W (hK:Ab No w1 W)=>O8 m W K i vv hi (hK.has hv1)
    refine AA (P:=prog) No _ rfl rfl (by kernel_rfl) 12 44 [0,1,2,3,4,5,6,7,8,9,11] [10] (by kernel_rfl) (by rfl) (fun _ v _=>v=vv) (fun _ _ _ _ _ h _=>h) _ _ rfl rfl ?_;gi_wp2;refine⟨rfl,by kernel_rfl,?_,?_,?_⟩
    ·intro W hK;have d9:=hK.has (w:=w1.drew) q9;have dd:=hK.has (w:=w1.drew) d
     repeat' (refine Ao ?_ ?_)
     all_goals first|exact trivial|gi_wp2
    ·intro j hj u W hK _;obtain rfl:j=10:=(by simpa using hj);refine Bh rfl fun KK2 tL=>?_
     show wpListIn NF m prog _ _ _ (Act.put _ (some 41) (u 10)) _;gi_wp2_with (gi_at_call 203;refine(cg _ W ((Ab.refl No w1).drew.then hK)).mono ?_;rintro e w2 ⟨K2,rfl⟩);exact⟨_,rfl,K2,rfl⟩
    ·intro u W hK hu;have hu:=hu 10 (by simp);show wpListIn NF m prog _ _ _ (Act.put _ (some 41) (u 10)) _;rw[hu];have KW:Ab No w0 W:=KK.then ((Ab.refl No w1).drew.then hK);have hW:=h0.no KW;obtain⟨e,⟨rfl,f,te,_⟩|⟨rfl,te,_⟩|⟨rfl,te,_⟩⟩:=AO
     ·simp only[ptr];have hmt:=XM e;have cM:=fun m=>UX m W K b e f r _ hW hb hn hI hL te lQ hnl
      gi_wp2_with (first|(gi_at_call 279;refine(cM _).mono ?_;rintro e7 wz Ip;obtain⟨T',x,y,fv,rfl,hx,hy,IZ,h7,M7⟩:=Ip;obtain⟨w8,Ar,K8,b8⟩:=Af (x:=x) (y:=y) (f:=fv) (M7.old (KW.old rb id) E8) IZ.one)|refine Ae rfl _ _ _ rfl rfl rfl Ar ?_);obtain⟨J5,Fb⟩:=hO.fds (K1:={ K with T:=T' }) (r':=r) (H:=Bi K.ps K.AJ) ⟨rfl⟩ hm hb rfl rfl rfl rfl rfl o ⟨hO.CY.ho,hO.CY.le,hO.CY.op,hO.CY.nd,hO.CY.nz,hO.CY.nm,hO.CY.dj⟩ fun i _=>rfl
      rw[EJ (K:={ K with T:=T' }) hb]at J5 Fb;refine bodyPost_ret (v:=.agg #[.int .u16 x,.int .u16 y,fv]) (by simp[results,results147,go_sem,Dz b8]) rfl ?_;exact AV (K':={ K with T:=T' }) (x:=x) (y:=y) h.lt K0 BA ((Bw.no KW h0.lt).trans M7) (h7) K8 hx hy IZ (J5) (Fb) hb (fun _=>hm)
     ·simp only[ptr];obtain⟨pp,Zm,_⟩:=hW.fl.rend e te;have hmt:=XO Zm;have cM:=fun m=>Vd m W (.slice (some (T_ gi at_)) n n)
      gi_wp2_with (first|(gi_at_call 268;refine(cM _).mono ?_;rintro e7 wz ⟨rfl,Kz⟩;obtain⟨w8,Ar,K8,b8⟩:=Af (x:=0) (y:=2) (f:=.nilFunc) (Kz.old (KW.old rb id) id) rfl)|refine Ae rfl _ _ _ rfl rfl rfl Ar ?_);refine TR 0 2 (by simp[results,results147,go_sem,Dz b8]) rfl ?_;exact AV (K':=K) (x:=0) (y:=2) h.lt K0 BA ((Bw.no KW h0.lt).then Kz) (hW.no Kz) K8 (by omega) (by omega) (.inl rfl) hO (Rel.refl b K) hb (fun _=>hm)
     ·simp only[ptr];have hmt:=XN e;have cM:=fun m=>UK m W K b e r _ hW hb hn hI hL te lQ
      gi_wp2_with (first|(gi_at_call 275;refine(cM _).mono ?_;rintro e7 wz Ip;obtain⟨T',x,y,fv,rfl,hx,hy,IZ,h7,M7⟩:=Ip;obtain⟨w8,Ar,K8,b8⟩:=Af (x:=x) (y:=y) (f:=fv) (M7.old (KW.old rb id) E8) IZ.one)|refine Ae rfl _ _ _ rfl rfl rfl Ar ?_);obtain⟨J5,Fb⟩:=hO.fds (K1:={ K with T:=T' }) (r':=r) (H:=Bi K.ps K.AJ) ⟨rfl⟩ hm hb rfl rfl rfl rfl rfl o ⟨hO.CY.ho,hO.CY.le,hO.CY.op,hO.CY.nd,hO.CY.nz,hO.CY.nm,hO.CY.dj⟩ fun i _=>rfl
      rw[EJ (K:={ K with T:=T' }) hb]at J5 Fb;refine bodyPost_ret (v:=.agg #[.int .u16 x,.int .u16 y,fv]) (by simp[results,results147,go_sem,Dz b8]) rfl ?_;exact AV (K':={ K with T:=T' }) (x:=x) (y:=y) h.lt K0 BA ((Bw.no KW h0.lt).trans M7) (h7) K8 hx hy IZ (J5) (Fb) hb (fun _=>hm)
  ·have cw:=fun m=>UJ b gi ci r.Ah.length n at_ m (w.alloc V_) q8 (by omega) hnn hat Dp
   gi_enter func147,ntmps147;gi_wp2_with (gi_at_call 138;refine(cw _).mono ?_;rintro e w1 ⟨rfl,hw⟩;have hw:=hw.symm;subst hw;generalize hw0:w.alloc V_=w0 at *);gi_wp2_with (first|(gi_at_call 140;refine(AL _ _ 1).mono ?_;rintro e wz ⟨rfl,Kz⟩;obtain⟨w8,Ar,K8,b8⟩:=Af (x:=0) (y:=1) (f:=.nilFunc) (Kz.old (rb) id) rfl)|refine Ae rfl _ _ _ rfl rfl rfl Ar ?_);refine TR 0 1 (by simp[results,results147,go_sem,Dz b8]) rfl ?_;exact Br h hO hm hb K0 BA Kz K8 (by decide) (by decide)
end
end Go.Fxa
