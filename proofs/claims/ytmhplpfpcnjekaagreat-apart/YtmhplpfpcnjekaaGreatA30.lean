/- A file with a place: Write. -/
import Derived.Test.YtmhplpfpcnjekaaGreatA29
namespace Go.Fxa
open Conc Proofs RowKit Proofs.Tryz
set_option maxRecDepth 1000000
set_option maxHeartbeats 0
section
variable (m:Nat) (w:World)
theorem UX (K:KS) (b e0 f:Nat) (r:PR) (v:Value) (h:AQ K w) (hb:K.ps b=some r) (hn:r.en=false) (hI:∀z∈r.Ah,z<65536) (hL:r.Ah.length<=128) (te:K.T e0=(12,f)) (hv:Hm r v) (hnl:K.nl.length<=1000):
  CallsIn NF m prog 279 #[R_ e0,v] w (NK K b w):=by
 obtain⟨K0,rb,BA⟩:=FU w;have h0:=h.no K0;have E8:K.T w.heap.size=(0,0):=h.lt _ (Nat.le_refl _);obtain⟨dv,n,rfl,an9⟩:∃d n,v=.slice d n n/\n<=128:=by
  rcases hv with rfl|⟨g,c,o,n,_,rfl,_,_⟩
  ·exact⟨none,0,rfl,by omega⟩
  ·exact⟨_,n,rfl,by omega⟩
 obtain⟨pl,he,tf,ag6⟩:=h0.fl.Fs e0 f te;obtain⟨u,hf,hu⟩:=h0.fl.file f tf;obtain⟨a,ws,c',rfl,hwc,hw64,hwx,hwn,hws⟩:=hu.shape;have d0:(w.alloc V_).cell? (S_ e0)=some (.pointer (some (T_ K.kb 4))):=(Ag he 0).trans rfl;have d1:(w.alloc V_).cell? (T_ e0 1)=some (R_ f):=(Ag he 1).trans rfl;have d2:(w.alloc V_).cell? (T_ e0 2)=some (.int .i64 pl):=(Ag he 2).trans rfl;have d3:(w.alloc V_).cell? (S_ f)=some (.slice a ws.length c'):=(Ag hf 0).trans rfl;by_cases h64:64<pl+n
 ·have f1:(64:Int)<(pl:Int)+(n:Int):=by omega
  gi_enter func279,ntmps279;gi_wp2_with fail;gi_wp2_with (first|(gi_at_call 273;refine(En _ _ 9).mono ?_;rintro e wz ⟨rfl,Kz⟩;obtain⟨w8,Ar,K8,b8⟩:=Af (x:=0) (y:=9) (f:=.nilFunc) (Kz.old (rb) id) rfl)|refine Ae rfl _ _ _ rfl rfl rfl Ar ?_);refine TR 0 9 (by simp[results,results279,go_sem,Dz b8]) rfl ?_;exact Ck (T':=K.T) (x:=0) (y:=9) h.lt K0 BA (((Bw.no (Ab.refl No _) h0.lt)).then Kz) ((h0).no Kz) K8 (by omega) (by omega) (.inl rfl)
 ·have f1:¬(64:Int)<(pl:Int)+(n:Int):=by omega
  by_cases hz:n=0
  ·subst hz;simp only[Int.natCast_zero,Int.add_zero]at f1;gi_enter func279,ntmps279;gi_wp2_with fail;gi_wp2_with (first|(gi_at_call 272;refine(Cf _ _ 0 (by omega)).mono ?_;rintro e wz ⟨rfl,Kz⟩;obtain⟨w8,Ar,K8,b8⟩:=Af (x:=0) (y:=0) (f:=.nilFunc) (Kz.old (rb) id) rfl)|refine Ae rfl _ _ _ rfl rfl rfl Ar ?_);refine TR 0 0 (by simp[results,results279,go_sem,Dz b8]) rfl ?_;exact Ck (T':=K.T) (x:=0) (y:=0) h.lt K0 BA (((Bw.no (Ab.refl No _) h0.lt)).then Kz) ((h0).no Kz) K8 (by omega) (by omega) (.inl rfl)
  ·have f2:((n:Int)==0)=false:=(by simp;omega);obtain⟨sz,hsz'⟩:∃sz:Nat,(pl:Int)+(n:Int)=(sz:Int):=⟨pl+n,by omega⟩;rw[hsz']at f1;by_cases hmx:pl+n<ws.length
   ·have f3:(sz:Int)<(ws.length:Int):=(by omega);gi_enter func279,ntmps279;gi_wp2;refine AA (P:=prog) No _ rfl rfl (by kernel_rfl) 9 88 [0,1,2,3,4,5,6,7,8] [] (by kernel_rfl) (by rfl) (fun _ _ _=>True) (fun _ _ _ _ _ h _=>h) _ _ rfl rfl ?_;have cm:=fun m w1 (hK:Ab No (w.alloc V_) w1)=>Tf m w1 K f (ws.length) (h0.no hK) tf (by omega) (by omega)
    gi_wp2_with (gi_at_call 281;refine(cm _ _ (Ab.refl No _).drew).mono ?_;rintro e w1 ⟨K1,x,rfl⟩);refine⟨rfl,by kernel_rfl,?_,(fun i hi=>absurd hi (by simp)),?_⟩
    ·intro W hK;have e0':=hK.has (w:=(w.alloc V_).drew) d0;have e1':=hK.has (w:=(w.alloc V_).drew) d1
     repeat' (refine Ao ?_ ?_)
     all_goals first|exact trivial|gi_wp2
    ·intro u W hK _;simp only[C9];have KW:Ab No (w.alloc V_) W:=(Ab.refl No _).drew.then hK;gi_wp2_with (gi_at_call 281;refine(cm _ _ KW).mono ?_;rintro e w1 ⟨K1,x,rfl⟩;have KV:=KW.then K1;cases x)
     ·have h1:=h0.no KV;gi_wp2_with (first|(gi_at_call 273;refine(En _ _ 10).mono ?_;rintro e wz ⟨rfl,Kz⟩;obtain⟨w8,Ar,K8,b8⟩:=Af (x:=0) (y:=10) (f:=.nilFunc) (Kz.old (KV.old rb id) id) rfl)|refine Ae rfl _ _ _ rfl rfl rfl Ar ?_);refine TR 0 10 (by simp[results,results279,go_sem,Dz b8]) rfl ?_;exact Ck (T':=K.T) (x:=0) (y:=10) h.lt K0 BA (((Bw.no KV h0.lt)).then Kz) ((h1).no Kz) K8 (by omega) (by omega) (.inl rfl)
     ·have h1:AQ K w1.drew:=h0.no KV.drew;obtain⟨va,Wa,Fq,sj,⟨aa,ca,hva⟩,hKa⟩:=aj5 (ty:=116) (m:=ws.length-ws.length) (hu.set KV.drew (fun _ _=>id)) (Nat.le_refl 64) (by omega) (by omega);have ev:((ws.length-ws.length:Nat):Int)=0:=(by omega);rw[ev]at Fq;obtain rfl:va=.slice aa (ws.length) ca:=hva.trans (by congr 1;omega);clear hva;have e0':w1.drew.cell? (S_ e0)=some (.pointer (some (T_ K.kb 4))):=KV.has d0;have e1:w1.drew.cell? (T_ e0 1)=some (R_ f):=KV.has d1;have e2:w1.drew.cell? (T_ e0 2)=some (.int .i64 pl):=KV.has d2;have e3:w1.drew.cell? (S_ f)=some (.slice a ws.length c'):=KV.has d3;have Vl:=World.block_lt_of_cell? _ _ e1;have lf2:=World.block_lt_of_cell? _ _ e3;refine BZ (P:=prog) _ rfl rfl (by kernel_rfl) 22 88 [0,1,2,3,4,5,6,7,8,9,10,11,12,13,14,15,16,17,18,19,20] [21] (by kernel_rfl) (by rfl)
       (J2 (On K.T fun t=>t=(15,f)) w1.drew 21 (fun v W=>OY K.T w1.drew f 64 v W/\∃a' c',v=.slice a' (ws.length) c') []) (EF (by simp) (by simp)) _ _ rfl rfl ?_;gi_wp2_with (refine BL rfl (.tmp 53) (.tmp 63) _ rfl rfl rfl Fq ?_);refine⟨rfl,by kernel_rfl,Dg,?_,?_,?_⟩
      ·intro L' u W G9;have g1:=(G9.1.cell (w:=w1.drew) (p:=(T_ e0 1)) Vl (by unfold On;rw[te];simp)).trans e1;have g3:=(G9.1.cell (w:=w1.drew) (p:=(S_ f)) lf2 (by unfold On;rw[tf];simp)).trans e3
       repeat' (refine Ao ?_ ?_)
       all_goals first|exact trivial|gi_wp2
      ·intro i hi L' u W G9 Nf hu';obtain rfl:i=21:=(by simpa using hi);obtain rfl:=G9.2.1 Nf;refine Bh rfl fun KK Ko=>?_
       show wpListIn NF m prog _ _ _ (Act.put _ (some 64) (u 21)) _;gi_wp2_with (refine BL rfl (.tmp 53) (.tmp 63) _ rfl rfl rfl Fq ?_);exact⟨_,rfl,EG G9 (by simp) hKa ⟨sj,_,_,rfl⟩⟩
      ·intro L' u W G9 hL';obtain⟨WG,a3,c3,e21⟩:=G9.2.2.1 (hL' 21 (by simp));show wpListIn NF m prog _ _ _ (Act.put _ (some 64) (u 21)) _;rw[e21];rw[e21]at WG;have hf1:=G9.1.old (w:=w1.drew) (KV.old hf id) (by unfold On;rw[tf];simp);have q3:W.cell? (S_ f)=some _:=(Ag hf1 0).trans rfl;have z3:=BF hf1 0;have g1:=(G9.1.cell (w:=w1.drew) (p:=(T_ e0 1)) Vl (by unfold On;rw[te];simp)).trans e1;have hef:e0≠f:=fun e=>by rw[e,tf]at te;simp at te
       have ba1:¬f=e0:=Ne.symm hef;obtain⟨T',MT,hwT⟩:=WG.IY G9.1 h1.lt;have TH:T' f=(10,0):=MT.tag tf (by simp);have lH:T' e0=(12,f):=MT.tag te (by simp);have l9:Ab (At f) W (W.setCell (S_ f) (.slice a3 (ws.length) c3)):=(Ab.refl _ _).setCell _ fun _=>rfl
       have mG:=hwT.set l9 (fun g hg e=>by rw[show g=f from e,TH]at hg;simp at hg);have s4:=h1.setW (by rw[tf];simp) (by rw[tf];simp) MT (Dk.file' (v:=.slice a3 (ws.length) c3) TH (Aj hf1 _) mG);rcases mG with e|⟨g,c9,yJ,e,hR9,_,mF,iT⟩
       ·exfalso;injection e with _ e2;omega
       obtain⟨rfl,yR,rfl⟩:a3=some (S_ g)/\ws.length=yJ.length/\c3=c9:=(by injection e with e1 e2 e3;exact⟨e1,e2,e3⟩);have az4:=hR9.le;have g1':(W.setCell (S_ f) (.slice (some (S_ g)) (ws.length) c3)).cell? (T_ e0 1)=some (R_ f):=(l9.cell (p:=(T_ e0 1)) (World.block_lt_of_cell? _ _ g1) hef).trans g1;have g2:=(G9.1.cell (w:=w1.drew) (p:=(T_ e0 2)) Vl (by unfold On;rw[te];simp)).trans e2;have g2':(W.setCell (S_ f) (.slice (some (S_ g)) (ws.length) c3)).cell? (T_ e0 2)=some (.int .i64 pl):=(l9.cell (p:=(T_ e0 2)) (World.block_lt_of_cell? _ _ g2) hef).trans g2;have g3':(W.setCell (S_ f) (.slice (some (S_ g)) (ws.length) c3)).cell? (S_ f)=some (.slice (some (S_ g)) (ws.length) c3):=(Ag (Aj hf1 _) 0).trans (by simp);have I1:Bw K.T T' (w.alloc V_) _:=(Bw.no KV.drew h0.lt).trans s4.2;have fc:¬c3=pl:=(by omega);have fpl:¬((ws.length:Nat):Int)<(pl:Int):=(by omega);have cp:∀WX,Ab No (W.setCell (S_ f) (.slice (some (S_ g)) (ws.length) c3)) WX->∃WY ws',(Builtin.copy_ #[116,116] 3 #[.slice (some (T_ g pl)) (ws.length-pl) (c3-pl),.slice dv n n]).run prog WX=.ok (goInt (n:Nat)) WY/\Ab (At g) WX WY/\Rw 123 1 WY g (ws.length) c3 (Aq ws')/\ws'.length=ws.length/\∀x∈ws',x<65536:=fun WX KX=>by
        have hX:=AQ.no s4.1 KX
        obtain⟨ys,hyl,hyx,rY⟩:=Hm.words (K:={ K with T:=T' }) hX hb hn hI hv n (Nat.le_refl n)
        obtain⟨ad,rfl,hys⟩:=rY.resolve_left hz
        have hmin:Nat.min n (ws.length-pl)=n:=Nat.min_eq_left (by omega)
        obtain⟨WY,hr,hK,Fb⟩:=PE (ty:=3) (Gx:=ws.length-pl) (FI:=c3-pl) (Ca:=n) (sCap:=n) (o:=pl) (Rw.keep hR9 KX id) rfl hys (by rw[hmin];exact hyl) (by rw[hyl];omega)
        rw[hmin]at hr
        have hlen:(yJ.take pl++ys++yJ.drop (pl+ys.length)).length=ws.length:=by simp only[List.length_append,List.length_take,List.length_drop,hyl];omega
        refine⟨WY,_,hr,hK,by simpa only[yR]using Fb,hlen,fun x hx=>?_⟩
        rcases List.mem_append.1 hx with hx|hx
        ·rcases List.mem_append.1 hx with hx|hx
         ·exact mF x (List.mem_of_mem_take hx)
         ·exact hyx x hx
        ·exact mF x (List.mem_of_mem_drop hx)
       clear yR e;gi_wp2;generalize hW9:W.setCell (S_ f) (.slice (some (S_ g)) (ws.length) c3)=W9 at*;obtain⟨WY0,ws0,ba4,_,_⟩:=cp W9.drew (Ab.refl No W9).drew;refine AA (P:=prog) No _ rfl rfl (by kernel_rfl) 13 88 [0,1,2,3,4,5,6,7,8,9,10,11,12] [] (by kernel_rfl) (by rfl) (fun _ _ _=>True) (fun _ _ _ _ _ h _=>h) _ _ rfl rfl ?_;gi_wp2;refine⟨rfl,by kernel_rfl,?_,(fun i hi=>absurd hi (by simp)),?_⟩
       ·intro W2 Fe;have k1:=Fe.has (w:=W9.drew) g1';have k2:=Fe.has (w:=W9.drew) g2';have k3:=Fe.has (w:=W9.drew) g3'
        repeat' (refine Ao ?_ ?_)
        all_goals first|exact trivial|gi_wp2
       ·intro u2 W2 Fe _;simp only[C9];have KX:Ab No W9 W2:=(Ab.refl No W9).drew.then Fe;obtain⟨WY,ws',hcp,yV,hRY,yQ,hxY⟩:=cp W2 KX;have h10:=AQ.no s4.1 KX;have hgf:g≠f:=fun e=>by rw[e,TH]at iT;simp at iT
        have hge:g≠e0:=fun e=>by rw[e,lH]at iT;simp at iT
        obtain⟨vf,hfX,_⟩:=h10.fl.file f TH;obtain⟨pn,heX,_⟩:=h10.fl.Fs e0 f lH;have k3:=KX.has g3';have ek:vf=.slice (some (S_ g)) (ws.length) c3:=by
         have:=(Ag hfX 0).symm.trans k3
         simpa using this
        subst ek;have s5:=AQ.WU (b0:=f) h10 yV (fun k hk=>by rw[show k=g from hk];exact .inr iT) (by show 10<=(T' f).1;rw[TH];simp) (by show(T' f).1<15;rw[TH];simp) (Dk.file' (T:=T') TH (yV.old hfX (Ne.symm hgf)) (.inr ⟨g,c3,ws',by rw[yQ],by rw[yQ];exact hRY,by rw[yQ];omega,hxY,iT⟩));have yS:=yV.old heX (Ne.symm hge);have kz:=BF yS 2;have kq:WY.cell? (T_ e0 2)=some (.int .i64 pn):=(Ag yS 2).trans rfl;have s6:=AQ.Ma (p:=e0) (w':=WY.setCell (T_ e0 2) (.int .i64 (sz:Nat))) s5.1 ((Ab.refl _ _).setCell _ fun _=>rfl) (by show 10<=(T' e0).1;rw[lH];simp) (by show(T' e0).1<15;rw[lH];simp) (Dk.GQ (T:=T') (n:=sz) lH (Aj yS _) TH (by omega));gi_wp2_with fail;have WE:Bw K.T T' (w.alloc V_) _:=((I1.then KX).trans s5.2).trans s6.2;gi_wp2_with (first|(gi_at_call 272;refine(Cf _ _ n (by omega)).mono ?_;rintro e wz ⟨rfl,Kz⟩;obtain⟨w8,Ar,K8,b8⟩:=Af (x:=n) (y:=0) (f:=.nilFunc) (Kz.old (WE.old rb E8) id) rfl)|refine Ae rfl _ _ _ rfl rfl rfl Ar ?_);refine TR n 0 (by simp[results,results279,go_sem,Dz b8]) rfl ?_;exact Ck (T':=T') (x:=n) (y:=0) h.lt K0 BA ((WE).then Kz) ((s6.1).no Kz) K8 (by omega) (by omega) (.inl rfl)
   ·have f3:¬(sz:Int)<(ws.length:Int):=(by omega);gi_enter func279,ntmps279;gi_wp2;refine AA (P:=prog) No _ rfl rfl (by kernel_rfl) 9 88 [0,1,2,3,4,5,6,7,8] [] (by kernel_rfl) (by rfl) (fun _ _ _=>True) (fun _ _ _ _ _ h _=>h) _ _ rfl rfl ?_;have cm:=fun m w1 (hK:Ab No (w.alloc V_) w1)=>Tf m w1 K f (sz) (h0.no hK) tf (by omega) (by omega)
    gi_wp2_with (gi_at_call 281;refine(cm _ _ (Ab.refl No _).drew).mono ?_;rintro e w1 ⟨K1,x,rfl⟩);refine⟨rfl,by kernel_rfl,?_,(fun i hi=>absurd hi (by simp)),?_⟩
    ·intro W hK;have e0':=hK.has (w:=(w.alloc V_).drew) d0;have e1':=hK.has (w:=(w.alloc V_).drew) d1
     repeat' (refine Ao ?_ ?_)
     all_goals first|exact trivial|gi_wp2
    ·intro u W hK _;simp only[C9];have KW:Ab No (w.alloc V_) W:=(Ab.refl No _).drew.then hK;gi_wp2_with (gi_at_call 281;refine(cm _ _ KW).mono ?_;rintro e w1 ⟨K1,x,rfl⟩;have KV:=KW.then K1;cases x)
     ·have h1:=h0.no KV;gi_wp2_with (first|(gi_at_call 273;refine(En _ _ 10).mono ?_;rintro e wz ⟨rfl,Kz⟩;obtain⟨w8,Ar,K8,b8⟩:=Af (x:=0) (y:=10) (f:=.nilFunc) (Kz.old (KV.old rb id) id) rfl)|refine Ae rfl _ _ _ rfl rfl rfl Ar ?_);refine TR 0 10 (by simp[results,results279,go_sem,Dz b8]) rfl ?_;exact Ck (T':=K.T) (x:=0) (y:=10) h.lt K0 BA (((Bw.no KV h0.lt)).then Kz) ((h1).no Kz) K8 (by omega) (by omega) (.inl rfl)
     ·have h1:AQ K w1.drew:=h0.no KV.drew;obtain⟨va,Wa,Fq,sj,⟨aa,ca,hva⟩,hKa⟩:=aj5 (ty:=116) (m:=sz-ws.length) (hu.set KV.drew (fun _ _=>id)) (Nat.le_refl 64) (by omega) (by omega);have ev:((sz-ws.length:Nat):Int)=(sz:Int)-ws.length:=(by omega);rw[ev]at Fq;obtain rfl:va=.slice aa (sz) ca:=hva.trans (by congr 1;omega);clear hva;have e0':w1.drew.cell? (S_ e0)=some (.pointer (some (T_ K.kb 4))):=KV.has d0;have e1:w1.drew.cell? (T_ e0 1)=some (R_ f):=KV.has d1;have e2:w1.drew.cell? (T_ e0 2)=some (.int .i64 pl):=KV.has d2;have e3:w1.drew.cell? (S_ f)=some (.slice a ws.length c'):=KV.has d3;have Vl:=World.block_lt_of_cell? _ _ e1;have lf2:=World.block_lt_of_cell? _ _ e3;refine BZ (P:=prog) _ rfl rfl (by kernel_rfl) 22 88 [0,1,2,3,4,5,6,7,8,9,10,11,12,13,14,15,16,17,18,19,20] [21] (by kernel_rfl) (by rfl)
       (J2 (On K.T fun t=>t=(15,f)) w1.drew 21 (fun v W=>OY K.T w1.drew f 64 v W/\∃a' c',v=.slice a' (sz) c') []) (EF (by simp) (by simp)) _ _ rfl rfl ?_;gi_wp2_with (refine BL rfl (.tmp 53) (.tmp 63) _ rfl rfl rfl Fq ?_);refine⟨rfl,by kernel_rfl,Dg,?_,?_,?_⟩
      ·intro L' u W G9;have g1:=(G9.1.cell (w:=w1.drew) (p:=(T_ e0 1)) Vl (by unfold On;rw[te];simp)).trans e1;have g3:=(G9.1.cell (w:=w1.drew) (p:=(S_ f)) lf2 (by unfold On;rw[tf];simp)).trans e3
       repeat' (refine Ao ?_ ?_)
       all_goals first|exact trivial|gi_wp2
      ·intro i hi L' u W G9 Nf hu';obtain rfl:i=21:=(by simpa using hi);obtain rfl:=G9.2.1 Nf;refine Bh rfl fun KK Ko=>?_
       show wpListIn NF m prog _ _ _ (Act.put _ (some 64) (u 21)) _;gi_wp2_with (refine BL rfl (.tmp 53) (.tmp 63) _ rfl rfl rfl Fq ?_);exact⟨_,rfl,EG G9 (by simp) hKa ⟨sj,_,_,rfl⟩⟩
      ·intro L' u W G9 hL';obtain⟨WG,a3,c3,e21⟩:=G9.2.2.1 (hL' 21 (by simp));show wpListIn NF m prog _ _ _ (Act.put _ (some 64) (u 21)) _;rw[e21];rw[e21]at WG;have hf1:=G9.1.old (w:=w1.drew) (KV.old hf id) (by unfold On;rw[tf];simp);have q3:W.cell? (S_ f)=some _:=(Ag hf1 0).trans rfl;have z3:=BF hf1 0;have g1:=(G9.1.cell (w:=w1.drew) (p:=(T_ e0 1)) Vl (by unfold On;rw[te];simp)).trans e1;have hef:e0≠f:=fun e=>by rw[e,tf]at te;simp at te
       have ba1:¬f=e0:=Ne.symm hef;obtain⟨T',MT,hwT⟩:=WG.IY G9.1 h1.lt;have TH:T' f=(10,0):=MT.tag tf (by simp);have lH:T' e0=(12,f):=MT.tag te (by simp);have l9:Ab (At f) W (W.setCell (S_ f) (.slice a3 (sz) c3)):=(Ab.refl _ _).setCell _ fun _=>rfl
       have mG:=hwT.set l9 (fun g hg e=>by rw[show g=f from e,TH]at hg;simp at hg);have s4:=h1.setW (by rw[tf];simp) (by rw[tf];simp) MT (Dk.file' (v:=.slice a3 (sz) c3) TH (Aj hf1 _) mG);rcases mG with e|⟨g,c9,yJ,e,hR9,_,mF,iT⟩
       ·exfalso;injection e with _ e2;omega
       obtain⟨rfl,yR,rfl⟩:a3=some (S_ g)/\sz=yJ.length/\c3=c9:=(by injection e with e1 e2 e3;exact⟨e1,e2,e3⟩);have az4:=hR9.le;have g1':(W.setCell (S_ f) (.slice (some (S_ g)) (sz) c3)).cell? (T_ e0 1)=some (R_ f):=(l9.cell (p:=(T_ e0 1)) (World.block_lt_of_cell? _ _ g1) hef).trans g1;have g2:=(G9.1.cell (w:=w1.drew) (p:=(T_ e0 2)) Vl (by unfold On;rw[te];simp)).trans e2;have g2':(W.setCell (S_ f) (.slice (some (S_ g)) (sz) c3)).cell? (T_ e0 2)=some (.int .i64 pl):=(l9.cell (p:=(T_ e0 2)) (World.block_lt_of_cell? _ _ g2) hef).trans g2;have g3':(W.setCell (S_ f) (.slice (some (S_ g)) (sz) c3)).cell? (S_ f)=some (.slice (some (S_ g)) (sz) c3):=(Ag (Aj hf1 _) 0).trans (by simp);have I1:Bw K.T T' (w.alloc V_) _:=(Bw.no KV.drew h0.lt).trans s4.2;have fc:¬c3=pl:=(by omega);have fpl:¬((sz:Nat):Int)<(pl:Int):=(by omega);have cp:∀WX,Ab No (W.setCell (S_ f) (.slice (some (S_ g)) (sz) c3)) WX->∃WY ws',(Builtin.copy_ #[116,116] 3 #[.slice (some (T_ g pl)) (sz-pl) (c3-pl),.slice dv n n]).run prog WX=.ok (goInt (n:Nat)) WY/\Ab (At g) WX WY/\Rw 123 1 WY g (sz) c3 (Aq ws')/\ws'.length=sz/\∀x∈ws',x<65536:=fun WX KX=>by
        have hX:=AQ.no s4.1 KX
        obtain⟨ys,hyl,hyx,rY⟩:=Hm.words (K:={ K with T:=T' }) hX hb hn hI hv n (Nat.le_refl n)
        obtain⟨ad,rfl,hys⟩:=rY.resolve_left hz
        have hmin:Nat.min n (sz-pl)=n:=Nat.min_eq_left (by omega)
        obtain⟨WY,hr,hK,Fb⟩:=PE (ty:=3) (Gx:=sz-pl) (FI:=c3-pl) (Ca:=n) (sCap:=n) (o:=pl) (Rw.keep hR9 KX id) rfl hys (by rw[hmin];exact hyl) (by rw[hyl];omega)
        rw[hmin]at hr
        have hlen:(yJ.take pl++ys++yJ.drop (pl+ys.length)).length=sz:=by simp only[List.length_append,List.length_take,List.length_drop,hyl];omega
        refine⟨WY,_,hr,hK,by simpa only[yR]using Fb,hlen,fun x hx=>?_⟩
        rcases List.mem_append.1 hx with hx|hx
        ·rcases List.mem_append.1 hx with hx|hx
         ·exact mF x (List.mem_of_mem_take hx)
         ·exact hyx x hx
        ·exact mF x (List.mem_of_mem_drop hx)
       clear yR e;gi_wp2;generalize hW9:W.setCell (S_ f) (.slice (some (S_ g)) (sz) c3)=W9 at*;obtain⟨WY0,ws0,ba4,_,_⟩:=cp W9.drew (Ab.refl No W9).drew;refine AA (P:=prog) No _ rfl rfl (by kernel_rfl) 13 88 [0,1,2,3,4,5,6,7,8,9,10,11,12] [] (by kernel_rfl) (by rfl) (fun _ _ _=>True) (fun _ _ _ _ _ h _=>h) _ _ rfl rfl ?_;gi_wp2;refine⟨rfl,by kernel_rfl,?_,(fun i hi=>absurd hi (by simp)),?_⟩
       ·intro W2 Fe;have k1:=Fe.has (w:=W9.drew) g1';have k2:=Fe.has (w:=W9.drew) g2';have k3:=Fe.has (w:=W9.drew) g3'
        repeat' (refine Ao ?_ ?_)
        all_goals first|exact trivial|gi_wp2
       ·intro u2 W2 Fe _;simp only[C9];have KX:Ab No W9 W2:=(Ab.refl No W9).drew.then Fe;obtain⟨WY,ws',hcp,yV,hRY,yQ,hxY⟩:=cp W2 KX;have h10:=AQ.no s4.1 KX;have hgf:g≠f:=fun e=>by rw[e,TH]at iT;simp at iT
        have hge:g≠e0:=fun e=>by rw[e,lH]at iT;simp at iT
        obtain⟨vf,hfX,_⟩:=h10.fl.file f TH;obtain⟨pn,heX,_⟩:=h10.fl.Fs e0 f lH;have k3:=KX.has g3';have ek:vf=.slice (some (S_ g)) (sz) c3:=by
         have:=(Ag hfX 0).symm.trans k3
         simpa using this
        subst ek;have s5:=AQ.WU (b0:=f) h10 yV (fun k hk=>by rw[show k=g from hk];exact .inr iT) (by show 10<=(T' f).1;rw[TH];simp) (by show(T' f).1<15;rw[TH];simp) (Dk.file' (T:=T') TH (yV.old hfX (Ne.symm hgf)) (.inr ⟨g,c3,ws',by rw[yQ],by rw[yQ];exact hRY,by rw[yQ];omega,hxY,iT⟩));have yS:=yV.old heX (Ne.symm hge);have kz:=BF yS 2;have kq:WY.cell? (T_ e0 2)=some (.int .i64 pn):=(Ag yS 2).trans rfl;have s6:=AQ.Ma (p:=e0) (w':=WY.setCell (T_ e0 2) (.int .i64 (sz:Nat))) s5.1 ((Ab.refl _ _).setCell _ fun _=>rfl) (by show 10<=(T' e0).1;rw[lH];simp) (by show(T' e0).1<15;rw[lH];simp) (Dk.GQ (T:=T') (n:=sz) lH (Aj yS _) TH (by omega));gi_wp2_with fail;have WE:Bw K.T T' (w.alloc V_) _:=((I1.then KX).trans s5.2).trans s6.2;gi_wp2_with (first|(gi_at_call 272;refine(Cf _ _ n (by omega)).mono ?_;rintro e wz ⟨rfl,Kz⟩;obtain⟨w8,Ar,K8,b8⟩:=Af (x:=n) (y:=0) (f:=.nilFunc) (Kz.old (WE.old rb E8) id) rfl)|refine Ae rfl _ _ _ rfl rfl rfl Ar ?_);refine TR n 0 (by simp[results,results279,go_sem,Dz b8]) rfl ?_;exact Ck (T':=T') (x:=n) (y:=0) h.lt K0 BA ((WE).then Kz) ((s6.1).no Kz) K8 (by omega) (by omega) (.inl rfl)
end
section
variable (m:Nat) (w:World)
theorem O8 (K:KS) (i:Nat) (v:Value) (hi:i<20) (h1:w.cell? (T_ K.kb (21+i*2))=some v):
  CallsIn NF m prog 203 #[.pointer (some (T_ K.kb 21)),.int .i64 (i:Nat)] w fun e w'=>Ab No w w'/\e=.returned v:=by
 have f1:(i:Int)<20:=by omega
 gi_enter func203,ntmps203;gi_wp2;go_ret;exact⟨Ab.refl _ _,by simp⟩
end
section
variable (pb ib c L n a m:Nat) (w:World)
theorem UJ (h8:w.cell? (T_ pb 8)=some (.slice (some (S_ ib)) L c)) (hn:1<=n) (hn':n<65536) (ha:a<65536) (h:¬a+n<=L):
  CallsIn NF m prog 138 #[.pointer (some (T_ pb 5)),.int .u16 a,.int .i64 n] w fun e w'=>e=.returned (.tuple #[.slice none 0 0,.bool false])/\w'=w:=by
 gi_enter func138,ntmps138;gi_wp2;go_ret2;exact⟨by simp,rfl⟩
end
section
variable (m:Nat) (w:World)
theorem uu (K:KS) (NC NS b fd pl:Nat) (r:PR) (h:AQ K w) (hO:DZ NC NS K) (hm:b∈K.AJ) (hb:K.ps b=some r) (hn:r.en=false) (Zn:fd<65536) (hpl:pl<65536):
  CallsIn NF m prog 154 #[R_ K.kb,R_ b,.int .u16 (fd:Nat),.int .u16 (pl:Nat)] w (ED NC NS b K w):=by
 have o:=hO.pr b r hb;obtain⟨K0,rb,BA⟩:=FU w;have h0:=h.no K0;have E8:K.T w.heap.size=(0,0):=h.lt _ (Nat.le_refl _);have ch:=fun m w1 (hK:Ab No (w.alloc V_) w1)=>RU m w1 K b fd r (h0.no hK) hb hn Zn
 gi_enter func154,ntmps154;gi_wp2_with fail;generalize hw0:w.alloc V_=w0 at*;gi_wp2_with (gi_at_call 202;refine(ch _ _ (Ab.refl No w0)).mono ?_;rintro e w1 ⟨K1,xh,rfl,hx⟩;cases xh)
 ·have KK:=((Ab.refl No w0)).then K1;gi_wp2_with (first|(gi_at_call 140;refine(AL _ _ 2).mono ?_;rintro e wz ⟨rfl,Kz⟩;obtain⟨w8,Ar,K8,b8⟩:=Af (x:=0) (y:=2) (f:=.nilFunc) (Kz.old (KK.old rb id) id) rfl)|refine Ae rfl _ _ _ rfl rfl rfl Ar ?_);refine TR 0 2 (by simp[results,results154,go_sem,Dz b8]) rfl ?_;exact Br h hO hm hb K0 BA (KK.then Kz) K8 (by decide) (by decide)
 ·have KK:=((Ab.refl No w0)).then K1;obtain⟨nd,hg,BN⟩:=hx (by first|rfl|trivial);obtain⟨i,rfl,hi⟩:=(o.fd nd (List.mem_of_getElem? hg)).resolve_left BN;obtain⟨hd,_⟩:=hO.close hm hb hn hi hg;have h1:=h0.no KK;obtain⟨g,c,q9,iX,tg,jo⟩:=h1.WH hb hn;have hfl:=(KH.1 hg).1;have f1:(fd:Int)<(r.fds.length:Int):=by omega
  have d:=iX.JH rfl hg;obtain⟨vv,hv1,_,_,hv4⟩:=h1.iZ hi;have AO:=hv4 hd;have cg:=fun m W (hK:Ab No w1 W)=>O8 m W K i vv hi (hK.has hv1)
  refine AA (P:=prog) No _ rfl rfl (by kernel_rfl) 13 28 [0,1,2,3,4,5,6,7,8,9,11,12] [10] (by kernel_rfl) (by rfl) (fun _ v _=>v=vv) (fun _ _ _ _ _ h _=>h) _ _ rfl rfl ?_;gi_wp2;refine⟨rfl,by kernel_rfl,?_,?_,?_⟩
  ·intro W hK;have d9:=hK.has (w:=w1.drew) q9;have dd:=hK.has (w:=w1.drew) d
   repeat' (refine Ao ?_ ?_)
   all_goals first|exact trivial|gi_wp2
  ·intro j hj u W hK _;obtain rfl:j=10:=(by simpa using hj);refine Bh rfl fun KK2 tL=>?_
   show wpListIn NF m prog _ _ _ (Act.put _ (some 24) (u 10)) _;gi_wp2_with (gi_at_call 203;refine(cg _ W ((Ab.refl No w1).drew.then hK)).mono ?_;rintro e w2 ⟨K2,rfl⟩);exact⟨_,rfl,K2,rfl⟩
  ·intro u W hK hu;have hu:=hu 10 (by simp);show wpListIn NF m prog _ _ _ (Act.put _ (some 24) (u 10)) _;rw[hu];have KW:Ab No w0 W:=KK.then ((Ab.refl No w1).drew.then hK);have hW:=h0.no KW;obtain⟨e,⟨rfl,f,te,_⟩|⟨rfl,te,_⟩|⟨rfl,te,_⟩⟩:=AO
   ·simp only[ptr];have hmt:=qF e;have cM:=fun m=>qz m W K b e f pl hW te hpl
    gi_wp2_with (first|(gi_at_call 278;refine(cM _).mono ?_;rintro e7 wz Ip;obtain⟨T',x,y,fv,rfl,hx,hy,IZ,h7,M7⟩:=Ip;obtain⟨w8,Ar,K8,b8⟩:=Af (x:=x) (y:=y) (f:=fv) (M7.old (KW.old rb id) E8) IZ.one)|refine Ae rfl _ _ _ rfl rfl rfl Ar ?_);obtain⟨J5,Fb⟩:=hO.fds (K1:={ K with T:=T' }) (r':=r) (H:=Bi K.ps K.AJ) ⟨rfl⟩ hm hb rfl rfl rfl rfl rfl o ⟨hO.CY.ho,hO.CY.le,hO.CY.op,hO.CY.nd,hO.CY.nz,hO.CY.nm,hO.CY.dj⟩ fun i _=>rfl
    rw[EJ (K:={ K with T:=T' }) hb]at J5 Fb;refine bodyPost_ret (v:=.agg #[.int .u16 x,.int .u16 y,fv]) (by simp[results,results154,go_sem,Dz b8]) rfl ?_;exact AV (K':={ K with T:=T' }) (x:=x) (y:=y) h.lt K0 BA ((Bw.no KW h0.lt).trans M7) (h7) K8 hx hy IZ (J5) (Fb) hb (fun _=>hm)
   ·simp only[ptr];obtain⟨pp,Zm,_⟩:=hW.fl.rend e te;have hmt:=qH Zm;have cM:=fun m=>Yc m W (.int .i64 (pl:Nat))
    gi_wp2_with (first|(gi_at_call 267;refine(cM _).mono ?_;rintro e7 wz ⟨rfl,Kz⟩;obtain⟨w8,Ar,K8,b8⟩:=Af (x:=0) (y:=2) (f:=.nilFunc) (Kz.old (KW.old rb id) id) rfl)|refine Ae rfl _ _ _ rfl rfl rfl Ar ?_);refine TR 0 2 (by simp[results,results154,go_sem,Dz b8]) rfl ?_;exact AV (K':=K) (x:=0) (y:=2) h.lt K0 BA ((Bw.no KW h0.lt).then Kz) (hW.no Kz) K8 (by omega) (by omega) (.inl rfl) hO (Rel.refl b K) hb (fun _=>hm)
   ·simp only[ptr];obtain⟨pp,Zm,_⟩:=hW.fl.Oo e te;have hmt:=qG Zm;have cM:=fun m=>Yc m W (.int .i64 (pl:Nat))
    gi_wp2_with (first|(gi_at_call 267;refine(cM _).mono ?_;rintro e7 wz ⟨rfl,Kz⟩;obtain⟨w8,Ar,K8,b8⟩:=Af (x:=0) (y:=2) (f:=.nilFunc) (Kz.old (KW.old rb id) id) rfl)|refine Ae rfl _ _ _ rfl rfl rfl Ar ?_);refine TR 0 2 (by simp[results,results154,go_sem,Dz b8]) rfl ?_;exact AV (K':=K) (x:=0) (y:=2) h.lt K0 BA ((Bw.no KW h0.lt).then Kz) (hW.no Kz) K8 (by omega) (by omega) (.inl rfl) hO (Rel.refl b K) hb (fun _=>hm)
end
end Go.Fxa
