/- A file with a place: Write. -/
import Derived.Test.YtmhplpfpcnjekaaGreatA27
namespace Go.Fxa
open Conc Proofs RowKit Proofs.Tryz
set_option maxRecDepth 1000000
set_option maxHeartbeats 0
variable {K:KS} {w:o_} {e0 f o n pl L:Nat} {r:PR} {ws:List Nat}
theorem ag7 {α:Type} (a:α):∃l,ag (a=l):=⟨a,show a=a from rfl⟩
def av2 (ct:Nat->Ct) (e0 f:Nat) (ws:List Nat) (pl:Nat):Nat->Ct:=Ag (Ag ct f { ct f with ws:=ws }) e0 { Ag ct f { ct f with ws:=ws } e0 with n:=pl }
def XWf (K:KS) (e0 f:Nat) (r:PR) (o n:Nat):(Nat->Ct)->Nat->Nat->n_->Prop:=λct x y v=>v=.nilFunc/\((64<(K.ct e0).n+n/\ct=K.ct/\x=0/\y=9)\/((K.ct e0).n+n<=64/\((n=0/\ct=K.ct/\x=0/\y=0)\/(n≠0/\((¬K.Gw f (max (K.ct f).ws.length ((K.ct e0).n+n))/\ct=K.ct/\x=0/\y=10)\/(K.Gw f (max (K.ct f).ws.length ((K.ct e0).n+n))/\x=n/\y=0/\ct=av2 K.ct e0 f (RP ((K.ct f).ws++List.replicate ((K.ct e0).n+n-(K.ct f).ws.length) 0) (K.ct e0).n ((r.Af.drop o).take n)) ((K.ct e0).n+n)))))))
theorem XWf.no (b:ag ((K.ct f).ws=ws)) (a:ag ((K.ct e0).n=pl)) (c:¬64<pl+n) (h:¬n=0) (g:L=max ws.length (pl+n)) (d:X0 K w f L false):XWf K e0 f r o n K.ct 0 10 .nilFunc:=by
 unfold ag at b a;subst b a g;exact⟨rfl,.inr ⟨zD,.inr ⟨h,.inl ⟨λe=>by have:=d.2.out.2 e;simp at this,rfl,rfl,rfl⟩⟩⟩⟩
theorem XWf.yes {e k:Nat} {a:List Nat} (d:ag ((K.ct f).ws=ws)) (c:ag ((K.ct e0).n=pl)) (g:¬64<pl+n) (m:¬n=0) (i:L=max ws.length (pl+n)) (h:X0 K w f L true) (l:e=pl+n) (j:k=pl+n-ws.length) (b:ag (a=RP (ws++List.replicate k 0) pl ((r.Af.drop o).take n))):XWf K e0 f r o n (Ag (Ag K.ct f { K.ct f with ws:=a }) e0 { Ag K.ct f { K.ct f with ws:=a } e0 with n:=e }) n 0 .nilFunc:=by
 unfold ag at d c b;subst d c i l j b;exact⟨rfl,.inr ⟨zD,.inr ⟨m,.inr ⟨h.2.out.1 rfl,rfl,rfl,rfl⟩⟩⟩⟩
section
variable (m:Nat) (w:o_)
theorem ς (K:KS) (b e0 f o n:Nat) (r:PR) (v:n_) (h:AV K w) (hb:K.ps b=some r) (hn:r.en=false) (hI:∀z∈r.Af,z<65536) (hL:r.Af.length<=128) (te:K.T e0=(12,f)) (hv:OM r v o n) (hnl:K.nl.length<=1000) (hU:Uniq K.nm K.nl):
  O_ m 279 #[Q_ e0,v] w (RD (XWf K e0 f r o n) K b w):=by
 obtain⟨K0,rb,Cb⟩:=Iw w;have H:=h.no K0;have GV:K.T w.heap.size=(0,0):=h.lt _ (w_ _);obtain⟨dv,rfl,cb7⟩:∃d,v=.slice d n n/\n<=128:=by
  obtain⟨rfl,rfl⟩|⟨g,c,_,rfl,_,_⟩:=hv
  .exact⟨none,rfl,zD⟩
  .exact⟨_,rfl,zD⟩
 obtain⟨he,U,as8⟩:=H.fl.GI e0 f te;obtain⟨u,hf,hu⟩:=H.fl.file f U;obtain⟨j,pJ⟩:∃j,ag ((K.ct e0).n=j):=⟨_,rfl⟩;obtain⟨ws,WE⟩:∃ws,ag ((K.ct f).ws=ws):=⟨_,rfl⟩;rw[pJ.out]at he as8;rw[WE.out]at hu;obtain⟨a,c',rfl,hwc,hw64,hwx,hwn,hws⟩:=hu.shape;have d0:(w.alloc V_).cell? (R_ e0)=some (.pointer (some (S_ K.kb 4))):=(Ah he 0).trans rfl;have d1:(w.alloc V_).cell? (S_ e0 1)=some (Q_ f):=(Ah he 1).trans rfl;have d2:(w.alloc V_).cell? (S_ e0 2)=some (b_ j):=(Ah he 2).trans rfl;have d3:(w.alloc V_).cell? (R_ f)=some (.slice a ws.length c'):=(Ah hf 0).trans rfl;by_cases h64:64<j+n
 .have f1:(64:Int)<(j:Int)+(n:Int):=zD
  gi_enter func279,ntmps279;gi_wp2_with fail;gi_wp2_with (first|(gi_at_call 273;refine(fw8 9 rb _).mono ?_;rintro e wz ⟨rfl,C,w8,X,Z,b8⟩)|refine EX X ?_);refine T_ 0 9 (by simp[results,results279,go_sem,FI b8]) rfl ?_;exact Dp (T':=K.T) (ct:=K.ct) (x:=0) (y:=9) h.lt K0 Cb (((BN.no (Ac.refl No _) H.lt)).then C) ((H).no C) Z zD zD (.inl rfl) ⟨rfl,.inl ⟨by rw[pJ.out];exact h64,rfl,rfl,rfl⟩⟩
 .have f1:¬(64:Int)<(j:Int)+(n:Int):=zD
  by_cases hz:n=0
  .subst hz;simp only[Int.natCast_zero,Int.add_zero]at f1;gi_enter func279,ntmps279;gi_wp2_with fail;gi_wp2_with (first|(gi_at_call 272;refine(Dk _ _ 0 zD).mono ?_;rintro e wz ⟨rfl,C⟩;obtain⟨w8,X,Z,b8⟩:=AA (x:=0) (y:=0) (f:=.nilFunc) (C.old (rb) id) rfl)|refine EX X ?_);refine T_ 0 0 (by simp[results,results279,go_sem,FI b8]) rfl ?_;exact Dp (T':=K.T) (ct:=K.ct) (x:=0) (y:=0) h.lt K0 Cb (((BN.no (Ac.refl No _) H.lt)).then C) ((H).no C) Z zD zD (.inl rfl) ⟨rfl,.inr ⟨by rw[pJ.out];omega,.inl ⟨rfl,rfl,rfl,rfl⟩⟩⟩
  .have f2:((n:Int)==0)=false:=(by simp;omega);obtain⟨l,hsz'⟩:∃l:Nat,(j:Int)+(n:Int)=(l:Int):=⟨j+n,zD⟩;rw[hsz']at f1;by_cases hmx:j+n<ws.length
   .have f3:(l:Int)<(ws.length:Int):=zD;gi_enter func279,ntmps279;gi_wp2;refine BP 9 88 ?_;have cm:=λm w1 (F:Ac No (w.alloc V_) w1)=>YZ m w1 K f (ws.length) (H.no F) U zD zD
    gi_wp2_with (gi_at_call 281;refine(cm _ _ (Ac.refl No _).drew).mono ?_;rintro e w1 ⟨K1,x,rfl,_⟩);refine Eb ?_ ?_
    .intro W F;have e0':=F.has (w:=(w.alloc V_).drew) d0;have e1':=F.has (w:=(w.alloc V_).drew) d1
     repeat' (refine Au ?_ ?_)
     all_goals first|exact eu|gi_wp2
    .intro W F;have KW:Ac No (w.alloc V_) W:=(Ac.refl No _).drew.then F;gi_wp2_with (gi_at_call 281;refine(cm _ _ KW).mono ?_;rintro e w1 ⟨K1,x,rfl,hG⟩;have A:=KW.then K1;cases x)
     .have h1:=H.no A;gi_wp2_with (first|(gi_at_call 273;refine(fw8 10 (A.old rb id) _).mono ?_;rintro e wz ⟨rfl,C,w8,X,Z,b8⟩)|refine EX X ?_);refine T_ 0 10 (by simp[results,results279,go_sem,FI b8]) rfl ?_;exact Dp (T':=K.T) (ct:=K.ct) (x:=0) (y:=10) h.lt K0 Cb (((BN.no A H.lt)).then C) ((h1).no C) Z zD zD (.inl rfl) (XWf.no WE pJ h64 hz zD hG)
     .have h1:AV K w1.drew:=H.no A.drew;obtain⟨va,Wa,GY,ϸ,⟨aa,ca,hva⟩,hKa⟩:=bw7 (ty:=116) (m:=ws.length-ws.length) (hu.set A.drew (fun _ _=>id)) (w_ 64) zD zD;obtain⟨ϯ,e9⟩ :=ag7 (ws++List.replicate (ws.length-ws.length) 0);rw[e9.out]at ϸ;have ev:((ws.length-ws.length:Nat):Int)=0:=zD;rw[ev]at GY;obtain rfl:va=.slice aa (ws.length) ca:=hva.trans (by congr 1;omega);clear hva;have e0':w1.drew.cell? (R_ e0)=some (.pointer (some (S_ K.kb 4))):=A.has d0;have e1:w1.drew.cell? (S_ e0 1)=some (Q_ f):=A.has d1;have e2:w1.drew.cell? (S_ e0 2)=some (b_ j):=A.has d2;have e3:w1.drew.cell? (R_ f)=some (.slice a ws.length c'):=A.has d3;have dH:=qy _ _ e1;have lf2:=qy _ _ e3;refine Dl (P:=prog) _ rfl rfl sJ 22 88 [0,1,2,3,4,5,6,7,8,9,10,11,12,13,14,15,16,17,18,19,20] [21] sJ (by rfl)
       (Oa (On K.T λt=>t=(15,f)) w1.drew 21 (λv W=>Uc K.T w1.drew f 64 ϯ v W/\∃a' c',v=.slice a' (ws.length) c') []) (F7 zF zF) _ _ rfl rfl ?_;gi_wp2_with (refine Cj rfl (.tmp 53) (.tmp 63) _ rfl rfl rfl GY ?_);refine⟨rfl,sJ,Em,?_,?_,?_⟩
      .intro L' u W s;have g1:=(s.1.cell (w:=w1.drew) (p:=(S_ e0 1)) dH (by unfold On;rw[te];simp)).trans e1;have g3:=(s.1.cell (w:=w1.drew) (p:=(R_ f)) lf2 (by unfold On;rw[U];simp)).trans e3
       repeat' (refine Au ?_ ?_)
       all_goals first|exact eu|gi_wp2
      .intro i hi L' u W s hLi hu';obtain rfl:i=21:=(by simpa using hi);obtain rfl:=s.2.1 hLi;refine BC rfl λKK Nc=>?_
       show wpListIn NF m prog _ _ _ (Act.put _ (some 64) (u 21)) _;gi_wp2_with (refine Cj rfl (.tmp 53) (.tmp 63) _ rfl rfl rfl GY ?_);exact⟨_,rfl,F8 s zF hKa ⟨ϸ,_,_,rfl⟩⟩
      .intro L' u W s hL';obtain⟨hPw,a3,c3,e21⟩:=s.2.2.1 (hL' 21 zF);show wpListIn NF m prog _ _ _ (Act.put _ (some 64) (u 21)) _;rw[e21];rw[e21]at hPw;have B:=s.1.old (w:=w1.drew) (A.old hf id) (by unfold On;rw[U];simp);have q3:W.cell? (R_ f)=some _:=(Ah B 0).trans rfl;have z3:=BQ B 0;have g1:=(s.1.cell (w:=w1.drew) (p:=(S_ e0 1)) dH (by unfold On;rw[te];simp)).trans e1;have O:e0≠f:=λe=>by rw[e,U]at te;simp at te
       have cm2:¬f=e0:=ik O;obtain⟨T',MT,hwT⟩:=hPw.IX s.1 h1.lt;have L:T' f=(10,0):=MT.tag U zF;have S:T' e0=(12,f):=MT.tag te zF;have Kst:Ac (At f) W (W.setCell (R_ f) (.slice a3 (ws.length) c3)):=(Ac.refl _ _).setCell _ λ_=>rfl
       have aa9:=hwT.set Kst (λg hg e=>by rw[show g=f from e,L]at hg;simp at hg);have s4:=h1.aa1 (by rw[U];simp) (by rw[U];simp) MT (EI.ax (ct:=Ag K.ct f { K.ct f with ws:=ϯ }) (v:=.slice a3 (ws.length) c3) L (Ap B _) (by simpa [Ag]using aa9)) (Xd.grow hG hU (K1.drew) MT B) (λb hb=>ru hb);obtain⟨e,_⟩|⟨g,c9,e,hR9,_,aa8,V⟩:=aa9
       .exfalso;injection e with _ e2;omega
       obtain⟨rfl,hl9,rfl⟩:a3=some (R_ g)/\ws.length=ϯ.length/\c3=c9:=(by injection e with e1 e2 e3;exact⟨e1,e2,e3⟩);have cl4:=hR9.le;have g1':(W.setCell (R_ f) (P_ g (ws.length) c3)).cell? (S_ e0 1)=some (Q_ f):=(Kst.cell (p:=(S_ e0 1)) (qy _ _ g1) O).trans g1;have g2:=(s.1.cell (w:=w1.drew) (p:=(S_ e0 2)) dH (by unfold On;rw[te];simp)).trans e2;have g2':(W.setCell (R_ f) (P_ g (ws.length) c3)).cell? (S_ e0 2)=some (b_ j):=(Kst.cell (p:=(S_ e0 2)) (qy _ _ g2) O).trans g2;have g3':(W.setCell (R_ f) (P_ g (ws.length) c3)).cell? (R_ f)=some (P_ g (ws.length) c3):=(Ah (Ap B _) 0).trans zF;have LC:BN K.T T' (w.alloc V_) _:=(BN.no A.drew H.lt).trans s4.2;have fc:¬c3=j:=zD;have fpl:¬((ws.length:Nat):Int)<(j:Int):=zD;have cp:∀WX,Ac No (W.setCell (R_ f) (P_ g (ws.length) c3)) WX->∃E q,(Builtin.copy_ #[116,116] 3 #[.slice (some (S_ g j)) (ws.length-j) (c3-j),.slice dv n n]).run prog WX=.ok (goInt (n:Nat)) E/\Ac (At g) WX E/\Rw 123 1 E g (ws.length) c3 (Az q)/\q.length=ws.length/\(∀x∈q,x<65536)/\ag (q=RP (ws++List.replicate (ws.length-ws.length) 0) j ((r.Af.drop o).take n)):=λWX I=>by
        have hX:=AV.no s4.1 I
        obtain⟨ys,R,hyx,hyd,hye⟩:=OM.words hX hb hn hI hv n (w_ n)
        obtain⟨ad,rfl,hys⟩:=hyd.resolve_left hz
        have G:Nat.min n (ws.length-j)=n:=Nat.min_eq_left zD
        obtain⟨E,hr,F,Ir⟩:=UH (ty:=3) (IQ:=ws.length-j) (Hu:=c3-j) (CV:=n) (sCap:=n) (o:=j) (Rw.keep hR9 I id) rfl hys (by rw[G];exact R) (by rw[R];omega)
        rw[G]at hr
        have hlen:(ϯ.take j++ys++ϯ.drop (j+ys.length)).length=ws.length:=by simp only[jR,ed,List.length_drop,R];omega
        refine⟨E,_,hr,F,by simpa only[hl9]using Ir,hlen,λx D=>?_,(by show _=RP _ _ _;rw[<-hye.out,e9.out];rfl)⟩
        obtain D|D:=gJ.1 D
        .obtain D|D:=gJ.1 D
         .exact aa8 x (List.mem_of_mem_take D)
         .exact hyx x D
        .exact aa8 x (List.mem_of_mem_drop D)
       clear hl9 e;gi_wp2;generalize hW9:W.setCell (R_ f) (P_ g (ws.length) c3)=J at*;obtain⟨WY0,ws0,cm5,_,_⟩:=cp J.drew (Ac.refl No J).drew;refine BP 13 88 ?_;gi_wp2;refine Eb ?_ ?_
       .intro W2 Y;have k1:=Y.has (w:=J.drew) g1';have k2:=Y.has (w:=J.drew) g2';have k3:=Y.has (w:=J.drew) g3'
        repeat' (refine Au ?_ ?_)
        all_goals first|exact eu|gi_wp2
       .intro W2 Y;have I:Ac No J W2:=(Ac.refl No J).drew.then Y;obtain⟨E,q,hcp,N,hRY,Q,hxY,bm2⟩:=cp W2 I;have M:=AV.no s4.1 I;have hgf:g≠f:=λe=>by rw[e,L]at V;simp at V
        have hge:g≠e0:=λe=>by rw[e,S]at V;simp at V
        obtain⟨vf,hfX,_⟩:=M.fl.file f L;obtain⟨pn,heX⟩:∃pn:Nat,W2.heap[e0]?=some (N_ #[.pointer (some (S_ K.kb 4)),ptr f,b_ pn] 339):=⟨_,(M.fl.GI e0 f S).1⟩;have k3:=I.has g3';have ek:vf=P_ g (ws.length) c3:=by
         have:=(Ah hfX 0).symm.trans k3
         simpa using this
        subst ek;have s5:=AV.jO (b0:=f) (Qe:=Ag K.ct f { K.ct f with ws:=q }) M N (λk hk=>by rw[show k=g from hk];exact .inr V) (by show 10<=(T' f).1;rw[L];simp) (by show(T' f).1<15;rw[L];simp) (EI.ax (T:=T') L (N.old hfX (ik hgf)) (by show RU T' E f 64 _ (Ag K.ct f { K.ct f with ws:=q } f).ws;simp only[Ag,if_true];exact .inr ⟨g,c3,by rw[Q],by rw[Q];exact hRY,by rw[Q];omega,hxY,V⟩)) (λb hb=>(ru hb).trans (ru hb).symm) (λ_ e=>hgf (show f=g from e).symm);have heY:=N.old heX (ik hge);have kz:=BQ heY 2;have kq:E.cell? (S_ e0 2)=some (b_ pn):=(Ah heY 2).trans rfl;have s6:=AV.place (n:=l) s5.1 S zD;gi_wp2_with fail;have xw:BN K.T T' (w.alloc V_) _:=((LC.then I).trans s5.2).trans s6.2;gi_wp2_with (first|(gi_at_call 272;refine(Dk _ _ n zD).mono ?_;rintro e wz ⟨rfl,C⟩;obtain⟨w8,X,Z,b8⟩:=AA (x:=n) (y:=0) (f:=.nilFunc) (C.old (xw.old rb GV) id) rfl)|refine EX X ?_);refine T_ n 0 (by simp[results,results279,go_sem,FI b8]) rfl ?_;exact Dp (T':=T') (x:=n) (y:=0) h.lt K0 Cb ((xw).then C) ((s6.1).no C) Z zD zD (.inl rfl) (XWf.yes WE pJ h64 hz zD hG zD zD bm2)
   .have f3:¬(l:Int)<(ws.length:Int):=zD;gi_enter func279,ntmps279;gi_wp2;refine BP 9 88 ?_;have cm:=λm w1 (F:Ac No (w.alloc V_) w1)=>YZ m w1 K f (l) (H.no F) U zD zD
    gi_wp2_with (gi_at_call 281;refine(cm _ _ (Ac.refl No _).drew).mono ?_;rintro e w1 ⟨K1,x,rfl,_⟩);refine Eb ?_ ?_
    .intro W F;have e0':=F.has (w:=(w.alloc V_).drew) d0;have e1':=F.has (w:=(w.alloc V_).drew) d1
     repeat' (refine Au ?_ ?_)
     all_goals first|exact eu|gi_wp2
    .intro W F;have KW:Ac No (w.alloc V_) W:=(Ac.refl No _).drew.then F;gi_wp2_with (gi_at_call 281;refine(cm _ _ KW).mono ?_;rintro e w1 ⟨K1,x,rfl,hG⟩;have A:=KW.then K1;cases x)
     .have h1:=H.no A;gi_wp2_with (first|(gi_at_call 273;refine(fw8 10 (A.old rb id) _).mono ?_;rintro e wz ⟨rfl,C,w8,X,Z,b8⟩)|refine EX X ?_);refine T_ 0 10 (by simp[results,results279,go_sem,FI b8]) rfl ?_;exact Dp (T':=K.T) (ct:=K.ct) (x:=0) (y:=10) h.lt K0 Cb (((BN.no A H.lt)).then C) ((h1).no C) Z zD zD (.inl rfl) (XWf.no WE pJ h64 hz zD hG)
     .have h1:AV K w1.drew:=H.no A.drew;obtain⟨va,Wa,GY,ϸ,⟨aa,ca,hva⟩,hKa⟩:=bw7 (ty:=116) (m:=l-ws.length) (hu.set A.drew (fun _ _=>id)) (w_ 64) zD zD;obtain⟨ϯ,e9⟩ :=ag7 (ws++List.replicate (l-ws.length) 0);rw[e9.out]at ϸ;have ev:((l-ws.length:Nat):Int)=(l:Int)-ws.length:=zD;rw[ev]at GY;obtain rfl:va=.slice aa (l) ca:=hva.trans (by congr 1;omega);clear hva;have e0':w1.drew.cell? (R_ e0)=some (.pointer (some (S_ K.kb 4))):=A.has d0;have e1:w1.drew.cell? (S_ e0 1)=some (Q_ f):=A.has d1;have e2:w1.drew.cell? (S_ e0 2)=some (b_ j):=A.has d2;have e3:w1.drew.cell? (R_ f)=some (.slice a ws.length c'):=A.has d3;have dH:=qy _ _ e1;have lf2:=qy _ _ e3;refine Dl (P:=prog) _ rfl rfl sJ 22 88 [0,1,2,3,4,5,6,7,8,9,10,11,12,13,14,15,16,17,18,19,20] [21] sJ (by rfl)
       (Oa (On K.T λt=>t=(15,f)) w1.drew 21 (λv W=>Uc K.T w1.drew f 64 ϯ v W/\∃a' c',v=.slice a' (l) c') []) (F7 zF zF) _ _ rfl rfl ?_;gi_wp2_with (refine Cj rfl (.tmp 53) (.tmp 63) _ rfl rfl rfl GY ?_);refine⟨rfl,sJ,Em,?_,?_,?_⟩
      .intro L' u W s;have g1:=(s.1.cell (w:=w1.drew) (p:=(S_ e0 1)) dH (by unfold On;rw[te];simp)).trans e1;have g3:=(s.1.cell (w:=w1.drew) (p:=(R_ f)) lf2 (by unfold On;rw[U];simp)).trans e3
       repeat' (refine Au ?_ ?_)
       all_goals first|exact eu|gi_wp2
      .intro i hi L' u W s hLi hu';obtain rfl:i=21:=(by simpa using hi);obtain rfl:=s.2.1 hLi;refine BC rfl λKK Nc=>?_
       show wpListIn NF m prog _ _ _ (Act.put _ (some 64) (u 21)) _;gi_wp2_with (refine Cj rfl (.tmp 53) (.tmp 63) _ rfl rfl rfl GY ?_);exact⟨_,rfl,F8 s zF hKa ⟨ϸ,_,_,rfl⟩⟩
      .intro L' u W s hL';obtain⟨hPw,a3,c3,e21⟩:=s.2.2.1 (hL' 21 zF);show wpListIn NF m prog _ _ _ (Act.put _ (some 64) (u 21)) _;rw[e21];rw[e21]at hPw;have B:=s.1.old (w:=w1.drew) (A.old hf id) (by unfold On;rw[U];simp);have q3:W.cell? (R_ f)=some _:=(Ah B 0).trans rfl;have z3:=BQ B 0;have g1:=(s.1.cell (w:=w1.drew) (p:=(S_ e0 1)) dH (by unfold On;rw[te];simp)).trans e1;have O:e0≠f:=λe=>by rw[e,U]at te;simp at te
       have cm2:¬f=e0:=ik O;obtain⟨T',MT,hwT⟩:=hPw.IX s.1 h1.lt;have L:T' f=(10,0):=MT.tag U zF;have S:T' e0=(12,f):=MT.tag te zF;have Kst:Ac (At f) W (W.setCell (R_ f) (.slice a3 (l) c3)):=(Ac.refl _ _).setCell _ λ_=>rfl
       have aa9:=hwT.set Kst (λg hg e=>by rw[show g=f from e,L]at hg;simp at hg);have s4:=h1.aa1 (by rw[U];simp) (by rw[U];simp) MT (EI.ax (ct:=Ag K.ct f { K.ct f with ws:=ϯ }) (v:=.slice a3 (l) c3) L (Ap B _) (by simpa [Ag]using aa9)) (Xd.grow hG hU (K1.drew) MT B) (λb hb=>ru hb);obtain⟨e,_⟩|⟨g,c9,e,hR9,_,aa8,V⟩:=aa9
       .exfalso;injection e with _ e2;omega
       obtain⟨rfl,hl9,rfl⟩:a3=some (R_ g)/\l=ϯ.length/\c3=c9:=(by injection e with e1 e2 e3;exact⟨e1,e2,e3⟩);have cl4:=hR9.le;have g1':(W.setCell (R_ f) (P_ g (l) c3)).cell? (S_ e0 1)=some (Q_ f):=(Kst.cell (p:=(S_ e0 1)) (qy _ _ g1) O).trans g1;have g2:=(s.1.cell (w:=w1.drew) (p:=(S_ e0 2)) dH (by unfold On;rw[te];simp)).trans e2;have g2':(W.setCell (R_ f) (P_ g (l) c3)).cell? (S_ e0 2)=some (b_ j):=(Kst.cell (p:=(S_ e0 2)) (qy _ _ g2) O).trans g2;have g3':(W.setCell (R_ f) (P_ g (l) c3)).cell? (R_ f)=some (P_ g (l) c3):=(Ah (Ap B _) 0).trans zF;have LC:BN K.T T' (w.alloc V_) _:=(BN.no A.drew H.lt).trans s4.2;have fc:¬c3=j:=zD;have fpl:¬((l:Nat):Int)<(j:Int):=zD;have cp:∀WX,Ac No (W.setCell (R_ f) (P_ g (l) c3)) WX->∃E q,(Builtin.copy_ #[116,116] 3 #[.slice (some (S_ g j)) (l-j) (c3-j),.slice dv n n]).run prog WX=.ok (goInt (n:Nat)) E/\Ac (At g) WX E/\Rw 123 1 E g (l) c3 (Az q)/\q.length=l/\(∀x∈q,x<65536)/\ag (q=RP (ws++List.replicate (l-ws.length) 0) j ((r.Af.drop o).take n)):=λWX I=>by
        have hX:=AV.no s4.1 I
        obtain⟨ys,R,hyx,hyd,hye⟩:=OM.words hX hb hn hI hv n (w_ n)
        obtain⟨ad,rfl,hys⟩:=hyd.resolve_left hz
        have G:Nat.min n (l-j)=n:=Nat.min_eq_left zD
        obtain⟨E,hr,F,Ir⟩:=UH (ty:=3) (IQ:=l-j) (Hu:=c3-j) (CV:=n) (sCap:=n) (o:=j) (Rw.keep hR9 I id) rfl hys (by rw[G];exact R) (by rw[R];omega)
        rw[G]at hr
        have hlen:(ϯ.take j++ys++ϯ.drop (j+ys.length)).length=l:=by simp only[jR,ed,List.length_drop,R];omega
        refine⟨E,_,hr,F,by simpa only[hl9]using Ir,hlen,λx D=>?_,(by show _=RP _ _ _;rw[<-hye.out,e9.out];rfl)⟩
        obtain D|D:=gJ.1 D
        .obtain D|D:=gJ.1 D
         .exact aa8 x (List.mem_of_mem_take D)
         .exact hyx x D
        .exact aa8 x (List.mem_of_mem_drop D)
       clear hl9 e;gi_wp2;generalize hW9:W.setCell (R_ f) (P_ g (l) c3)=J at*;obtain⟨WY0,ws0,cm5,_,_⟩:=cp J.drew (Ac.refl No J).drew;refine BP 13 88 ?_;gi_wp2;refine Eb ?_ ?_
       .intro W2 Y;have k1:=Y.has (w:=J.drew) g1';have k2:=Y.has (w:=J.drew) g2';have k3:=Y.has (w:=J.drew) g3'
        repeat' (refine Au ?_ ?_)
        all_goals first|exact eu|gi_wp2
       .intro W2 Y;have I:Ac No J W2:=(Ac.refl No J).drew.then Y;obtain⟨E,q,hcp,N,hRY,Q,hxY,bm2⟩:=cp W2 I;have M:=AV.no s4.1 I;have hgf:g≠f:=λe=>by rw[e,L]at V;simp at V
        have hge:g≠e0:=λe=>by rw[e,S]at V;simp at V
        obtain⟨vf,hfX,_⟩:=M.fl.file f L;obtain⟨pn,heX⟩:∃pn:Nat,W2.heap[e0]?=some (N_ #[.pointer (some (S_ K.kb 4)),ptr f,b_ pn] 339):=⟨_,(M.fl.GI e0 f S).1⟩;have k3:=I.has g3';have ek:vf=P_ g (l) c3:=by
         have:=(Ah hfX 0).symm.trans k3
         simpa using this
        subst ek;have s5:=AV.jO (b0:=f) (Qe:=Ag K.ct f { K.ct f with ws:=q }) M N (λk hk=>by rw[show k=g from hk];exact .inr V) (by show 10<=(T' f).1;rw[L];simp) (by show(T' f).1<15;rw[L];simp) (EI.ax (T:=T') L (N.old hfX (ik hgf)) (by show RU T' E f 64 _ (Ag K.ct f { K.ct f with ws:=q } f).ws;simp only[Ag,if_true];exact .inr ⟨g,c3,by rw[Q],by rw[Q];exact hRY,by rw[Q];omega,hxY,V⟩)) (λb hb=>(ru hb).trans (ru hb).symm) (λ_ e=>hgf (show f=g from e).symm);have heY:=N.old heX (ik hge);have kz:=BQ heY 2;have kq:E.cell? (S_ e0 2)=some (b_ pn):=(Ah heY 2).trans rfl;have s6:=AV.place (n:=l) s5.1 S zD;gi_wp2_with fail;have xw:BN K.T T' (w.alloc V_) _:=((LC.then I).trans s5.2).trans s6.2;gi_wp2_with (first|(gi_at_call 272;refine(Dk _ _ n zD).mono ?_;rintro e wz ⟨rfl,C⟩;obtain⟨w8,X,Z,b8⟩:=AA (x:=n) (y:=0) (f:=.nilFunc) (C.old (xw.old rb GV) id) rfl)|refine EX X ?_);refine T_ n 0 (by simp[results,results279,go_sem,FI b8]) rfl ?_;exact Dp (T':=T') (x:=n) (y:=0) h.lt K0 Cb ((xw).then C) ((s6.1).no C) Z zD zD (.inl rfl) (XWf.yes WE pJ h64 hz zD hG zD zD bm2)
theorem gV (K:KS) (i:Nat) (v:n_) (c:i<20) (b:w.cell? (S_ K.kb (21+i*2))=some v):
  O_ m 203 #[.pointer (some (S_ K.kb 21)),b_ (i:Nat)] w λe w'=>Ac No w w'/\e=.returned v:=by
 have a:(i:Int)<20:=zD
 gi_enter func203,ntmps203;gi_wp2;go_ret;exact⟨Ac.refl _ _,zF⟩
end
section
variable (pb ib c L n a m:Nat) (w:o_)
theorem aU (d:w.cell? (S_ pb 8)=some (P_ ib L c)) (i:1<=n) (b:n<65536) (g:a<65536) (h:¬a+n<=L):
  O_ m 138 #[.pointer (some (S_ pb 5)),a_ a,b_ n] w λe w'=>e=.returned (.tuple #[.slice none 0 0,.bool false])/\w'=w:=by
 gi_enter func138,ntmps138;gi_wp2;go_ret2;exact⟨zF,rfl⟩
end
def XFd (K:KS) (r:PR) (fd:Nat) (X7:Nat->Nat->KS->Nat->Nat->n_->Prop) (Xr Xw:Nat->KS->Nat->Nat->n_->Prop):KS->Nat->Nat->n_->Prop:=λK' x y f=>(r.has fd=false/\GU K 2 K' x y f)\/∃i:Nat,r.fds[fd]?=some (i:Int)/\i<20/\((∃e g,K.tv i=.iface 337 (ptr e)/\K.T e=(12,g)/\X7 e g K' x y f)\/(∃e,K.tv i=.iface 330 (ptr e)/\K.T e=(13,0)/\Xr e K' x y f)\/∃e,K.tv i=.iface 334 (ptr e)/\K.T e=(14,0)/\Xw e K' x y f)
def aC (K:KS) (r:PR) (fd pl:Nat):KS->Nat->Nat->n_->Prop:=XFd K r fd (λe _ K' x y f=>∃T' ct,XSk K e pl ct x y f/\K'={ K with T:=T',ct:=ct }) (λ_=>GU K 2) (λ_=>GU K 2)
section
variable (m:Nat) (w:o_)
theorem ax6 (K:KS) (NC NS b fd pl:Nat) (r:PR) (h:AV K w) (hO:Eo NC NS K) (hm:b∈K.Aw) (hb:K.ps b=some r) (hn:r.en=false) (hfd:fd<65536) (hpl:pl<65536):
  O_ m 154 #[Q_ K.kb,Q_ b,a_ (fd:Nat),a_ (pl:Nat)] w (FO (aC K r fd pl) NC NS b K w):=by
 have o:=hO.pr b r hb;obtain⟨B,I,G⟩:=Iw w;have A:=h.no B;have GV:K.T w.heap.size=(0,0):=h.lt _ (w_ _);have ch:=λm w1 (a:Ac No (w.alloc V_) w1)=>XV m w1 K b fd r (A.no a) hb hn hfd
 gi_enter func154,ntmps154;gi_wp2_with fail;generalize hw0:w.alloc V_=J at*;gi_wp2_with (gi_at_call 202;refine(ch _ _ (Ac.refl No J)).mono ?_;rintro e w1 ⟨K1,xh,rfl,S,U⟩;cases xh)
 .have KK:=((Ac.refl No J)).then K1;gi_wp2_with (first|(gi_at_call 140;refine(TI 2 (KK.old I id) _).mono ?_;rintro e Z ⟨rfl,k,Y,n,p,q⟩)|refine EX n ?_);refine T_ 0 2 (by simp[results,results154,go_sem,FI q]) rfl ?_;exact BV h hO hm hb B G (KK.then k) p wB wB (.inl ⟨U.out.symm,GU.of⟩)
 .have KK:=((Ac.refl No J)).then K1;obtain⟨nd,s,Cm⟩:=S (by first|rfl|trivial);obtain⟨i,rfl,t⟩:=(o.fd nd (t_ s)).resolve_left Cm;obtain⟨hd,_⟩:=hO.close hm hb hn t s;have M:=A.no KK;obtain⟨g,c,q9,N,tg,as9⟩:=M.pX hb hn;have hfl:=(KT.1 s).1;have f1:(fd:Int)<(r.fds.length:Int):=zD
  have d:=N.OZ rfl s;obtain⟨X,F,_,_,R⟩:=M.ϻ t;have V:ag (K.tv i=X):=x_ ((M.au2 t).symm.trans F);have AZ:=R hd;have cg:=λm W (a:Ac No w1 W)=>gV m W K i X t (a.has F)
  refine CG (P:=prog) No _ rfl rfl sJ 13 28 [0,1,2,3,4,5,6,7,8,9,11,12] [10] sJ (by rfl) (λ_ v _=>v=X) (λ_ _ _ _ _ h _=>h) _ _ rfl rfl ?_;gi_wp2;refine⟨rfl,sJ,?_,?_,?_⟩
  .intro W a;have d9:=a.has (w:=w1.drew) q9;have dd:=a.has (w:=w1.drew) d
   repeat' (refine Au ?_ ?_)
   all_goals first|exact eu|gi_wp2
  .intro j hj u W a _;obtain rfl:j=10:=(by simpa using hj);refine BC rfl λKK2 bv0=>?_
   show wpListIn NF m prog _ _ _ (Act.put _ (some 24) (u 10)) _;gi_wp2_with (gi_at_call 203;refine(cg _ W ((Ac.refl No w1).drew.then a)).mono ?_;rintro e w2 ⟨K2,rfl⟩);exact⟨_,rfl,K2,rfl⟩
  .intro u W a Q;have Q:=Q 10 zF;show wpListIn NF m prog _ _ _ (Act.put _ (some 24) (u 10)) _;rw[Q];have KW:Ac No J W:=KK.then ((Ac.refl No w1).drew.then a);have D:=A.no KW;obtain⟨e,⟨rfl,f,l,_⟩|⟨rfl,l,_⟩|⟨rfl,l,_⟩⟩:=AZ
   .simp only[ptr];have E:=am7 e;have C:=λm=>al6 m W K b e f pl D l hpl
    gi_wp2_with (first|(gi_at_call 278;refine(C _).mono ?_;rintro e7 Z TZ;obtain⟨L,ct,x,y,fv,rfl,S,hy,Pv,h7,M7,O⟩:=TZ;obtain⟨Y,n,p,q⟩:=AA (x:=x) (y:=y) (f:=fv) (M7.old (KW.old I id) GV) Pv.one)|refine EX n ?_);obtain⟨RS,Ir⟩:=hO.fds (K1:={ K with T:=L,ct:=ct }) (r':=r) (H:=BM K.ps K.Aw) ⟨rfl⟩ hm hb rfl rfl rfl rfl rfl o ⟨hO.Ef.ho,hO.Ef.le,hO.Ef.op,hO.Ef.nd,hO.Ef.nz,hO.Ef.nm,hO.Ef.dj⟩ λi _=>rfl
    rw[Fj (K:={ K with T:=L,ct:=ct }) hb]at RS Ir;refine bodyPost_ret (v:=.agg #[a_ x,a_ y,fv]) (by simp[results,results154,go_sem,FI q]) rfl ?_;exact BB (K':={ K with T:=L,ct:=ct }) (x:=x) (y:=y) h.lt B G ((BN.no KW A.lt).trans M7) (h7) p S hy Pv (RS) (Ir) hb (λ_=>hm) (.inr ⟨i,s,t,.inl ⟨e,f,V,l,_,_,O,rfl⟩⟩)
   .simp only[ptr];obtain⟨z,_⟩:=D.fl.rend e l;have E:=am9 z;have C:=λm=>lX m W (b_ (pl:Nat))
    gi_wp2_with (first|(gi_at_call 267;refine(C _).mono ?_;rintro e7 Z ⟨rfl,k⟩;obtain⟨Y,n,p,q⟩:=AA (x:=0) (y:=2) (f:=.nilFunc) (k.old (KW.old I id) id) rfl)|refine EX n ?_);refine T_ 0 2 (by simp[results,results154,go_sem,FI q]) rfl ?_;exact BB (K':=K) (x:=0) (y:=2) h.lt B G ((BN.no KW A.lt).then k) (D.no k) p zD zD (.inl rfl) hO (Rel.refl b K) hb (λ_=>hm) (.inr ⟨i,s,t,.inr (.inl ⟨e,V,l,GU.of⟩)⟩)
   .simp only[ptr];obtain⟨z,_⟩:=D.fl.TM e l;have E:=am8 z;have C:=λm=>lX m W (b_ (pl:Nat))
    gi_wp2_with (first|(gi_at_call 267;refine(C _).mono ?_;rintro e7 Z ⟨rfl,k⟩;obtain⟨Y,n,p,q⟩:=AA (x:=0) (y:=2) (f:=.nilFunc) (k.old (KW.old I id) id) rfl)|refine EX n ?_);refine T_ 0 2 (by simp[results,results154,go_sem,FI q]) rfl ?_;exact BB (K':=K) (x:=0) (y:=2) h.lt B G ((BN.no KW A.lt).then k) (D.no k) p zD zD (.inl rfl) hO (Rel.refl b K) hb (λ_=>hm) (.inr ⟨i,s,t,.inr (.inr ⟨e,V,l,GU.of⟩)⟩)
end
def aF (K:KS) (b:Nat) (r:PR) (fd at_ n:Nat):KS->Nat->Nat->n_->Prop:=λK' x y f=>(¬(n=0\/at_+n<=r.Af.length)/\GU K 1 K' x y f)\/((n=0\/at_+n<=r.Af.length)/\XFd K r fd (λe g K' x y f=>∃Af ct,XRf K e g r at_ n Af ct x y f/\K'=KS.Bi { K with ct:=ct } b { r with Af:=Af }) (λe K' x y f=>∃Af ct,XRd K (K.ct e).n r at_ n Af ct x y f/\K'=KS.Bi { K with ct:=ct } b { r with Af:=Af }) (λ_=>GU K 2) K' x y f)
theorem YE {b at_ gi ci:Nat} (l:w.cell? (S_ b 8)=some (P_ gi r.Af.length ci)) (g:r.im=P_ gi r.Af.length ci) (d:at_<65536) (k:r.Af.length<=128) (j:r.Af.length<=ci) (i:n=0\/at_+n<=r.Af.length):∃h,OM r h at_ n/\∀m,O_ m 138 #[.pointer (some (S_ b 5)),a_ at_,b_ n] w λe w'=>e=.returned (.tuple #[h,.bool true])/\w'=w:=by
 by_cases c:n=0
 .subst c;exact⟨.slice none 0 0,.inl ⟨rfl,rfl⟩,λm=>Tn b at_ m w⟩
 .have a:=i.resolve_left c;exact⟨.slice (some (S_ gi at_)) n n,.inr ⟨gi,ci,g,rfl,zD,a⟩,λm=>Gh b gi ci r.Af.length n at_ m w l zD d k j a⟩
section
variable (m:Nat) (w:o_)
theorem ay9 (K:KS) (NC NS b fd at_ n:Nat) (r:PR) (h:AV K w) (hO:Eo NC NS K) (hm:b∈K.Aw) (hb:K.ps b=some r) (hn:r.en=false) (hfd:fd<65536) (hat:at_<65536) (hnn:n<65536):
  O_ m 146 #[Q_ K.kb,Q_ b,a_ (fd:Nat),a_ (at_:Nat),a_ (n:Nat)] w (FO (aF K b r fd at_ n) NC NS b K w):=by
 have o:=hO.pr b r hb;have hL:=(hO.co.pl b r hb).1;have hI:=o.Af;obtain⟨G,U,H⟩:=Iw w;have z:=h.no G;have GV:K.T w.heap.size=(0,0):=h.lt _ (w_ _);have ch:=λm w1 (a:Ac No (w.alloc V_) w1)=>XV m w1 K b fd r (z.no a) hb hn hfd
 obtain⟨gi,ci,q8,hRi,xn,him⟩:=z.jm hb hn;have VN:=hRi.le;by_cases q:n=0\/at_+n<=r.Af.length
 .obtain⟨dv,O,cw⟩:=YE (b:=b) q8 him hat hL VN q
  replace q:ag _:=q
  gi_enter func146,ntmps146;gi_wp2_with (gi_at_call 138;refine(cw _).mono ?_;rintro e w1 ⟨rfl,F⟩;have F:=F.symm;subst F;generalize hw0:w.alloc V_=V at *);gi_wp2_with (gi_at_call 202;refine(ch _ _ (Ac.refl No V)).mono ?_;rintro e w1 ⟨K1,xh,rfl,S,hxe⟩;cases xh)
  .have KK:=((Ac.refl No V)).then K1;gi_wp2_with (first|(gi_at_call 140;refine(TI 2 (KK.old U id) _).mono ?_;rintro e Z ⟨rfl,t,Y,k,l,p⟩)|refine EX k ?_);refine T_ 0 2 (by simp[results,results146,go_sem,FI p]) rfl ?_;exact BV h hO hm hb G H (KK.then t) l wB wB (.inr ⟨q.out,.inl ⟨hxe.out.symm,GU.of⟩⟩)
  .have KK:=((Ac.refl No V)).then K1;obtain⟨nd,D,Cm⟩:=S (by first|rfl|trivial);obtain⟨i,rfl,E⟩:=(o.fd nd (t_ D)).resolve_left Cm;obtain⟨hd,_⟩:=hO.close hm hb hn E D;have h1:=z.no KK;obtain⟨g,c,q9,hRw,tg,as9⟩:=h1.pX hb hn;have hfl:=(KT.1 D).1;have f1:(fd:Int)<(r.fds.length:Int):=zD;have d:=hRw.OZ rfl D;obtain⟨vv,R,_,_,hv4⟩:=h1.ϻ E;have jq:ag (K.tv i=vv):=x_ ((h1.au2 E).symm.trans R);have AZ:=hv4 hd;have cg:=λm W (a:Ac No w1 W)=>gV m W K i vv E (a.has R)
   refine CG (P:=prog) No _ rfl rfl sJ 12 44 [0,1,2,3,4,5,6,7,8,9,11] [10] sJ (by rfl) (λ_ v _=>v=vv) (λ_ _ _ _ _ h _=>h) _ _ rfl rfl ?_;gi_wp2;refine⟨rfl,sJ,?_,?_,?_⟩
   .intro W a;have d9:=a.has (w:=w1.drew) q9;have dd:=a.has (w:=w1.drew) d
    repeat' (refine Au ?_ ?_)
    all_goals first|exact eu|gi_wp2
   .intro j hj u W a _;obtain rfl:j=10:=(by simpa using hj);refine BC rfl λKK2 bv0=>?_
    show wpListIn NF m prog _ _ _ (Act.put _ (some 41) (u 10)) _;gi_wp2_with (gi_at_call 203;refine(cg _ W ((Ac.refl No w1).drew.then a)).mono ?_;rintro e w2 ⟨K2,rfl⟩);exact⟨_,rfl,K2,rfl⟩
   .intro u W a hu;have hu:=hu 10 zF;show wpListIn NF m prog _ _ _ (Act.put _ (some 41) (u 10)) _;rw[hu];have KW:Ac No V W:=KK.then ((Ac.refl No w1).drew.then a);have X:=z.no KW;obtain⟨e,⟨rfl,f,s,_⟩|⟨rfl,s,_⟩|⟨rfl,s,_⟩⟩:=AZ
    .simp only[ptr];have Q:=an0 e;have M:=λm=>al7 m W K b e f _ _ r _ X hb hn hI s O
     gi_wp2_with (first|(gi_at_call 277;refine(M _).mono ?_;rintro e7 Z TZ;obtain⟨Af,ct,x,y,N,rfl,S,hy,L,I,Zp,h7,J,C⟩:=TZ;obtain⟨Y,k,l,p⟩:=AA (x:=x) (y:=y) (f:=N) (J.old (KW.old U id) GV) L.one)|refine EX k ?_);obtain⟨RS,Ir⟩:=hO.fds (r':={ r with Af:=Af }) (K1:={ K with ct:=ct }) ⟨rfl⟩ hm hb rfl rfl rfl rfl I ⟨o.A,o.B,o.P,o.st,o.pid,o.par,Zp,o.fds,o.fd,λe=>by simp only[I];exact o.len e,λe=>ql e (by simp[hn])⟩ ⟨hO.Ef.ho,hO.Ef.le,hO.Ef.op,hO.Ef.nd,hO.Ef.nz,hO.Ef.nm,hO.Ef.dj⟩ λi _=>rfl
     refine bodyPost_ret (v:=.agg #[a_ x,a_ y,N]) (by simp[results,results146,go_sem,FI p]) rfl ?_;exact BB (K':=KS.Bi { K with ct:=ct } b { r with Af:=Af }) (x:=x) (y:=y) h.lt G H ((BN.no KW z.lt).trans J) (h7) l S hy L (RS) (Ir) Aj (λ_=>hm) (.inr ⟨q.out,.inr ⟨i,D,E,.inl ⟨e,f,jq,s,_,_,C,rfl⟩⟩⟩)
    .simp only[ptr];have Q:=an2 e;have M:=λm=>al0 m W K b e _ _ r _ X hb hn hI s O
     gi_wp2_with (first|(gi_at_call 266;refine(M _).mono ?_;rintro e7 Z TZ;obtain⟨Af,ct,x,y,N,rfl,S,hy,L,I,Zp,h7,J,C⟩:=TZ;obtain⟨Y,k,l,p⟩:=AA (x:=x) (y:=y) (f:=N) (J.old (KW.old U id) GV) L.one)|refine EX k ?_);obtain⟨RS,Ir⟩:=hO.fds (r':={ r with Af:=Af }) (K1:={ K with ct:=ct }) ⟨rfl⟩ hm hb rfl rfl rfl rfl I ⟨o.A,o.B,o.P,o.st,o.pid,o.par,Zp,o.fds,o.fd,λe=>by simp only[I];exact o.len e,λe=>ql e (by simp[hn])⟩ ⟨hO.Ef.ho,hO.Ef.le,hO.Ef.op,hO.Ef.nd,hO.Ef.nz,hO.Ef.nm,hO.Ef.dj⟩ λi _=>rfl
     refine bodyPost_ret (v:=.agg #[a_ x,a_ y,N]) (by simp[results,results146,go_sem,FI p]) rfl ?_;exact BB (K':=KS.Bi { K with ct:=ct } b { r with Af:=Af }) (x:=x) (y:=y) h.lt G H ((BN.no KW z.lt).trans J) (h7) l S hy L (RS) (Ir) Aj (λ_=>hm) (.inr ⟨q.out,.inr ⟨i,D,E,.inr (.inl ⟨e,jq,s,_,_,C,rfl⟩)⟩⟩)
    .simp only[ptr];obtain⟨hpp,_⟩:=X.fl.TM e s;have Q:=an1 hpp;have M:=λm=>aq6 m W dv
     gi_wp2_with (first|(gi_at_call 274;refine(M _).mono ?_;rintro e7 Z ⟨rfl,t⟩;obtain⟨Y,k,l,p⟩:=AA (x:=0) (y:=2) (f:=.nilFunc) (t.old (KW.old U id) id) rfl)|refine EX k ?_);refine T_ 0 2 (by simp[results,results146,go_sem,FI p]) rfl ?_;exact BB (K':=K) (x:=0) (y:=2) h.lt G H ((BN.no KW z.lt).then t) (X.no t) l zD zD (.inl rfl) hO (Rel.refl b K) hb (λ_=>hm) (.inr ⟨q.out,.inr ⟨i,D,E,.inr (.inr ⟨e,jq,s,GU.of⟩)⟩⟩)
 .have cw:=λm=>aU b gi ci r.Af.length n at_ m (w.alloc V_) q8 zD hnn hat (λh=>q (.inr h))
  gi_enter func146,ntmps146;gi_wp2_with (gi_at_call 138;refine(cw _).mono ?_;rintro e w1 ⟨rfl,F⟩;have F:=F.symm;subst F;generalize hw0:w.alloc V_=V at *);gi_wp2_with (first|(gi_at_call 140;refine(TI 1 U _).mono ?_;rintro e Z ⟨rfl,t,Y,k,l,p⟩)|refine EX k ?_);refine T_ 0 1 (by simp[results,results146,go_sem,FI p]) rfl ?_;exact BV h hO hm hb G H t l wB wB (.inl ⟨zD,GU.of⟩)
end
def Vm (K:KS) (r:PR) (fd at_ n:Nat):KS->Nat->Nat->n_->Prop:=λK' x y f=>(¬(n=0\/at_+n<=r.Af.length)/\GU K 1 K' x y f)\/((n=0\/at_+n<=r.Af.length)/\XFd K r fd (λe g K' x y f=>∃T' ct,XWf K e g r at_ n ct x y f/\K'={ K with T:=T',ct:=ct }) (λ_=>GU K 2) (λe K' x y f=>∃T' ct,XWr K (K.ct e).n r at_ n ct x y f/\K'={ K with T:=T',ct:=ct }) K' x y f)
section
variable (m:Nat) (w:o_)
theorem ai6 (K:KS) (NC NS b fd at_ n:Nat) (r:PR) (h:AV K w) (hO:Eo NC NS K) (hm:b∈K.Aw) (hb:K.ps b=some r) (hn:r.en=false) (hfd:fd<65536) (hat:at_<65536) (hnn:n<65536):
  O_ m 147 #[Q_ K.kb,Q_ b,a_ (fd:Nat),a_ (at_:Nat),a_ (n:Nat)] w (FO (Vm K r fd at_ n) NC NS b K w):=by
 have o:=hO.pr b r hb;have hL:=(hO.co.pl b r hb).1;have hI:=o.Af;have hnl:K.nl.length<=1000:=by have:=hO.Ef.nl;omega
 obtain⟨F,V,G⟩:=Iw w;have A:=h.no F;have GV:K.T w.heap.size=(0,0):=h.lt _ (w_ _);have ch:=λm w1 (a:Ac No (w.alloc V_) w1)=>XV m w1 K b fd r (A.no a) hb hn hfd
 obtain⟨gi,ci,q8,hRi,xn,him⟩:=A.jm hb hn;have VN:=hRi.le;by_cases q:n=0\/at_+n<=r.Af.length
 .obtain⟨dv,Q,cw⟩:=YE (b:=b) q8 him hat hL VN q
  replace q:ag _:=q
  gi_enter func147,ntmps147;gi_wp2_with (gi_at_call 138;refine(cw _).mono ?_;rintro e w1 ⟨rfl,E⟩;have E:=E.symm;subst E;generalize hw0:w.alloc V_=X at *);gi_wp2_with (gi_at_call 202;refine(ch _ _ (Ac.refl No X)).mono ?_;rintro e w1 ⟨K1,xh,rfl,U,hxe⟩;cases xh)
  .have KK:=((Ac.refl No X)).then K1;gi_wp2_with (first|(gi_at_call 140;refine(TI 2 (KK.old V id) _).mono ?_;rintro e wz ⟨rfl,t,Z,k,l,p⟩)|refine EX k ?_);refine T_ 0 2 (by simp[results,results147,go_sem,FI p]) rfl ?_;exact BV h hO hm hb F G (KK.then t) l wB wB (.inr ⟨q.out,.inl ⟨hxe.out.symm,GU.of⟩⟩)
  .have KK:=((Ac.refl No X)).then K1;obtain⟨nd,C,Cm⟩:=U (by first|rfl|trivial);obtain⟨i,rfl,D⟩:=(o.fd nd (t_ C)).resolve_left Cm;obtain⟨hd,_⟩:=hO.close hm hb hn D C;have h1:=A.no KK;obtain⟨g,c,q9,hRw,tg,as9⟩:=h1.pX hb hn;have hfl:=(KT.1 C).1;have f1:(fd:Int)<(r.fds.length:Int):=zD;have d:=hRw.OZ rfl C;obtain⟨vv,S,_,_,hv4⟩:=h1.ϻ D;have jq:ag (K.tv i=vv):=x_ ((h1.au2 D).symm.trans S);have AZ:=hv4 hd;have cg:=λm W (a:Ac No w1 W)=>gV m W K i vv D (a.has S)
   refine CG (P:=prog) No _ rfl rfl sJ 12 44 [0,1,2,3,4,5,6,7,8,9,11] [10] sJ (by rfl) (λ_ v _=>v=vv) (λ_ _ _ _ _ h _=>h) _ _ rfl rfl ?_;gi_wp2;refine⟨rfl,sJ,?_,?_,?_⟩
   .intro W a;have d9:=a.has (w:=w1.drew) q9;have dd:=a.has (w:=w1.drew) d
    repeat' (refine Au ?_ ?_)
    all_goals first|exact eu|gi_wp2
   .intro j hj u W a _;obtain rfl:j=10:=(by simpa using hj);refine BC rfl λKK2 bv0=>?_
    show wpListIn NF m prog _ _ _ (Act.put _ (some 41) (u 10)) _;gi_wp2_with (gi_at_call 203;refine(cg _ W ((Ac.refl No w1).drew.then a)).mono ?_;rintro e w2 ⟨K2,rfl⟩);exact⟨_,rfl,K2,rfl⟩
   .intro u W a hu;have hu:=hu 10 zF;show wpListIn NF m prog _ _ _ (Act.put _ (some 41) (u 10)) _;rw[hu];have KW:Ac No X W:=KK.then ((Ac.refl No w1).drew.then a);have Y:=A.no KW;obtain⟨e,⟨rfl,f,s,_⟩|⟨rfl,s,_⟩|⟨rfl,s,_⟩⟩:=AZ
    .simp only[ptr];have R:=am4 e;have N:=λm=>ς m W K b e f _ _ r _ Y hb hn hI hL s Q hnl ⟨hO.Ef.nd,hO.Ef.nm,hO.Ef.dj⟩
     gi_wp2_with (first|(gi_at_call 279;refine(N _).mono ?_;rintro e7 wz TZ;obtain⟨z,ct,x,y,O,rfl,U,hy,L,h7,J,B⟩:=TZ;obtain⟨Z,k,l,p⟩:=AA (x:=x) (y:=y) (f:=O) (J.old (KW.old V id) GV) L.one)|refine EX k ?_);obtain⟨M,I⟩:=hO.fds (K1:={ K with T:=z,ct:=ct }) (r':=r) (H:=BM K.ps K.Aw) ⟨rfl⟩ hm hb rfl rfl rfl rfl rfl o ⟨hO.Ef.ho,hO.Ef.le,hO.Ef.op,hO.Ef.nd,hO.Ef.nz,hO.Ef.nm,hO.Ef.dj⟩ λi _=>rfl
     rw[Fj (K:={ K with T:=z,ct:=ct }) hb]at M I;refine bodyPost_ret (v:=.agg #[a_ x,a_ y,O]) (by simp[results,results147,go_sem,FI p]) rfl ?_;exact BB (K':={ K with T:=z,ct:=ct }) (x:=x) (y:=y) h.lt F G ((BN.no KW A.lt).trans J) (h7) l U hy L (M) (I) hb (λ_=>hm) (.inr ⟨q.out,.inr ⟨i,C,D,.inl ⟨e,f,jq,s,_,_,B,rfl⟩⟩⟩)
    .simp only[ptr];obtain⟨hpp,_⟩:=Y.fl.rend e s;have R:=am6 hpp;have N:=λm=>ϗ m W dv
     gi_wp2_with (first|(gi_at_call 268;refine(N _).mono ?_;rintro e7 wz ⟨rfl,t⟩;obtain⟨Z,k,l,p⟩:=AA (x:=0) (y:=2) (f:=.nilFunc) (t.old (KW.old V id) id) rfl)|refine EX k ?_);refine T_ 0 2 (by simp[results,results147,go_sem,FI p]) rfl ?_;exact BB (K':=K) (x:=0) (y:=2) h.lt F G ((BN.no KW A.lt).then t) (Y.no t) l zD zD (.inl rfl) hO (Rel.refl b K) hb (λ_=>hm) (.inr ⟨q.out,.inr ⟨i,C,D,.inr (.inl ⟨e,jq,s,GU.of⟩)⟩⟩)
    .simp only[ptr];have R:=am5 e;have N:=λm=>Η m W K b e _ _ r _ Y hb hn hI hL s Q
     gi_wp2_with (first|(gi_at_call 275;refine(N _).mono ?_;rintro e7 wz TZ;obtain⟨z,ct,x,y,O,rfl,U,hy,L,h7,J,B⟩:=TZ;obtain⟨Z,k,l,p⟩:=AA (x:=x) (y:=y) (f:=O) (J.old (KW.old V id) GV) L.one)|refine EX k ?_);obtain⟨M,I⟩:=hO.fds (K1:={ K with T:=z,ct:=ct }) (r':=r) (H:=BM K.ps K.Aw) ⟨rfl⟩ hm hb rfl rfl rfl rfl rfl o ⟨hO.Ef.ho,hO.Ef.le,hO.Ef.op,hO.Ef.nd,hO.Ef.nz,hO.Ef.nm,hO.Ef.dj⟩ λi _=>rfl
     rw[Fj (K:={ K with T:=z,ct:=ct }) hb]at M I;refine bodyPost_ret (v:=.agg #[a_ x,a_ y,O]) (by simp[results,results147,go_sem,FI p]) rfl ?_;exact BB (K':={ K with T:=z,ct:=ct }) (x:=x) (y:=y) h.lt F G ((BN.no KW A.lt).trans J) (h7) l U hy L (M) (I) hb (λ_=>hm) (.inr ⟨q.out,.inr ⟨i,C,D,.inr (.inr ⟨e,jq,s,_,_,B,rfl⟩)⟩⟩)
 .have cw:=λm=>aU b gi ci r.Af.length n at_ m (w.alloc V_) q8 zD hnn hat (λh=>q (.inr h))
  gi_enter func147,ntmps147;gi_wp2_with (gi_at_call 138;refine(cw _).mono ?_;rintro e w1 ⟨rfl,E⟩;have E:=E.symm;subst E;generalize hw0:w.alloc V_=X at *);gi_wp2_with (first|(gi_at_call 140;refine(TI 1 V _).mono ?_;rintro e wz ⟨rfl,t,Z,k,l,p⟩)|refine EX k ?_);refine T_ 0 1 (by simp[results,results147,go_sem,FI p]) rfl ?_;exact BV h hO hm hb F G t l wB wB (.inl ⟨zD,GU.of⟩)
end
end Go.Fxa
