/- A call is served: no argument. -/
import Derived.Test.YtmhplpfpcnjekaaGreatA31
import Derived.Test.YtmhplpfpcnjekaaGreatA32
import Derived.Test.YtmhplpfpcnjekaaGreatA34
import Derived.Test.YtmhplpfpcnjekaaGreatA39
namespace Go.Fxa
open Conc Proofs RowKit Proofs.Tryz
set_option maxRecDepth 1000000
set_option maxHeartbeats 0
def pz (call:Nat):Prop:=¬(call:Int)=1/\¬(call:Int)=2/\¬(call:Int)=3/\¬(call:Int)=4/\¬(call:Int)=5/\¬(call:Int)=6/\¬(call:Int)=7/\¬(call:Int)=8/\¬(call:Int)=9/\¬(call:Int)=10/\¬(call:Int)=11/\¬(call:Int)=12/\¬(call:Int)=13/\¬(call:Int)=14
section
variable (m:Nat) (w:World)
theorem VI (K:KS) (NC NS b call:Nat) (r:PR) (h:AQ K w) (hO:DZ NC NS K) (hm:b∈K.AJ) (hb:K.ps b=some r) (hn:r.en=false) (ca:∀m w,CallsIn NF m prog 139 #[.int .u16 (call:Nat)] w fun e w'=>e=.returned (.int .i64 0)/\w'=w) (hc:call=2\/call=12\/pz call):
  CallsIn NF m prog 96 #[R_ K.kb,R_ b,.int .u16 (call:Nat)] w (ED NC NS b K w):=by
 have o:=hO.pr b r hb;obtain⟨K0,rb,BA⟩:=FU w;have h0:=h.no K0;have E8:K.T w.heap.size=(0,0):=h.lt _ (Nat.le_refl _);obtain⟨gi,ci,q8,Jw,Zc,him⟩:=h0.Uu hb hn;have q5:=h0.FH hb 5;simp[PR.arr]at q5;gi_enter func96,ntmps96;gi_wp2;generalize hw0:w.alloc V_=w0 at*;refine AA (P:=prog) No _ rfl rfl (by kernel_rfl) 15 155 [0,1,2,3,4,5,6,7,8,9,10,11,12,13,14] [] (by kernel_rfl) (by rfl) (fun _ _ _=>True) (fun _ _ _ _ _ h _=>h) _ _ rfl rfl ?_;gi_wp2_with (first|(gi_at_call 139;refine(ca _ w0.drew).mono ?_;rintro e w1 ⟨rfl,rfl⟩)|(gi_at_call 138;refine(Hq b r.A _ w0.drew).mono ?_;rintro e w1 ⟨rfl,rfl⟩));refine⟨rfl,by kernel_rfl,?_,(fun i hi=>absurd hi (by simp)),?_⟩
 ·intro W hK;have d5:=hK.has (w:=w0.drew) q5;have d8:=hK.has (w:=w0.drew) q8
  repeat' (refine Ao ?_ ?_)
  all_goals first|exact trivial|gi_wp2_with (first|(gi_at_call 139;refine(ca _ W).mono ?_;rintro e w1 ⟨rfl,rfl⟩)|(gi_at_call 138;refine(Hq b r.A _ W).mono ?_;rintro e w1 ⟨rfl,rfl⟩))
 ·intro u W hK _;simp only[C9];have KW:Ab No w0 W:=(Ab.refl No w0).drew.then hK;gi_wp2_with fail;refine(Qx _ W).mono ?_;rintro e w1 ⟨rfl,K1⟩;have OU:Ab No w0 w1:=KW.then K1;have xq:=OU.old rb id;clear Jw K1 KW hK q5 q8;rcases hc with rfl|rfl|hc
  ·have cc:=fun m=>vI m w1 K NC NS b r (h0.no OU) hO hm hb hn
   gi_wp2_with (first|(gi_at_call 142;refine(cc _).mono ?_;rintro e w2 ⟨K2,x,y,f,rfl,hx,hy,hf,h2,hO2,I7,M2,r2,FZ,hm2⟩;have V2:=(Bw.no OU h0.lt).trans M2;obtain⟨w8,Ar,K8,b8⟩:=Af (x:=x) (y:=y) (f:=f) (V2.old rb E8) hf.one)|refine Ae rfl _ _ _ rfl rfl rfl Ar ?_);refine bodyPost_ret (v:=.agg #[.int .u16 x,.int .u16 y,f]) (by simp[results,results96,go_sem,Dz b8]) rfl ?_;exact AV (K':=K2) (x:=x) (y:=y) h.lt K0 BA V2 h2 K8 hx hy hf hO2 I7 FZ hm2
  ·have d0:=(h0.no OU).FH hb 0;simp[PR.arr]at d0;have hp:=o.pid;gi_wp2_with (first|(gi_at_call 152;refine(Cr _ _ r.pid (by omega)).mono ?_;rintro e wz ⟨rfl,Kz⟩;obtain⟨w8,Ar,K8,b8⟩:=Af (x:=r.pid) (y:=0) (f:=.nilFunc) (Kz.old (xq) id) rfl)|refine Ae rfl _ _ _ rfl rfl rfl Ar ?_);refine TR r.pid 0 (by simp[results,results96,go_sem,Dz b8]) rfl ?_;exact Br h hO hm hb K0 BA (OU.then Kz) K8 (by omega) (by decide)
  ·obtain⟨n1,n2,n3,n4,n5,n6,n7,n8,n9,n10,n11,n12,n13,n14⟩:=hc;gi_wp2_with (first|(gi_at_call 140;refine(AL _ _ 12).mono ?_;rintro e wz ⟨rfl,Kz⟩;obtain⟨w8,Ar,K8,b8⟩:=Af (x:=0) (y:=12) (f:=.nilFunc) (Kz.old (xq) id) rfl)|refine Ae rfl _ _ _ rfl rfl rfl Ar ?_);refine TR 0 12 (by simp[results,results96,go_sem,Dz b8]) rfl ?_;exact Br h hO hm hb K0 BA (OU.then Kz) K8 (by decide) (by decide)
end
section
variable (m:Nat) (w:World)
theorem J7 (K:KS) (NC NS b call:Nat) (r:PR) (h:AQ K w) (hO:DZ NC NS K) (hm:b∈K.AJ) (hb:K.ps b=some r) (hn:r.en=false) (ca:∀m w,CallsIn NF m prog 139 #[.int .u16 (call:Nat)] w fun e w'=>e=.returned (.int .i64 1)/\w'=w) (hc:call=1\/call=3\/call=4\/call=5\/call=8\/call=9\/call=11\/call=13):
  CallsIn NF m prog 96 #[R_ K.kb,R_ b,.int .u16 (call:Nat)] w (ED NC NS b K w):=by
 have o:=hO.pr b r hb;have hL:=(hO.co.pl b r hb).1;have hA:=o.A;obtain⟨K0,rb,BA⟩:=FU w;have h0:=h.no K0;have E8:K.T w.heap.size=(0,0):=h.lt _ (Nat.le_refl _);obtain⟨gi,ci,q8,Jw,Zc,him⟩:=h0.Uu hb hn;have TF:=Jw.le;have q5:=h0.FH hb 5;simp[PR.arr]at q5;by_cases Dp:r.A+1<=r.Ah.length
 ·obtain⟨a0,i0⟩:∃v,r.Ah[r.A+0]?=some v:=⟨_,HZ (by omega)⟩;have b0:=o.Ah a0 (List.mem_of_getElem? i0);have j0:(w.alloc V_).cell? (T_ gi (r.A+0))=some (.int .u16 (a0:Nat)):=(Jw.cell (by omega)).trans (by rw[Aq,List.getElem?_map,i0];rfl);clear i0;gi_enter func96,ntmps96;gi_wp2;generalize hw0:w.alloc V_=w0 at*;refine AA (P:=prog) No _ rfl rfl (by kernel_rfl) 15 155 [0,1,2,3,4,5,6,7,8,9,10,11,12,13,14] [] (by kernel_rfl) (by rfl) (fun _ _ _=>True) (fun _ _ _ _ _ h _=>h) _ _ rfl rfl ?_;gi_wp2_with (first|(gi_at_call 139;refine(ca _ w0.drew).mono ?_;rintro e w1 ⟨rfl,rfl⟩)|(gi_at_call 138;refine(DN b gi ci r.Ah.length 1 r.A _ w0.drew q8 (by omega) hA hL TF Dp).mono ?_;rintro e w1 ⟨rfl,rfl⟩));refine⟨rfl,by kernel_rfl,?_,(fun i hi=>absurd hi (by simp)),?_⟩
  ·intro W hK;have d5:=hK.has (w:=w0.drew) q5;have d8:=hK.has (w:=w0.drew) q8
   repeat' (refine Ao ?_ ?_)
   all_goals first|exact trivial|gi_wp2_with (first|(gi_at_call 139;refine(ca _ W).mono ?_;rintro e w1 ⟨rfl,rfl⟩)|(gi_at_call 138;refine(DN b gi ci r.Ah.length 1 r.A _ W d8 (by omega) hA hL TF Dp).mono ?_;rintro e w1 ⟨rfl,rfl⟩))
  ·intro u W hK _;simp only[C9];have KW:Ab No w0 W:=(Ab.refl No w0).drew.then hK;gi_wp2_with fail;refine(II _ W (T_ gi r.A) 1 1 [.int .u16 (a0:Nat)] rfl (fun j u hj=>by
    match j,hj with
    | 0,hj=>simp at hj;subst hj;exact KW.has j0
    ) (by simp[Value.oneCell']) (by omega)).mono ?_;rintro e w1 ⟨K1,v,rfl,FX⟩;obtain⟨g,cap,rfl,hR,_⟩:=Nj FX (by omega) (by simp[Value.oneCell']);have OU:Ab No w0 w1:=KW.then K1;have d0:w1.cell? (S_ g)=some (.int .u16 (a0:Nat)):=(hR.cell (by omega)).trans rfl;clear FX Jw hR K1 KW hK q5 q8 j0;rcases hc with rfl|rfl|rfl|rfl|rfl|rfl|rfl|rfl
   ·have cc:=fun m=>oO m w1 K NC NS b a0 r (h0.no OU) hO hm hb hn b0
    gi_wp2_with (first|(gi_at_call 100;refine(cc _).mono ?_;rintro e w2 ⟨rfl,K2,h2,hO2,I7,M2,r2,FZ,hn2⟩;have V2:=(Bw.no OU h0.lt).trans M2;obtain⟨w8,Ar,K8,b8⟩:=Af (x:=a0) (y:=0) (f:=.nilFunc) (V2.old rb E8) rfl)|refine Ae rfl _ _ _ rfl rfl rfl Ar ?_);refine TR a0 0 (by simp[results,results96,go_sem,Dz b8]) rfl ?_;exact AV (K':=K2) (x:=a0) (y:=0) h.lt K0 BA V2 h2 K8 b0 (by omega) (.inl rfl) hO2 I7 FZ (fun e=>absurd e (by simp[hn2]))
   ·have cc:=fun m=>ug m w1 K NC NS b a0 r (h0.no OU) hO hm hb hn b0
    gi_wp2_with (first|(gi_at_call 143;refine(cc _).mono ?_;rintro e w2 ⟨K2,x,y,f,rfl,hx,hy,hf,h2,hO2,I7,M2,r2,FZ,hm2⟩;have V2:=(Bw.no OU h0.lt).trans M2;obtain⟨w8,Ar,K8,b8⟩:=Af (x:=x) (y:=y) (f:=f) (V2.old rb E8) hf.one)|refine Ae rfl _ _ _ rfl rfl rfl Ar ?_);refine bodyPost_ret (v:=.agg #[.int .u16 x,.int .u16 y,f]) (by simp[results,results96,go_sem,Dz b8]) rfl ?_;exact AV (K':=K2) (x:=x) (y:=y) h.lt K0 BA V2 h2 K8 hx hy hf hO2 I7 FZ hm2
   ·have cc:=fun m=>vH m w1 K NC NS b a0 r (h0.no OU) hO hm hb hn b0
    gi_wp2_with (first|(gi_at_call 144;refine(cc _).mono ?_;rintro e w2 ⟨K2,x,y,f,rfl,hx,hy,hf,h2,hO2,I7,M2,r2,FZ,hm2⟩;have V2:=(Bw.no OU h0.lt).trans M2;obtain⟨w8,Ar,K8,b8⟩:=Af (x:=x) (y:=y) (f:=f) (V2.old rb E8) hf.one)|refine Ae rfl _ _ _ rfl rfl rfl Ar ?_);refine bodyPost_ret (v:=.agg #[.int .u16 x,.int .u16 y,f]) (by simp[results,results96,go_sem,Dz b8]) rfl ?_;exact AV (K':=K2) (x:=x) (y:=y) h.lt K0 BA V2 h2 K8 hx hy hf hO2 I7 FZ hm2
   ·have cc:=fun m=>ku m w1 K NC NS b a0 r (h0.no OU) hO hm hb hn b0
    gi_wp2_with (first|(gi_at_call 145;refine(cc _).mono ?_;rintro e w2 ⟨K2,x,y,f,rfl,hx,hy,hf,h2,hO2,I7,M2,r2,FZ,hm2⟩;have V2:=(Bw.no OU h0.lt).trans M2;obtain⟨w8,Ar,K8,b8⟩:=Af (x:=x) (y:=y) (f:=f) (V2.old rb E8) hf.one)|refine Ae rfl _ _ _ rfl rfl rfl Ar ?_);refine bodyPost_ret (v:=.agg #[.int .u16 x,.int .u16 y,f]) (by simp[results,results96,go_sem,Dz b8]) rfl ?_;exact AV (K':=K2) (x:=x) (y:=y) h.lt K0 BA V2 h2 K8 hx hy hf hO2 I7 FZ hm2
   ·have cc:=fun m=>ry m w1 K NC NS b a0 r (h0.no OU) hO hm hb hn b0
    gi_wp2_with (first|(gi_at_call 148;refine(cc _).mono ?_;rintro e w2 ⟨K2,x,y,f,rfl,hx,hy,hf,h2,hO2,I7,M2,r2,FZ,hm2⟩;have V2:=(Bw.no OU h0.lt).trans M2;obtain⟨w8,Ar,K8,b8⟩:=Af (x:=x) (y:=y) (f:=f) (V2.old rb E8) hf.one)|refine Ae rfl _ _ _ rfl rfl rfl Ar ?_);refine bodyPost_ret (v:=.agg #[.int .u16 x,.int .u16 y,f]) (by simp[results,results96,go_sem,Dz b8]) rfl ?_;exact AV (K':=K2) (x:=x) (y:=y) h.lt K0 BA V2 h2 K8 hx hy hf hO2 I7 FZ hm2
   ·have cc:=fun m=>ad4 m w1 K NC NS b a0 r (h0.no OU) hO hm hb hn b0
    gi_wp2_with (first|(gi_at_call 149;refine(cc _).mono ?_;rintro e w2 ⟨K2,x,y,f,rfl,hx,hy,hf,h2,hO2,I7,M2,r2,FZ,hm2⟩;have V2:=(Bw.no OU h0.lt).trans M2;obtain⟨w8,Ar,K8,b8⟩:=Af (x:=x) (y:=y) (f:=f) (V2.old rb E8) hf.one)|refine Ae rfl _ _ _ rfl rfl rfl Ar ?_);refine bodyPost_ret (v:=.agg #[.int .u16 x,.int .u16 y,f]) (by simp[results,results96,go_sem,Dz b8]) rfl ?_;exact AV (K':=K2) (x:=x) (y:=y) h.lt K0 BA V2 h2 K8 hx hy hf hO2 I7 FZ hm2
   ·have cc:=fun m=>vM m w1 K NC NS b a0 r (h0.no OU) hO hm hb hn b0
    gi_wp2_with (first|(gi_at_call 151;refine(cc _).mono ?_;rintro e w2 ⟨K2,x,y,f,rfl,hx,hy,hf,h2,hO2,I7,M2,r2,FZ,hm2⟩;have V2:=(Bw.no OU h0.lt).trans M2;obtain⟨w8,Ar,K8,b8⟩:=Af (x:=x) (y:=y) (f:=f) (V2.old rb E8) hf.one)|refine Ae rfl _ _ _ rfl rfl rfl Ar ?_);refine bodyPost_ret (v:=.agg #[.int .u16 x,.int .u16 y,f]) (by simp[results,results96,go_sem,Dz b8]) rfl ?_;exact AV (K':=K2) (x:=x) (y:=y) h.lt K0 BA V2 h2 K8 hx hy hf hO2 I7 FZ hm2
   ·have cc:=fun m=>jD m w1 K NC NS b a0 r (h0.no OU) hO hm hb b0
    gi_wp2_with (first|(gi_at_call 153;refine(cc _).mono ?_;rintro e w2 ⟨K2,x,y,f,rfl,hx,hy,hf,h2,hO2,I7,M2,r2,FZ,hm2⟩;have V2:=(Bw.no OU h0.lt).trans M2;obtain⟨w8,Ar,K8,b8⟩:=Af (x:=x) (y:=y) (f:=f) (V2.old rb E8) hf.one)|refine Ae rfl _ _ _ rfl rfl rfl Ar ?_);refine bodyPost_ret (v:=.agg #[.int .u16 x,.int .u16 y,f]) (by simp[results,results96,go_sem,Dz b8]) rfl ?_;exact AV (K':=K2) (x:=x) (y:=y) h.lt K0 BA V2 h2 K8 hx hy hf hO2 I7 FZ hm2
 ·gi_enter func96,ntmps96;gi_wp2;generalize hw0:w.alloc V_=w0 at*;refine AA (P:=prog) No _ rfl rfl (by kernel_rfl) 15 155 [0,1,2,3,4,5,6,7,8,9,10,11,12,13,14] [] (by kernel_rfl) (by rfl) (fun _ _ _=>True) (fun _ _ _ _ _ h _=>h) _ _ rfl rfl ?_;gi_wp2_with (first|(gi_at_call 139;refine(ca _ w0.drew).mono ?_;rintro e w1 ⟨rfl,rfl⟩)|(gi_at_call 138;refine(F7 b gi ci r.Ah.length 1 r.A _ w0.drew q8 (by omega) (by omega) hA Dp).mono ?_;rintro e w1 ⟨rfl,rfl⟩));refine⟨rfl,by kernel_rfl,?_,(fun i hi=>absurd hi (by simp)),?_⟩
  ·intro W hK;have d5:=hK.has (w:=w0.drew) q5;have d8:=hK.has (w:=w0.drew) q8
   repeat' (refine Ao ?_ ?_)
   all_goals first|exact trivial|gi_wp2_with (first|(gi_at_call 139;refine(ca _ W).mono ?_;rintro e w1 ⟨rfl,rfl⟩)|(gi_at_call 138;refine(F7 b gi ci r.Ah.length 1 r.A _ W d8 (by omega) (by omega) hA Dp).mono ?_;rintro e w1 ⟨rfl,rfl⟩))
  ·intro u W hK _;simp only[C9];have KW:Ab No w0 W:=(Ab.refl No w0).drew.then hK;have xq:=KW.old rb id;gi_wp2_with (first|(gi_at_call 140;refine(AL _ _ 1).mono ?_;rintro e wz ⟨rfl,Kz⟩;obtain⟨w8,Ar,K8,b8⟩:=Af (x:=0) (y:=1) (f:=.nilFunc) (Kz.old (xq) id) rfl)|refine Ae rfl _ _ _ rfl rfl rfl Ar ?_);refine TR 0 1 (by simp[results,results96,go_sem,Dz b8]) rfl ?_;exact Br h hO hm hb K0 BA (KW.then Kz) K8 (by decide) (by decide)
end
end Go.Fxa
