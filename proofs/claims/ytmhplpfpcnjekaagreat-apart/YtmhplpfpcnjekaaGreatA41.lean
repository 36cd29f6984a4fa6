/- A call is served: two and thre -/
import Derived.Test.YtmhplpfpcnjekaaGreatA31
import Derived.Test.YtmhplpfpcnjekaaGreatA32
import Derived.Test.YtmhplpfpcnjekaaGreatA34
import Derived.Test.YtmhplpfpcnjekaaGreatA39
namespace Go.Fxa
open Conc Proofs RowKit Proofs.Tryz
set_option maxRecDepth 1000000
set_option maxHeartbeats 0
section
variable (m:Nat) (w:World)
theorem gT (K:KS) (NC NS b call:Nat) (r:PR) (h:AQ K w) (hO:DZ NC NS K) (hm:b∈K.AJ) (hb:K.ps b=some r) (hn:r.en=false) (ca:∀m w,CallsIn NF m prog 139 #[.int .u16 (call:Nat)] w fun e w'=>e=.returned (.int .i64 2)/\w'=w) (hc:call=10\/call=14):
  CallsIn NF m prog 96 #[R_ K.kb,R_ b,.int .u16 (call:Nat)] w (ED NC NS b K w):=by
 have o:=hO.pr b r hb;have hL:=(hO.co.pl b r hb).1;have hA:=o.A;obtain⟨K0,rb,BA⟩:=FU w;have h0:=h.no K0;have E8:K.T w.heap.size=(0,0):=h.lt _ (Nat.le_refl _);obtain⟨gi,ci,q8,Jw,Zc,him⟩:=h0.Uu hb hn;have TF:=Jw.le;have q5:=h0.FH hb 5;simp[PR.arr]at q5;by_cases Dp:r.A+2<=r.Ah.length
 ·obtain⟨a0,i0⟩:∃v,r.Ah[r.A+0]?=some v:=⟨_,HZ (by omega)⟩;have b0:=o.Ah a0 (List.mem_of_getElem? i0);have j0:(w.alloc V_).cell? (T_ gi (r.A+0))=some (.int .u16 (a0:Nat)):=(Jw.cell (by omega)).trans (by rw[Aq,List.getElem?_map,i0];rfl);obtain⟨a1,i1⟩:∃v,r.Ah[r.A+1]?=some v:=⟨_,HZ (by omega)⟩;have b1:=o.Ah a1 (List.mem_of_getElem? i1);have j1:(w.alloc V_).cell? (T_ gi (r.A+1))=some (.int .u16 (a1:Nat)):=(Jw.cell (by omega)).trans (by rw[Aq,List.getElem?_map,i1];rfl);clear i0 i1;gi_enter func96,ntmps96;gi_wp2;generalize hw0:w.alloc V_=w0 at*;refine AA (P:=prog) No _ rfl rfl (by kernel_rfl) 15 155 [0,1,2,3,4,5,6,7,8,9,10,11,12,13,14] [] (by kernel_rfl) (by rfl) (fun _ _ _=>True) (fun _ _ _ _ _ h _=>h) _ _ rfl rfl ?_;gi_wp2_with (first|(gi_at_call 139;refine(ca _ w0.drew).mono ?_;rintro e w1 ⟨rfl,rfl⟩)|(gi_at_call 138;refine(DN b gi ci r.Ah.length 2 r.A _ w0.drew q8 (by omega) hA hL TF Dp).mono ?_;rintro e w1 ⟨rfl,rfl⟩));refine⟨rfl,by kernel_rfl,?_,(fun i hi=>absurd hi (by simp)),?_⟩
  ·intro W hK;have d5:=hK.has (w:=w0.drew) q5;have d8:=hK.has (w:=w0.drew) q8
   repeat' (refine Ao ?_ ?_)
   all_goals first|exact trivial|gi_wp2_with (first|(gi_at_call 139;refine(ca _ W).mono ?_;rintro e w1 ⟨rfl,rfl⟩)|(gi_at_call 138;refine(DN b gi ci r.Ah.length 2 r.A _ W d8 (by omega) hA hL TF Dp).mono ?_;rintro e w1 ⟨rfl,rfl⟩))
  ·intro u W hK _;simp only[C9];have KW:Ab No w0 W:=(Ab.refl No w0).drew.then hK;gi_wp2_with fail;refine(II _ W (T_ gi r.A) 2 2 [.int .u16 (a0:Nat),.int .u16 (a1:Nat)] rfl (fun j u hj=>by
    match j,hj with
    | 0,hj=>simp at hj;subst hj;exact KW.has j0
    | 1,hj=>simp at hj;subst hj;exact KW.has j1
    ) (by simp[Value.oneCell']) (by omega)).mono ?_;rintro e w1 ⟨K1,v,rfl,FX⟩;obtain⟨g,cap,rfl,hR,_⟩:=Nj FX (by omega) (by simp[Value.oneCell']);have OU:Ab No w0 w1:=KW.then K1;have d0:w1.cell? (S_ g)=some (.int .u16 (a0:Nat)):=(hR.cell (by omega)).trans rfl;have d1:w1.cell? (T_ g 1)=some (.int .u16 (a1:Nat)):=(hR.cell (by omega)).trans rfl;clear FX Jw hR K1 KW hK q5 q8 j0 j1;rcases hc with rfl|rfl
   ·gi_wp2;refine AA (P:=prog) No _ rfl rfl (by kernel_rfl) 8 155 [0,1,2,3,4,5,6,7] [] (by kernel_rfl) (by rfl) (fun _ _ _=>True) (fun _ _ _ _ _ h _=>h) _ _ rfl rfl ?_;gi_wp2;refine⟨rfl,by kernel_rfl,?_,(fun i hi=>absurd hi (by simp)),?_⟩
    ·intro W2 Fe;have e0:=Fe.has (w:=w1.drew) d0;have e1:=Fe.has (w:=w1.drew) d1
     repeat' (refine Ao ?_ ?_)
     all_goals first|exact trivial|gi_wp2
    ·intro u W2 Fe _;simp only[C9];have Zq:Ab No w0 W2:=OU.then ((Ab.refl No w1).drew.then Fe);have cc:=fun m=>YK m W2 K NC NS b a0 a1 r (h0.no Zq) hO hm hb hn b0
     gi_wp2_with (first|(gi_at_call 150;refine(cc _).mono ?_;rintro e w2 ⟨K2,x,y,f,rfl,hx,hy,hf,h2,hO2,I7,M2,r2,FZ,hm2⟩;have V2:=(Bw.no Zq h0.lt).trans M2;obtain⟨w8,Ar,K8,b8⟩:=Af (x:=x) (y:=y) (f:=f) (V2.old rb E8) hf.one)|refine Ae rfl _ _ _ rfl rfl rfl Ar ?_);refine bodyPost_ret (v:=.agg #[.int .u16 x,.int .u16 y,f]) (by simp[results,results96,go_sem,Dz b8]) rfl ?_;exact AV (K':=K2) (x:=x) (y:=y) h.lt K0 BA V2 h2 K8 hx hy hf hO2 I7 FZ hm2
   ·gi_wp2;refine AA (P:=prog) No _ rfl rfl (by kernel_rfl) 8 155 [0,1,2,3,4,5,6,7] [] (by kernel_rfl) (by rfl) (fun _ _ _=>True) (fun _ _ _ _ _ h _=>h) _ _ rfl rfl ?_;gi_wp2;refine⟨rfl,by kernel_rfl,?_,(fun i hi=>absurd hi (by simp)),?_⟩
    ·intro W2 Fe;have e0:=Fe.has (w:=w1.drew) d0;have e1:=Fe.has (w:=w1.drew) d1
     repeat' (refine Ao ?_ ?_)
     all_goals first|exact trivial|gi_wp2
    ·intro u W2 Fe _;simp only[C9];have Zq:Ab No w0 W2:=OU.then ((Ab.refl No w1).drew.then Fe);have cc:=fun m=>uu m W2 K NC NS b a0 a1 r (h0.no Zq) hO hm hb hn b0 b1
     gi_wp2_with (first|(gi_at_call 154;refine(cc _).mono ?_;rintro e w2 ⟨K2,x,y,f,rfl,hx,hy,hf,h2,hO2,I7,M2,r2,FZ,hm2⟩;have V2:=(Bw.no Zq h0.lt).trans M2;obtain⟨w8,Ar,K8,b8⟩:=Af (x:=x) (y:=y) (f:=f) (V2.old rb E8) hf.one)|refine Ae rfl _ _ _ rfl rfl rfl Ar ?_);refine bodyPost_ret (v:=.agg #[.int .u16 x,.int .u16 y,f]) (by simp[results,results96,go_sem,Dz b8]) rfl ?_;exact AV (K':=K2) (x:=x) (y:=y) h.lt K0 BA V2 h2 K8 hx hy hf hO2 I7 FZ hm2
 ·gi_enter func96,ntmps96;gi_wp2;generalize hw0:w.alloc V_=w0 at*;refine AA (P:=prog) No _ rfl rfl (by kernel_rfl) 15 155 [0,1,2,3,4,5,6,7,8,9,10,11,12,13,14] [] (by kernel_rfl) (by rfl) (fun _ _ _=>True) (fun _ _ _ _ _ h _=>h) _ _ rfl rfl ?_;gi_wp2_with (first|(gi_at_call 139;refine(ca _ w0.drew).mono ?_;rintro e w1 ⟨rfl,rfl⟩)|(gi_at_call 138;refine(F7 b gi ci r.Ah.length 2 r.A _ w0.drew q8 (by omega) (by omega) hA Dp).mono ?_;rintro e w1 ⟨rfl,rfl⟩));refine⟨rfl,by kernel_rfl,?_,(fun i hi=>absurd hi (by simp)),?_⟩
  ·intro W hK;have d5:=hK.has (w:=w0.drew) q5;have d8:=hK.has (w:=w0.drew) q8
   repeat' (refine Ao ?_ ?_)
   all_goals first|exact trivial|gi_wp2_with (first|(gi_at_call 139;refine(ca _ W).mono ?_;rintro e w1 ⟨rfl,rfl⟩)|(gi_at_call 138;refine(F7 b gi ci r.Ah.length 2 r.A _ W d8 (by omega) (by omega) hA Dp).mono ?_;rintro e w1 ⟨rfl,rfl⟩))
  ·intro u W hK _;simp only[C9];have KW:Ab No w0 W:=(Ab.refl No w0).drew.then hK;have xq:=KW.old rb id;gi_wp2_with (first|(gi_at_call 140;refine(AL _ _ 1).mono ?_;rintro e wz ⟨rfl,Kz⟩;obtain⟨w8,Ar,K8,b8⟩:=Af (x:=0) (y:=1) (f:=.nilFunc) (Kz.old (xq) id) rfl)|refine Ae rfl _ _ _ rfl rfl rfl Ar ?_);refine TR 0 1 (by simp[results,results96,go_sem,Dz b8]) rfl ?_;exact Br h hO hm hb K0 BA (KW.then Kz) K8 (by decide) (by decide)
theorem gN (K:KS) (NC NS b call:Nat) (r:PR) (h:AQ K w) (hO:DZ NC NS K) (hm:b∈K.AJ) (hb:K.ps b=some r) (hn:r.en=false) (ca:∀m w,CallsIn NF m prog 139 #[.int .u16 (call:Nat)] w fun e w'=>e=.returned (.int .i64 3)/\w'=w) (hc:call=6\/call=7):
  CallsIn NF m prog 96 #[R_ K.kb,R_ b,.int .u16 (call:Nat)] w (ED NC NS b K w):=by
 have o:=hO.pr b r hb;have hL:=(hO.co.pl b r hb).1;have hA:=o.A;obtain⟨K0,rb,BA⟩:=FU w;have h0:=h.no K0;have E8:K.T w.heap.size=(0,0):=h.lt _ (Nat.le_refl _);obtain⟨gi,ci,q8,Jw,Zc,him⟩:=h0.Uu hb hn;have TF:=Jw.le;have q5:=h0.FH hb 5;simp[PR.arr]at q5;by_cases Dp:r.A+3<=r.Ah.length
 ·obtain⟨a0,i0⟩:∃v,r.Ah[r.A+0]?=some v:=⟨_,HZ (by omega)⟩;have b0:=o.Ah a0 (List.mem_of_getElem? i0);have j0:(w.alloc V_).cell? (T_ gi (r.A+0))=some (.int .u16 (a0:Nat)):=(Jw.cell (by omega)).trans (by rw[Aq,List.getElem?_map,i0];rfl);obtain⟨a1,i1⟩:∃v,r.Ah[r.A+1]?=some v:=⟨_,HZ (by omega)⟩;have b1:=o.Ah a1 (List.mem_of_getElem? i1);have j1:(w.alloc V_).cell? (T_ gi (r.A+1))=some (.int .u16 (a1:Nat)):=(Jw.cell (by omega)).trans (by rw[Aq,List.getElem?_map,i1];rfl);obtain⟨a2,i2⟩:∃v,r.Ah[r.A+2]?=some v:=⟨_,HZ (by omega)⟩;have b2:=o.Ah a2 (List.mem_of_getElem? i2);have j2:(w.alloc V_).cell? (T_ gi (r.A+2))=some (.int .u16 (a2:Nat)):=(Jw.cell (by omega)).trans (by rw[Aq,List.getElem?_map,i2];rfl);clear i0 i1 i2;gi_enter func96,ntmps96;gi_wp2;generalize hw0:w.alloc V_=w0 at*;refine AA (P:=prog) No _ rfl rfl (by kernel_rfl) 15 155 [0,1,2,3,4,5,6,7,8,9,10,11,12,13,14] [] (by kernel_rfl) (by rfl) (fun _ _ _=>True) (fun _ _ _ _ _ h _=>h) _ _ rfl rfl ?_;gi_wp2_with (first|(gi_at_call 139;refine(ca _ w0.drew).mono ?_;rintro e w1 ⟨rfl,rfl⟩)|(gi_at_call 138;refine(DN b gi ci r.Ah.length 3 r.A _ w0.drew q8 (by omega) hA hL TF Dp).mono ?_;rintro e w1 ⟨rfl,rfl⟩));refine⟨rfl,by kernel_rfl,?_,(fun i hi=>absurd hi (by simp)),?_⟩
  ·intro W hK;have d5:=hK.has (w:=w0.drew) q5;have d8:=hK.has (w:=w0.drew) q8
   repeat' (refine Ao ?_ ?_)
   all_goals first|exact trivial|gi_wp2_with (first|(gi_at_call 139;refine(ca _ W).mono ?_;rintro e w1 ⟨rfl,rfl⟩)|(gi_at_call 138;refine(DN b gi ci r.Ah.length 3 r.A _ W d8 (by omega) hA hL TF Dp).mono ?_;rintro e w1 ⟨rfl,rfl⟩))
  ·intro u W hK _;simp only[C9];have KW:Ab No w0 W:=(Ab.refl No w0).drew.then hK;gi_wp2_with fail;refine(II _ W (T_ gi r.A) 3 3 [.int .u16 (a0:Nat),.int .u16 (a1:Nat),.int .u16 (a2:Nat)] rfl (fun j u hj=>by
    match j,hj with
    | 0,hj=>simp at hj;subst hj;exact KW.has j0
    | 1,hj=>simp at hj;subst hj;exact KW.has j1
    | 2,hj=>simp at hj;subst hj;exact KW.has j2
    ) (by simp[Value.oneCell']) (by omega)).mono ?_;rintro e w1 ⟨K1,v,rfl,FX⟩;obtain⟨g,cap,rfl,hR,_⟩:=Nj FX (by omega) (by simp[Value.oneCell']);have OU:Ab No w0 w1:=KW.then K1;have d0:w1.cell? (S_ g)=some (.int .u16 (a0:Nat)):=(hR.cell (by omega)).trans rfl;have d1:w1.cell? (T_ g 1)=some (.int .u16 (a1:Nat)):=(hR.cell (by omega)).trans rfl;have d2:w1.cell? (T_ g 2)=some (.int .u16 (a2:Nat)):=(hR.cell (by omega)).trans rfl;clear FX Jw hR K1 KW hK q5 q8 j0 j1 j2;rcases hc with rfl|rfl
   ·gi_wp2;refine AA (P:=prog) No _ rfl rfl (by kernel_rfl) 11 155 [0,1,2,3,4,5,6,7,8,9,10] [] (by kernel_rfl) (by rfl) (fun _ _ _=>True) (fun _ _ _ _ _ h _=>h) _ _ rfl rfl ?_;gi_wp2;refine⟨rfl,by kernel_rfl,?_,(fun i hi=>absurd hi (by simp)),?_⟩
    ·intro W2 Fe;have e0:=Fe.has (w:=w1.drew) d0;have e1:=Fe.has (w:=w1.drew) d1;have e2:=Fe.has (w:=w1.drew) d2
     repeat' (refine Ao ?_ ?_)
     all_goals first|exact trivial|gi_wp2
    ·intro u W2 Fe _;simp only[C9];have Zq:Ab No w0 W2:=OU.then ((Ab.refl No w1).drew.then Fe);have cc:=fun m=>uI m W2 K NC NS b a0 a1 a2 r (h0.no Zq) hO hm hb hn b0 b1 b2
     gi_wp2_with (first|(gi_at_call 146;refine(cc _).mono ?_;rintro e w2 ⟨K2,x,y,f,rfl,hx,hy,hf,h2,hO2,I7,M2,r2,FZ,hm2⟩;have V2:=(Bw.no Zq h0.lt).trans M2;obtain⟨w8,Ar,K8,b8⟩:=Af (x:=x) (y:=y) (f:=f) (V2.old rb E8) hf.one)|refine Ae rfl _ _ _ rfl rfl rfl Ar ?_);refine bodyPost_ret (v:=.agg #[.int .u16 x,.int .u16 y,f]) (by simp[results,results96,go_sem,Dz b8]) rfl ?_;exact AV (K':=K2) (x:=x) (y:=y) h.lt K0 BA V2 h2 K8 hx hy hf hO2 I7 FZ hm2
   ·gi_wp2;refine AA (P:=prog) No _ rfl rfl (by kernel_rfl) 11 155 [0,1,2,3,4,5,6,7,8,9,10] [] (by kernel_rfl) (by rfl) (fun _ _ _=>True) (fun _ _ _ _ _ h _=>h) _ _ rfl rfl ?_;gi_wp2;refine⟨rfl,by kernel_rfl,?_,(fun i hi=>absurd hi (by simp)),?_⟩
    ·intro W2 Fe;have e0:=Fe.has (w:=w1.drew) d0;have e1:=Fe.has (w:=w1.drew) d1;have e2:=Fe.has (w:=w1.drew) d2
     repeat' (refine Ao ?_ ?_)
     all_goals first|exact trivial|gi_wp2
    ·intro u W2 Fe _;simp only[C9];have Zq:Ab No w0 W2:=OU.then ((Ab.refl No w1).drew.then Fe);have cc:=fun m=>pF m W2 K NC NS b a0 a1 a2 r (h0.no Zq) hO hm hb hn b0 b1 b2
     gi_wp2_with (first|(gi_at_call 147;refine(cc _).mono ?_;rintro e w2 ⟨K2,x,y,f,rfl,hx,hy,hf,h2,hO2,I7,M2,r2,FZ,hm2⟩;have V2:=(Bw.no Zq h0.lt).trans M2;obtain⟨w8,Ar,K8,b8⟩:=Af (x:=x) (y:=y) (f:=f) (V2.old rb E8) hf.one)|refine Ae rfl _ _ _ rfl rfl rfl Ar ?_);refine bodyPost_ret (v:=.agg #[.int .u16 x,.int .u16 y,f]) (by simp[results,results96,go_sem,Dz b8]) rfl ?_;exact AV (K':=K2) (x:=x) (y:=y) h.lt K0 BA V2 h2 K8 hx hy hf hO2 I7 FZ hm2
 ·gi_enter func96,ntmps96;gi_wp2;generalize hw0:w.alloc V_=w0 at*;refine AA (P:=prog) No _ rfl rfl (by kernel_rfl) 15 155 [0,1,2,3,4,5,6,7,8,9,10,11,12,13,14] [] (by kernel_rfl) (by rfl) (fun _ _ _=>True) (fun _ _ _ _ _ h _=>h) _ _ rfl rfl ?_;gi_wp2_with (first|(gi_at_call 139;refine(ca _ w0.drew).mono ?_;rintro e w1 ⟨rfl,rfl⟩)|(gi_at_call 138;refine(F7 b gi ci r.Ah.length 3 r.A _ w0.drew q8 (by omega) (by omega) hA Dp).mono ?_;rintro e w1 ⟨rfl,rfl⟩));refine⟨rfl,by kernel_rfl,?_,(fun i hi=>absurd hi (by simp)),?_⟩
  ·intro W hK;have d5:=hK.has (w:=w0.drew) q5;have d8:=hK.has (w:=w0.drew) q8
   repeat' (refine Ao ?_ ?_)
   all_goals first|exact trivial|gi_wp2_with (first|(gi_at_call 139;refine(ca _ W).mono ?_;rintro e w1 ⟨rfl,rfl⟩)|(gi_at_call 138;refine(F7 b gi ci r.Ah.length 3 r.A _ W d8 (by omega) (by omega) hA Dp).mono ?_;rintro e w1 ⟨rfl,rfl⟩))
  ·intro u W hK _;simp only[C9];have KW:Ab No w0 W:=(Ab.refl No w0).drew.then hK;have xq:=KW.old rb id;gi_wp2_with (first|(gi_at_call 140;refine(AL _ _ 1).mono ?_;rintro e wz ⟨rfl,Kz⟩;obtain⟨w8,Ar,K8,b8⟩:=Af (x:=0) (y:=1) (f:=.nilFunc) (Kz.old (xq) id) rfl)|refine Ae rfl _ _ _ rfl rfl rfl Ar ?_);refine TR 0 1 (by simp[results,results96,go_sem,Dz b8]) rfl ?_;exact Br h hO hm hb K0 BA (KW.then Kz) K8 (by decide) (by decide)
end
end Go.Fxa
