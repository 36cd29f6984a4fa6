/- A process becomes a file. -/
import Derived.Test.YtmhplpfpcnjekaaGreatA37
import Derived.Test.YtmhplpfpcnjekaaGreatA38
namespace Go.Fxa
open Conc Proofs RowKit Proofs.Tryz
set_option maxRecDepth 1000000
set_option maxHeartbeats 0
def ae4 (v:Value) (w:World):Prop:=(∃a c,v=.slice a 0 c)\/∃g c ws,v=.slice (some (S_ g)) ws.length c/\Rw 123 1 w g ws.length c (Aq ws)/\1<=ws.length/\ws.length<=64/\∀x∈ws,x<65536
section
variable (m:Nat) (w:World)
theorem pG (K:KS) (i f:Nat) (h:AQ K w) (hi:i<16) (hf:K.nm i=some f):CallsIn NF m prog 207 #[.pointer (some (T_ K.kb 4)),.int .i64 (i:Nat)] w fun e w'=>Ab No w w'/\∃v,e=.returned v/\ae4 v w':=by
 have q:=(h.xu hi).1;have tf:=(h.xu hi).2 f hf;rw[hf]at q;simp only[Ut,ptr]at q;have f1:(i:Int)<16:=by omega
 obtain⟨v,ho,hv⟩:=h.fl.file f tf;have q0:w.cell? (S_ f)=some v:=(Ag ho 0).trans rfl;clear hf;rcases hv with rfl|⟨g,c,ws,rfl,hR,h64,hw,tg⟩
 ·gi_enter func207,ntmps207;gi_wp2_with (gi_at_call 141;refine(Qx _ w).mono ?_;rintro e w1 ⟨rfl,K1⟩);go_ret;exact⟨K1,_,rfl,.inl ⟨_,_,rfl⟩⟩
 ·have cc:=fun m=>II m w (S_ g) ws.length c (Aq ws) (by simp[Aq]) hR.cells (Dr _) (by omega)
  gi_enter func207,ntmps207;gi_wp2_with (gi_at_call 141;refine(cc _).mono ?_;rintro e w1 ⟨K1,v,rfl,FX⟩);go_ret;refine⟨K1,v,rfl,?_⟩;by_cases h0:0<ws.length
  ·obtain⟨g',c',rfl,Fb,_⟩:=Nj FX h0 (Dr _);exact .inr ⟨g',c',ws,rfl,Fb,h0,h64,hw⟩
  ·have e0:ws.length=0:=(by omega);rw[e0]at FX;obtain⟨_,⟨rfl,_⟩|⟨g',cap,cur,rfl,_⟩⟩:=FX
   ·exact .inl ⟨_,_,rfl⟩
   ·exact .inl ⟨_,_,rfl⟩
theorem vM (K:KS) (NC NS b i:Nat) (r:PR) (h:AQ K w) (hO:DZ NC NS K) (hm:b∈K.AJ) (hb:K.ps b=some r) (hn:r.en=false) (hx:i<65536):
  CallsIn NF m prog 151 #[R_ K.kb,R_ b,.int .u16 (i:Nat)] w (ED NC NS b K w):=by
 obtain⟨K0,rb,BA⟩:=FU w;have h0:=h.no K0;have E8:K.T w.heap.size=(0,0):=h.lt _ (Nat.le_refl _);have cn:=fun m=>MQ m (w.alloc V_) K i h0 hx
 gi_enter func151,ntmps151;gi_wp2_with (gi_at_call 205;refine(cn _).mono ?_;rintro e w1 ⟨K1,x,rfl,⟨rfl,h16,f,hf⟩|⟨rfl,hx⟩|⟨rfl,hx⟩⟩)
 ·generalize hw0:w.alloc V_=w0 at*;have h1:=h0.no K1;have cw:=fun m=>pG m w1 K i f h1 h16 hf
  clear hf;gi_wp2_with (gi_at_call 207;refine(cw _).mono ?_;rintro e w2 ⟨K2,v,rfl,⟨a,c,rfl⟩|⟨g,c,ws,rfl,hR,l1,l2,hw⟩⟩)
  ·have rb2:=(K1.then K2).old rb id;gi_wp2_with (first|(gi_at_call 140;refine(AL _ _ 13).mono ?_;rintro e wz ⟨rfl,Kz⟩;obtain⟨w8,Ar,K8,b8⟩:=Af (x:=0) (y:=13) (f:=.nilFunc) (Kz.old (rb2) id) rfl)|refine Ae rfl _ _ _ rfl rfl rfl Ar ?_);refine TR 0 13 (by simp[results,results151,go_sem,Dz b8]) rfl ?_;exact AV (K':=K) (x:=0) (y:=13) h.lt K0 BA ((Bw.no (K1.then K2) h0.lt).then Kz) ((h1.no K2).no Kz) K8 (by omega) (by omega) (.inl rfl) (hO) (Rel.refl b K) hb (fun _=>hm)
  ·have l3:¬(ws.length:Int)=0:=(by omega);have K3:=K1.then K2;have ci1:=fun m=>U7 m w2 (S_ g) ws.length c (Ap ws.length) ws rfl hR.cells hw (by unfold Ap;omega) (by unfold Ap;omega)
   have n1:1<=Ap ws.length/\Ap ws.length<=16:=(by unfold Ap;omega);gi_wp2_with (first|(gi_at_call 48;refine(EH _ _ ws.length (by omega)).mono ?_;rintro e w9 ⟨rfl,hw9⟩;have hw9:=hw9.symm;subst hw9)|(gi_at_call 47;refine(ci1 _).mono ?_;rintro e w4 ⟨K4,rfl,Ah,hl,hw4,lN⟩;have cb:=fun m=>Vj m w4 w0 K NC NS b w2.heap.size (8*Ap ws.length) r Ah (h0.no (K3.then K4)) hO hm hb hn (Bw.no (K3.then K4) h0.lt) K3.size (h0.lt _ K3.size) (by rw[hl];exact lN) hw4 ⟨_,hl,n1.1,n1.2⟩;rw[hl]at cb;clear hl)|(gi_at_call 197;refine(cb _).mono ?_;rintro e w5 (⟨rfl,h5,M5⟩|⟨K5,v5,a5,c5,rfl,h5,yU,hR5,M5,hb5,si⟩)<;>try (have p7:=h5.FH hb5 7;simp[PR.arr]at p7;have z7:=h5.WA hb5 7)))
   ·have rb5:=M5.old rb E8;gi_wp2_with (first|(gi_at_call 140;refine(AL _ _ 5).mono ?_;rintro e wz ⟨rfl,Kz⟩;obtain⟨w8,Ar,K8,b8⟩:=Af (x:=0) (y:=5) (f:=.nilFunc) (Kz.old (rb5) id) rfl)|refine Ae rfl _ _ _ rfl rfl rfl Ar ?_);refine TR 0 5 (by simp[results,results151,go_sem,Dz b8]) rfl ?_;exact AV (K':=K) (x:=0) (y:=5) h.lt K0 BA ((M5).then Kz) ((h5).no Kz) K8 (by omega) (by omega) (.inl rfl) (hO) (Rel.refl b K) hb (fun _=>hm)
   ·have rb5:=M5.old rb E8;have h6:=h5.like (r':={ r with im:=v5,Ah:=Ah,sw:=a5,co:=c5,P:=0 }) (i:=7) (v:=.int .u16 0) hb5 ⟨rfl,rfl,rfl,rfl,rfl⟩ rfl (h5.ps b _ hb5).bl;have M6:=M5.trans (h5.C8 hb5 (i:=7) (v:=.int .u16 0));have o5:=yU.pr b _ hb5;obtain⟨lT,hR6⟩:=yU.fds (r':={ r with im:=v5,Ah:=Ah,sw:=a5,co:=c5,P:=0 }) (NZ.refl K5) si hb5 rfl rfl rfl rfl rfl ⟨o5.A,o5.B,(by show 0<65536;omega),o5.st,o5.pid,o5.par,o5.Ah,o5.fds,o5.fd,o5.len,o5.off⟩ yU.CY (fun i _=>rfl);have hR7:=hR5.trans hR6 (by rw[hb];simp) hO.th;have rb6:=M6.old rb E8;gi_wp2_with (first|(gi_at_call 152;refine(Cr _ _ 0 (by omega)).mono ?_;rintro e wz ⟨rfl,Kz⟩;obtain⟨w8,Ar,K8,b8⟩:=Af (x:=0) (y:=0) (f:=.nilFunc) (Kz.old (rb6) id) rfl)|refine Ae rfl _ _ _ rfl rfl rfl Ar ?_);refine TR 0 0 (by simp[results,results151,go_sem,Dz b8]) rfl ?_;exact AV (K':=K5.Cg b { r with im:=v5,Ah:=Ah,sw:=a5,co:=c5,P:=0 }) (x:=0) (y:=0) h.lt K0 BA ((M6).then Kz) ((h6).no Kz) K8 (by omega) (by omega) (.inl rfl) (lT) (hR7) (Al) (fun _=>si)
 ·have rb1:=K1.old rb id;gi_wp2_with (first|(gi_at_call 140;refine(AL _ _ 6).mono ?_;rintro e wz ⟨rfl,Kz⟩;obtain⟨w8,Ar,K8,b8⟩:=Af (x:=0) (y:=6) (f:=.nilFunc) (Kz.old (rb1) id) rfl)|refine Ae rfl _ _ _ rfl rfl rfl Ar ?_);refine TR 0 6 (by simp[results,results151,go_sem,Dz b8]) rfl ?_;exact Br h hO hm hb K0 BA (K1.then Kz) K8 (by decide) (by decide)
 ·have rb1:=K1.old rb id;gi_wp2_with (first|(gi_at_call 140;refine(AL _ _ 13).mono ?_;rintro e wz ⟨rfl,Kz⟩;obtain⟨w8,Ar,K8,b8⟩:=Af (x:=0) (y:=13) (f:=.nilFunc) (Kz.old (rb1) id) rfl)|refine Ae rfl _ _ _ rfl rfl rfl Ar ?_);refine TR 0 13 (by simp[results,results151,go_sem,Dz b8]) rfl ?_;exact Br h hO hm hb K0 BA (K1.then Kz) K8 (by decide) (by decide)
end
end Go.Fxa
