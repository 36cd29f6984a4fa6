/- A pipe is made. -/
import Derived.Test.YtmhplpfpcnjekaaGreatA23
import Derived.Test.YtmhplpfpcnjekaaGreatA33
namespace Go.Fxa
open Conc Proofs RowKit Proofs.Tryz
set_option maxRecDepth 1000000
set_option maxHeartbeats 0
theorem HV (w:World) (o:Obj):(w.alloc o).heap.size=w.heap.size+1:=by simp
theorem Pk {f:Nat->Option PR} {b:Nat} {r r':PR}:Cu (Cu f b r) b r'=Cu f b r':=by funext k;unfold Cu;split<;>rfl
theorem R7 {K:KS} {b:Nat} {r r':PR}:(K.Cg b r).Cg b r'=K.Cg b r':=by
 unfold KS.Cg;have e:Cu (Cu K.ps b r) b r'=Cu K.ps b r':=by funext k;unfold Cu;split<;>rfl
 simp only[e]
theorem We (l:List Int):EA l=l.count (-1):=by
 unfold EA WM;rw[List.count,List.countP_eq_length_filter]
theorem jO {d:Nat->Nat} {i1:Nat} (h:2<=GH d 20):∃i,i<20/\Az d i1 1 i=0:=by
 refine Classical.byContradiction fun hn=>?_
 have hs:∀x∈(List.range 20).filter (fun i=>d i==0),x∈[i1]:=fun x hx=>by
  obtain⟨h1,h2⟩:=List.mem_filter.1 hx
  refine List.mem_singleton.2 (Classical.byContradiction fun e=>hn ⟨x,List.mem_range.1 h1,?_⟩)
  simp only[Az,if_neg e];simpa using h2
 have:=Qu (List.Pairwise.filter _ List.nodup_range) hs;unfold GH at h;simp at this;omega
theorem AQ.Rk {K:KS} {w:World} {b g c i x:Nat} {r:PR} (h:AQ K w) (hb:K.ps b=some r) (hn:r.en=false) (h1:r.im=.slice (some (S_ g)) r.Ah.length c):AQ (K.Cg b { r with Ah:=r.Ah.set i x }) (w.setCell (T_ g i) (.int .u16 (x:Nat)))/\Bw K.T K.T w (w.setCell (T_ g i) (.int .u16 (x:Nat))):=by
 obtain⟨g',c',_,hR,tg,him⟩:=h.Uu hb hn;obtain⟨rfl,rfl⟩:g=g'/\c=c':=by rw[him]at h1;simp at h1;exact⟨h1.1.symm,h1.2.symm⟩
 have:=hR.set (i:=i) (.int .u16 (x:Nat)) rfl;exact h.oC hb hn him tg ((Ab.refl _ _).setCell _ fun _=>rfl) (by simpa [Aq,List.map_set]using this) (by simp)
section
variable (m:Nat) (w:World)
theorem cZ (K:KS) (h:AQ K w):CallsIn NF m prog 199 #[] w fun e w'=>∃e1 e2 T3,e=.returned (.tuple #[.iface 330 (ptr e1),.iface 334 (ptr e2)])/\AQ { K with T:=T3 } w'/\T3 e1=(13,0)/\T3 e2=(14,0)/\Bw K.T T3 w w':=by
 have a1:(w.alloc (.cells #[.slice none 0 0,.bool true,.bool true] 329)).heap[w.heap.size]?=some (.cells #[.slice none 0 0,.bool true,.bool true] 329 (0,0)):=heap_alloc_new rfl;obtain⟨h1,M1⟩:=h.mo (t:=(11,0)) (w':=w.alloc (.cells #[.slice none 0 0,.bool true,.bool true] 329)) ((Ab.refl _ _).alloc _) (Nat.le_refl _) (Co a1) (by simp) (Dk.QG (v:=.slice none 0 0) (x:=true) (y:=true) BB a1 (.inl rfl));have s1:(w.alloc (.cells #[.slice none 0 0,.bool true,.bool true] 329)).heap.size=w.heap.size+1:=HV _ _;have a2:((w.alloc (.cells #[.slice none 0 0,.bool true,.bool true] 329)).alloc (.cells #[R_ w.heap.size] 333)).heap[w.heap.size+1]?=some (.cells #[R_ w.heap.size] 333 (0,0)):=by
  have:=heap_alloc_new (w:=w.alloc (.cells #[.slice none 0 0,.bool true,.bool true] 329)) (o:=.cells #[R_ w.heap.size] 333) rfl
  rwa [s1]at this
 obtain⟨h2,M2⟩:=AQ.mo (t:=(13,0)) (w':=(w.alloc (.cells #[.slice none 0 0,.bool true,.bool true] 329)).alloc (.cells #[R_ w.heap.size] 333)) h1 ((Ab.refl _ _).alloc _) (Nat.le_of_eq s1) (Co a2) (by simp) (Dk.rend' BB a2 (show A8 (A8 K.T w.heap.size (11,0)) (w.heap.size+1) (13,0) w.heap.size=(11,0)from(AY (by omega)).trans BB));have s2:((w.alloc (.cells #[.slice none 0 0,.bool true,.bool true] 329)).alloc (.cells #[R_ w.heap.size] 333)).heap.size=w.heap.size+2:=by rw[HV,HV]
 have a3:(((w.alloc (.cells #[.slice none 0 0,.bool true,.bool true] 329)).alloc (.cells #[R_ w.heap.size] 333)).alloc (.cells #[R_ w.heap.size] 335)).heap[w.heap.size+2]?=some (.cells #[R_ w.heap.size] 335 (0,0)):=by
  have:=heap_alloc_new (w:=(w.alloc (.cells #[.slice none 0 0,.bool true,.bool true] 329)).alloc (.cells #[R_ w.heap.size] 333)) (o:=.cells #[R_ w.heap.size] 335) rfl
  rwa [s2]at this
 obtain⟨h3,M3⟩:=AQ.mo (t:=(14,0)) (w':=((w.alloc (.cells #[.slice none 0 0,.bool true,.bool true] 329)).alloc (.cells #[R_ w.heap.size] 333)).alloc (.cells #[R_ w.heap.size] 335)) h2 ((Ab.refl _ _).alloc _) (Nat.le_of_eq s2) (Co a3) (by simp) (Dk.am0 BB a3 (show A8 (A8 (A8 K.T w.heap.size (11,0)) (w.heap.size+1) (13,0)) (w.heap.size+2) (14,0) w.heap.size=(11,0)from(AY (by omega)).trans ((AY (by omega)).trans BB)));gi_enter func199,ntmps199;gi_wp2;go_ret2;refine⟨w.heap.size+1,w.heap.size+2,by first|rfl|simp[ptr],A8 (A8 (A8 K.T w.heap.size (11,0)) (w.heap.size+1) (13,0)) (w.heap.size+2) (14,0),h3,(AY (by omega)).trans BB,BB,(M1.trans M2).trans M3⟩
theorem ku (K:KS) (NC NS b at_:Nat) (r:PR) (h:AQ K w) (hO:DZ NC NS K) (hm:b∈K.AJ) (hb:K.ps b=some r) (hn:r.en=false) (hat:at_<65536):
  CallsIn NF m prog 145 #[R_ K.kb,R_ b,.int .u16 (at_:Nat)] w (ED NC NS b K w):=by
 have o:=hO.pr b r hb;have hlen:r.fds.length<=6:=by rw[o.fds hn];omega
 have hL:=(hO.co.pl b r hb).1;obtain⟨K0,rb,BA⟩:=FU w;have h0:=h.no K0;have E8:K.T w.heap.size=(0,0):=h.lt _ (Nat.le_refl _);obtain⟨gi,ci,q8,Jw,Zc,him⟩:=h0.Uu hb hn;have TF:=Jw.le;have ct:=fun m w1 (hK:Ab No (w.alloc V_) w1)=>Sq m w1 K b 2 r (h0.no hK) hb hn (by omega)
 have two:((2:Nat):Int)=2:=rfl;simp only[two]at ct;by_cases Dp:at_+2<=r.Ah.length
 ·have cw:=fun m=>DN b gi ci r.Ah.length 2 at_ m (w.alloc V_) q8 (by omega) hat hL TF Dp
  gi_enter func145,ntmps145;gi_wp2_with (first|(gi_at_call 138;refine(cw _).mono ?_;rintro e w1 ⟨rfl,hw⟩;have hw:=hw.symm;subst hw)|(gi_at_call 198;refine(ct _ _ (Ab.refl No _)).mono ?_;rintro e w2 ⟨⟨rfl,hs1,hs2⟩|⟨xx,rfl,hxx,zH⟩,K2⟩<;>generalize hw0:w.alloc V_=w0 at *))
  ·have h2:=h0.no K2;have cp:=fun m=>cZ m w2 K h2
   gi_wp2_with (gi_at_call 199;refine(cp _).mono ?_;rintro e w3 ⟨e1,e2,T3,rfl,h3,te1,te2,M3⟩;simp only[ptr]);have ca:=fun m=>RX m w3 { K with T:=T3 } (.iface 330 (ptr e1)) none h3 ⟨e1,.inr (.inl ⟨rfl,te1,rfl⟩)⟩ (Nu (by show 1<=GH K.desc 20;omega))
   simp only[ptr]at ca;gi_wp2_with (gi_at_call 201;refine(ca _).mono ?_;rintro e w4 ⟨i1,hi1,hd1,rfl,h4,M4⟩);have zf:=fun m=>Nk m w4 { K with T:=T3,desc:=Az K.desc i1 1,ef:=Az K.ef i1 none } b (i1:Int) r h4 hb hn (by omega) (by omega)
   gi_wp2_with (gi_at_call 200;refine(zf _).mono ?_;rintro e w5 ⟨j1,hj1,rfl,h5,M5⟩;have bi9:=(KH.1 hj1).1;have bj1:j1<6:=(by omega);obtain⟨g5,c5,_,hR5,tg5,az6⟩:=h5.Uu Al hn;have egi:gi=g5/\ci=c5:=(by have:=him.symm.trans az6;simpa using this);obtain⟨rfl,rfl⟩:=egi;have z5:=hR5.fz at_;have q5:=hR5.cell (i:=at_) (by show at_<r.Ah.length*1;omega);obtain⟨x5,hx5⟩:∃v,(Aq r.Ah)[at_]?=some v:=⟨_,HZ (by simp[Aq];omega)⟩;have q5:=q5.trans hx5);have s6:=h5.Rk (i:=at_) (x:=j1) Al hn him;rw[R7]at s6;obtain⟨h6,M6⟩:=s6;have cb:=fun m=>RX m _ _ (.iface 334 (ptr e2)) none h6 ⟨e2,.inr (.inr ⟨rfl,te2,rfl⟩)⟩ (jO (d:=K.desc) hs2)
   simp only[ptr]at cb;gi_wp2_with (gi_at_call 201;refine(cb _).mono ?_;rintro e w7 ⟨i2,hi2,hd2,rfl,h7,M7⟩);have hsp2:1<=EA (r.fds.set j1 (i1:Int)):=by
    have:=Ke (m:=(i1:Int)) (a:=-1) hj1
    rw[We]at hs1 ⊢
    rw[if_pos rfl,if_neg (by omega)]at this
    omega
   have che:=fun m=>Nk m w7 _ b (i2:Int) _ h7 Al hn (by show(r.fds.set j1 (i1:Int)).length<=1000;simp;omega) hsp2
   gi_wp2_with (gi_at_call 200;refine(che _).mono ?_;rintro e w8' ⟨j2,hj2,rfl,h8,M8⟩;have bi8:=(KH.1 hj2).1;have bj0:j2<6:=(by have:(r.fds.set j1 (i1:Int)).length<=6:=(by simp;omega);omega);obtain⟨g8,c8,_,hR8,tg8,ag7⟩:=h8.Uu Al hn;have egi:gi=g8/\ci=c8:=(by have:=him.symm.trans ag7;simpa using this);obtain⟨rfl,rfl⟩:=egi;have z8:=hR8.fz (at_+1);have q8:=hR8.cell (i:=at_+1) (by show at_+1<(r.Ah.set at_ j1).length*1;simp;omega);obtain⟨x8,hx8⟩:∃v,(Aq (r.Ah.set at_ j1))[at_+1]?=some v:=⟨_,HZ (by simp[Aq];omega)⟩;have q8:=q8.trans hx8);have s9:=h8.Rk (i:=at_+1) (x:=j2) Al hn ag7;rw[R7]at s9;obtain⟨h9,M9⟩:=s9;have eK:KS.Cg { ({ K with T:=T3,desc:=Az K.desc i1 1,ef:=Az K.ef i1 none }:KS).Cg b { r with fds:=r.fds.set j1 (i1:Int),Ah:=r.Ah.set at_ j1 } with desc:=Az (Az K.desc i1 1) i2 1,ef:=Az (Az K.ef i1 none) i2 none } b { r with fds:=(r.fds.set j1 (i1:Int)).set j2 (i2:Int),Ah:=(r.Ah.set at_ j1).set (at_+1) j2 }=KS.Cg { K with T:=T3,desc:=Az (Az K.desc i1 1) i2 1,ef:=Az (Az K.ef i1 none) i2 none } b { r with fds:=(r.fds.set j1 (i1:Int)).set j2 (i2:Int),Ah:=(r.Ah.set at_ j1).set (at_+1) j2 }:=(by unfold KS.Cg;simp only[Pk]);have h9:AQ (KS.Cg { K with T:=T3,desc:=Az (Az K.desc i1 1) i2 1,ef:=Az (Az K.ef i1 none) i2 none } b { r with fds:=(r.fds.set j1 (i1:Int)).set j2 (i2:Int),Ah:=(r.Ah.set at_ j1).set (at_+1) j2 }) (w8'.setCell (T_ gi (at_+1)) (.int .u16 (j2:Nat))):=(by rw[<-eK];exact h9);have hH1:Bi K.ps K.AJ i1=0:=(by rw[<-hO.CY.ho i1 hi1];exact hd1);have BN:i2≠i1:=fun e=>by rw[e]at hd2;simp[KS.Cg,Az]at hd2
   have ba3:K.desc i2=0:=(by have:Az K.desc i1 1 i2=0:=hd2;rwa [show Az K.desc i1 1 i2=K.desc i2 from if_neg BN]at this);have hH2:Bi K.ps K.AJ i2=0:=(by rw[<-hO.CY.ho i2 hi2];exact ba3);have aw0:=hO.CY.add (o:=none) (nm:=K.nm) (T:=T3) hi1 hd1 hO.CY.nm hO.CY.dj;have av9:=aw0.add (o:=none) (nm:=K.nm) (T:=T3) hi2 (show Az K.desc i1 1 i2=0 from hd2) hO.CY.nm hO.CY.dj;have yh:((r.Ah.set at_ j1).set (at_+1) j2).length=r.Ah.length:=(by simp);obtain⟨J5,Fb⟩:=hO.fds (K1:={ K with T:=T3,desc:=Az (Az K.desc i1 1) i2 1,ef:=Az (Az K.ef i1 none) i2 none }) (r':={ r with fds:=(r.fds.set j1 (i1:Int)).set j2 (i2:Int),Ah:=(r.Ah.set at_ j1).set (at_+1) j2 }) (H:=Az (Az (Bi K.ps K.AJ) i1 1) i2 1) ⟨rfl⟩ hm hb rfl rfl rfl rfl yh ⟨o.A,o.B,o.P,o.st,o.pid,o.par,fun x hx=>by
    rcases List.mem_or_eq_of_mem_set hx with hx|rfl
    ·rcases List.mem_or_eq_of_mem_set hx with hx|rfl
     ·exact o.Ah x hx
     ·omega
    ·omega,fun e=>by simp[o.fds e],Ou (Ou o.fd (.inr ⟨i1,rfl,hi1⟩)) (.inr ⟨i2,rfl,hi2⟩),fun e=>by simp only[yh];exact o.len e,fun e=>absurd e (by simp[hn])⟩ av9 (fun k _=>by
    have a1:=Ke (m:=(i1:Int)) (a:=(k:Int)) hj1;have a2:=Ke (m:=(i2:Int)) (a:=(k:Int)) hj2;rw[if_neg (c:=(-1:Int)=(k:Int)) (by omega)]at a1 a2;simp only at a2 ⊢;simp only[Az];by_cases e2:k=i2
    ·subst e2;rw[if_neg (by omega)]at a1;rw[if_pos rfl]at a2 ⊢;omega
    ·rw[if_neg (by omega)]at a2;rw[if_neg e2];by_cases e1:k=i1
     ·subst e1;rw[if_pos rfl]at a1 ⊢;omega
     ·rw[if_neg (by omega)]at a1;rw[if_neg e1];omega)
   have hV9:Bw K.T T3 w0 _:=((((((Bw.no K2 h0.lt).trans M3).trans M4).trans M5).trans M6).trans M7).trans (M8.trans M9);gi_wp2_with (first|(gi_at_call 152;refine(Cr _ _ 0 (by omega)).mono ?_;rintro e wz ⟨rfl,Kz⟩;obtain⟨w8,Ar,K8,b8⟩:=Af (x:=0) (y:=0) (f:=.nilFunc) (Kz.old (hV9.old rb E8) id) rfl)|refine Ae rfl _ _ _ rfl rfl rfl Ar ?_);refine TR 0 0 (by simp[results,results145,go_sem,Dz b8]) rfl ?_;exact AV (K':=KS.Cg { K with T:=T3,desc:=Az (Az K.desc i1 1) i2 1,ef:=Az (Az K.ef i1 none) i2 none } b { r with fds:=(r.fds.set j1 (i1:Int)).set j2 (i2:Int),Ah:=(r.Ah.set at_ j1).set (at_+1) j2 }) (x:=0) (y:=0) h.lt K0 BA ((hV9).then Kz) ((h9).no Kz) K8 (by omega) (by omega) (.inl rfl) (J5) (Fb) Al (fun _=>hm)
  ·skip
   gi_wp2_with (first|(gi_at_call 140;refine(AL _ _ xx).mono ?_;rintro e wz ⟨rfl,Kz⟩;obtain⟨w8,Ar,K8,b8⟩:=Af (x:=0) (y:=xx) (f:=.nilFunc) (Kz.old (K2.old rb id) id) rfl)|refine Ae rfl _ _ _ rfl rfl rfl Ar ?_);refine TR 0 xx (by simp[results,results145,go_sem,Dz b8]) rfl ?_;exact Br h hO hm hb K0 BA (K2.then Kz) K8 (by decide) (by omega)
 ·have cw:=fun m=>F7 b gi ci r.Ah.length 2 at_ m (w.alloc V_) q8 (by omega) (by omega) hat Dp
  gi_enter func145,ntmps145;gi_wp2_with (gi_at_call 138;refine(cw _).mono ?_;rintro e w1 ⟨rfl,hw⟩;have hw:=hw.symm;subst hw;generalize hw0:w.alloc V_=w0 at *);gi_wp2_with (first|(gi_at_call 140;refine(AL _ _ 1).mono ?_;rintro e wz ⟨rfl,Kz⟩;obtain⟨w8,Ar,K8,b8⟩:=Af (x:=0) (y:=1) (f:=.nilFunc) (Kz.old (rb) id) rfl)|refine Ae rfl _ _ _ rfl rfl rfl Ar ?_);refine TR 0 1 (by simp[results,results145,go_sem,Dz b8]) rfl ?_;exact Br h hO hm hb K0 BA Kz K8 (by decide) (by decide)
end
section
variable (m:Nat) (w:World)
theorem ac4 (cb bx pb:Nat) (x y:Int) (h1:w.cell? (T_ cb 1)=some (.int .i64 x)) (h2:w.cell? (S_ bx)=some (R_ pb)) (h3:w.cell? (S_ pb)=some (.int .i64 y)):
  CallsIn NF m prog 230 #[R_ cb,R_ bx] w fun e w'=>Ab No w w'/\∃z,e=.returned (.bool z):=by
 gi_enter func230,ntmps230;gi_wp2;refine AA (P:=prog) No _ rfl rfl (by kernel_rfl) 8 13 [0,1,2,3,4,5,6,7] [] (by kernel_rfl) (by rfl) (fun _ _ _=>True) (fun _ _ _ _ _ h _=>h) _ _ rfl rfl ?_;gi_wp2;refine⟨rfl,by kernel_rfl,?_,(fun i hi=>absurd hi (by simp)),?_⟩
 ·intro W hK;have d1:=hK.has (w:=w.drew) h1;have d2:=hK.has (w:=w.drew) h2;have d3:=hK.has (w:=w.drew) h3
  repeat' (refine Ao ?_ ?_)
  all_goals first|exact trivial|gi_wp2
 ·intro u W hK _;simp only[C9];have KW:Ab No w W:=(Ab.refl No w).drew.then hK;gi_wp2
  all_goals go_ret
  all_goals exact⟨KW,_,rfl⟩
theorem kE (g cap bx pb:Nat) (l:List Nat) (y:Int) (hR:Rw 119 1 w g l.length cap (Bf l)) (hc:∀b∈l,∃x:Int,w.cell? (T_ b 1)=some (.int .i64 x)) (h2:w.cell? (S_ bx)=some (R_ pb)) (h3:w.cell? (S_ pb)=some (.int .i64 y)) (hl:l.length<=100000):
  CallsIn NF m prog 238 #[.slice (some (S_ g)) l.length cap,.func (.func 230) #[] #[R_ bx]] w fun e w'=>Ab No w w'/\∃j:Int,e=.returned (.int .i64 j):=by
 gi_enter func238,ntmps238;gi_wp2;gi_loopw [8] (fun i wr=>∃k:Nat,k<=l.length/\i=.int .i64 k/\Ab No w wr) (fun i _=>l.length-(intOf i).toNat)
 case atStart=>exact⟨0,by omega,rfl,Ab.refl _ _⟩
 case round=>
  obtain⟨k,hk,rfl,KK⟩:=hrel
  by_cases BC:k<l.length
  ·have hg:l[k]?=some l[k]:=HZ BC;generalize l[k]=b at hg;have d0:wr.cell? (T_ g k)=some (R_ b):=(by rw[Rw.cell (hR.keep KK id) (by omega)];simp[Bf,hg,ptr]);obtain⟨x,hx⟩:=hc b (List.mem_of_getElem? hg);have c:=fun m=>ac4 m wr b bx pb x y (KK.has hx) (KK.has h2) (KK.has h3)
   gi_wp2_with (gi_at_call 230;refine(c _).mono ?_;rintro e w1 ⟨K1,z,rfl⟩;cases z)
   ·go_roundw
    case rel=>exact⟨k+1,by omega,by go_num,KK.then K1⟩
    case measure=>simp[intOf];omega
   ·go_ret;exact⟨KK.then K1,_,rfl⟩
  ·obtain rfl:k=l.length:=(by omega);gi_wp2;go_ret;exact⟨KK,_,rfl⟩
theorem YR (K:KS) (pb:Nat) (p:PR) (h:AQ K w) (hT:K.DF) (hp:K.ps pb=some p) (hl:K.AJ.length<=100):
  CallsIn NF m prog 194 #[R_ K.kb,R_ pb] w fun e w'=>Ab No w w'/\∃z,e=.returned (.bool z):=by
 have K0:Ab No w (w.alloc (.cells #[R_ pb] 119)):=(Ab.refl _ _).alloc _;have h0:=h.no K0;have q2:=h0.xy;have q0:=h0.FH hp 0;simp[PR.arr]at q0;have bx:(w.alloc (.cells #[R_ pb] 119)).heap[w.heap.size]?=some (.cells #[R_ pb] 119 (0,0)):=heap_alloc_new rfl;have c:=fun m=>kE m (w.alloc (.cells #[R_ pb] 119)) K.pg K.pc w.heap.size pb K.AJ p.pid h0.pr (fun b hb=>by
  obtain⟨r,hr⟩:=hT b hb
  exact⟨r.par,by rw[h0.FH hr];simp[PR.arr]⟩) ((Ag bx 0).trans rfl) q0 (by omega)
 gi_enter func194,ntmps194;gi_wp2_with (first|(gi_at_call 238;refine(c _).mono ?_;rintro e w1 ⟨K1,j,rfl⟩)|(gi_at_call 229;gi_in))
 all_goals go_ret
 all_goals exact⟨K0.then K1,_,rfl⟩
end
theorem Qp {NC NS b x y rb:Nat} {K K':KS} {w w0 w7 w8:World} {f:Value} {r':PR} (BC:∀k,w.heap.size<=k->K.T k=(0,0)) (K0:Ab No w w0) (hrb:w.heap.size<=rb) (BA:rb<w0.heap.size) (hV:Bw K.T K'.T w0 w7) (h7:AQ K' w7) (K8:Ab (At rb) w7 w8) (hx:x<65536) (hy:y<65536) (hf:IU K'.T w7 K'.kb b f) (hO:DZ NC NS K') (hR:Rel b K K') (hr:K'.ps b=some r') (FW:r'.en=false->b∈K'.AJ):ED NC NS b K w (.returned (.agg #[.int .u16 x,.int .u16 y,f])) w8:=by
 have t7:K'.T rb=(0,0):=(Ct.fresh hV _ BA).trans (BC _ hrb);have K9:Ab (On K'.T fun t=>t=(0,0)) w7 w8:=K8.on fun k _ e=>by rw[show k=rb from e];exact t7
 exact⟨K',x,y,f,rfl,hx,hy,hf.keep K9 (by simp),h7.own K8 t7,hO,hR,((Bw.no K0 BC).trans hV).own K8 (fun k e=>by rw[show k=rb from e];exact hrb),r',hr,FW⟩
theorem AQ.boxes {K:KS} {w w':World} {b x y:Nat} {r:PR} (h:AQ K w) (hb:K.ps b=some r) (hK:Ab No w w') (hx:w.heap.size<=x) (hxy:x<y) (hy:y<w'.heap.size) (h1:w'.heap[x]?=some (.cells #[ptr K.kb] 33 (0,0))) (h2:w'.heap[y]?=some (.cells #[ptr b] 119 (0,0))):AQ { K with T:=A8 (A8 K.T x (9,b)) y (9,b) } w'/\Bw K.T (A8 (A8 K.T x (9,b)) y (9,b)) w w'/\IU (A8 (A8 K.T x (9,b)) y (9,b)) w' K.kb b (.func (.func 196) #[] #[ptr x,ptr y]):=by
 have M1:Ct K.T (A8 K.T x (9,b)) (fun t=>t=(6,b)\/t=(7,b)\/t=(8,b)\/t=(9,b)) (fun t=>t=(6,b)\/t=(7,b)\/t=(8,b)\/t=(9,b)) w w':=Ct.row hK.no h.lt (.inr hx) (by omega) (.inr (.inr (.inr rfl)));have M2:Ct (A8 K.T x (9,b)) (A8 (A8 K.T x (9,b)) y (9,b)) (fun t=>t=(6,b)\/t=(7,b)\/t=(8,b)\/t=(9,b)) (fun t=>t=(6,b)\/t=(7,b)\/t=(8,b)\/t=(9,b)) w w':=⟨hK.no,fun k hk=>by
   by_cases e:k=y
   ·subst e;exact absurd (by rw[AY (by omega)];exact h.lt _ (by omega)) hk
   ·exact AY e,fun k h1 h2=>by
   by_cases e:k=y
   ·subst e;rw[BB];exact .inr (.inr (.inr rfl))
   ·rw[AY e]at h2;exact absurd h1 h2,fun k hk=>by rw[AY (by omega)];exact M1.lt k hk,fun k hk=>AY (by omega)⟩
 have M:Ct K.T (A8 (A8 K.T x (9,b)) y (9,b)) (fun t=>t=(6,b)\/t=(7,b)\/t=(8,b)\/t=(9,b)) (fun t=>t=(6,b)\/t=(7,b)\/t=(8,b)\/t=(9,b)) w w':=⟨hK.no,fun k hk=>(M2.old k (by rw[M1.old k hk];exact hk)).trans (M1.old k hk),fun k h1 h2=>by
   by_cases e:A8 K.T x (9,b) k=(0,0)
   ·exact M2.new k e h2
   ·rw[M2.old k e];exact M1.new k h1 e,M2.lt,fun k hk=>(M2.fresh k hk).trans (M1.fresh k hk)⟩
 have MN:Ct K.T (A8 (A8 K.T x (9,b)) y (9,b)) (fun _=>False) (fun t=>t=(6,b)\/t=(7,b)\/t=(8,b)\/t=(9,b)) w w':=⟨hK.no,M.old,M.new,M.lt,M.fresh⟩;have s:=h.WJ M ((h.ps b r hb).IY MN id id id id);have e:Cu K.ps b r=K.ps:=by funext k;unfold Cu;split;rename_i e;rw[e,hb];rfl
 rw[e]at s;exact⟨s,M.Qb (by rintro t (rfl|rfl|rfl|rfl)<;>simp),.inr (.inl ⟨x,y,rfl,h1,h2,(AY (by omega)).trans BB,BB⟩)⟩
section
variable (m:Nat) (w:World)
theorem ug (K:KS) (NC NS b at_:Nat) (r:PR) (h:AQ K w) (hO:DZ NC NS K) (hm:b∈K.AJ) (hb:K.ps b=some r) (hn:r.en=false) (hat:at_<65536):
  CallsIn NF m prog 143 #[R_ K.kb,R_ b,.int .u16 (at_:Nat)] w (ED NC NS b K w):=by
 have o:=hO.pr b r hb;have hL:=(hO.co.pl b r hb).1;have hl12:=hO.len;have K0:Ab No w (((w.alloc (.cells #[R_ K.kb] 33)).alloc (.cells #[R_ b] 119)).alloc V_):=(((Ab.refl _ _).alloc _).alloc _).alloc _;have s1:=HV w (.cells #[R_ K.kb] 33);have s2:((w.alloc (.cells #[R_ K.kb] 33)).alloc (.cells #[R_ b] 119)).heap.size=w.heap.size+2:=by rw[HV,HV]
 have rb:(((w.alloc (.cells #[R_ K.kb] 33)).alloc (.cells #[R_ b] 119)).alloc V_).heap[w.heap.size+2]?=some (.cells #[.int .u16 0,.int .u16 0,.nilFunc] 206 (0,0)):=by
  have:=heap_alloc_new (w:=(w.alloc (.cells #[R_ K.kb] 33)).alloc (.cells #[R_ b] 119)) (o:=V_) rfl
  rwa [s2]at this
 have bx:(((w.alloc (.cells #[R_ K.kb] 33)).alloc (.cells #[R_ b] 119)).alloc V_).heap[w.heap.size]?=some (.cells #[R_ K.kb] 33 (0,0)):=(((Ab.refl No _).alloc _).alloc _).old (heap_alloc_new (w:=w) (o:=(.cells #[R_ K.kb] 33)) rfl) id;have by_:(((w.alloc (.cells #[R_ K.kb] 33)).alloc (.cells #[R_ b] 119)).alloc V_).heap[w.heap.size+1]?=some (.cells #[R_ b] 119 (0,0)):=by
  have:=heap_alloc_new (w:=w.alloc (.cells #[R_ K.kb] 33)) (o:=(.cells #[R_ b] 119)) rfl
  rw[s1]at this
  exact((Ab.refl No _).alloc _).old this id
 have cx:(((w.alloc (.cells #[R_ K.kb] 33)).alloc (.cells #[R_ b] 119)).alloc V_).cell? (S_ w.heap.size)=some (R_ K.kb):=(Ag bx 0).trans rfl;have cy:(((w.alloc (.cells #[R_ K.kb] 33)).alloc (.cells #[R_ b] 119)).alloc V_).cell? (S_ (w.heap.size+1))=some (R_ b):=(Ag by_ 0).trans rfl;have BA:w.heap.size+2<(((w.alloc (.cells #[R_ K.kb] 33)).alloc (.cells #[R_ b] 119)).alloc V_).heap.size:=Co rb;have h0:=h.no K0;have E8:K.T (w.heap.size+2)=(0,0):=h.lt _ (by omega);obtain⟨gi,ci,q8,Jw,Zc,him⟩:=h0.Uu hb hn;have TF:=Jw.le;have cp:=fun m w1 (hK:Ab No (((w.alloc (.cells #[R_ K.kb] 33)).alloc (.cells #[R_ b] 119)).alloc V_) w1)=>YR m w1 K b r (h0.no hK) hO.th hb (by omega)
 have ce:=fun m w1 (hK:Ab No (((w.alloc (.cells #[R_ K.kb] 33)).alloc (.cells #[R_ b] 119)).alloc V_) w1)=>Yb m w1 K b r (h0.no hK) hO.th hb (by omega)
 clear s1 s2;by_cases Dp:at_+1<=r.Ah.length
 ·have cw:=fun m=>DN b gi ci r.Ah.length 1 at_ m (((w.alloc (.cells #[R_ K.kb] 33)).alloc (.cells #[R_ b] 119)).alloc V_) q8 (by omega) hat hL TF Dp
  gi_enter func143,ntmps143;gi_wp2_with (first|(gi_at_call 138;refine(cw _).mono ?_;rintro e w1 ⟨rfl,hw⟩;have hw:=hw.symm;subst hw)|(gi_at_call 194;refine(cp _ _ (Ab.refl No _)).mono ?_;rintro e w2 ⟨K2,z,rfl⟩;have cx2:=K2.has cx;have cy2:=K2.has cy;cases z))
  ·generalize hw0:((w.alloc (.cells #[R_ K.kb] 33)).alloc (.cells #[R_ b] 119)).alloc V_=w0 at*;gi_wp2_with (first|(gi_at_call 140;refine(AL _ _ 3).mono ?_;rintro e wz ⟨rfl,Kz⟩;obtain⟨w8,Ar,K8,b8⟩:=Af (x:=0) (y:=3) (f:=.nilFunc) (Kz.old (K2.old rb id) id) rfl)|refine Ae rfl _ _ _ rfl rfl rfl Ar ?_);refine TR 0 3 (by simp[results,results143,go_sem,Dz b8]) rfl ?_;exact Qp (K':=K) (x:=0) (y:=3) h.lt K0 (Nat.le_add_right _ 2) BA (((Bw.no K2 h0.lt)).then Kz) ((h0.no K2).no Kz) K8 (by omega) (by omega) (.inl rfl) (hO) (Rel.refl b K) hb (fun _=>hm)
  ·gi_wp2_with (first|(gi_at_call 195;refine(ce _ _ K2).mono ?_;rintro e w3 ⟨K3,v,rfl,hv⟩;have KK:=K2.then K3;have h3:=h0.no KK;obtain⟨w8,Ar,K8,b8⟩:=Af (x:=0) (y:=0) (f:=.func (.func 196) #[] #[R_ w.heap.size,R_ (w.heap.size+1)]) (KK.old rb id) rfl;rcases hv with rfl|⟨cb,rc,rfl,hcm,hcb,hce⟩)|refine Ae rfl _ _ _ rfl rfl rfl Ar ?_)
   ·generalize hw0:((w.alloc (.cells #[R_ K.kb] 33)).alloc (.cells #[R_ b] 119)).alloc V_=w0 at*;have n9:w.heap.size<w3.heap.size:=(by have:=KK.size;omega);obtain⟨hB,MB,IZ⟩:=h.boxes (x:=w.heap.size) (y:=w.heap.size+1) hb (K0.then KK) (Nat.le_refl _) (by omega) (by have:=KK.size;omega) (KK.old bx id) (KK.old by_ id);have tg:(A8 (A8 K.T w.heap.size (9,b)) (w.heap.size+1) (9,b)) (w.heap.size+2)=(0,0):=(by rw[AY (by omega),AY (by omega)];exact E8);obtain⟨J5,Fb⟩:=hO.fds (K1:={ K with T:=A8 (A8 K.T w.heap.size (9,b)) (w.heap.size+1) (9,b) }) (r':=r) (H:=Bi K.ps K.AJ) ⟨rfl⟩ hm hb rfl rfl rfl rfl rfl o ⟨hO.CY.ho,hO.CY.le,hO.CY.op,hO.CY.nd,hO.CY.nz,hO.CY.nm,hO.CY.dj⟩ fun i _=>rfl
    rw[EJ (K:={ K with T:=A8 (A8 K.T w.heap.size (9,b)) (w.heap.size+1) (9,b) }) hb]at J5 Fb;refine bodyPost_ret (v:=.agg #[.int .u16 0,.int .u16 0,.func (.func 196) #[] #[R_ w.heap.size,R_ (w.heap.size+1)]]) (by simp[results,results143,go_sem,Dz b8]) rfl ?_;have K9:Ab (On (A8 (A8 K.T w.heap.size (9,b)) (w.heap.size+1) (9,b)) fun t=>t=(0,0)) w3 w8:=K8.on fun k _ e=>by rw[show k=w.heap.size+2 from e];exact tg
    exact⟨{ K with T:=A8 (A8 K.T w.heap.size (9,b)) (w.heap.size+1) (9,b) },0,0,_,rfl,by omega,by omega,IZ.keep K9 (by simp),hB.own K8 tg,J5,Fb,MB.own K8 (fun k e=>by rw[show k=w.heap.size+2 from e];omega),r,hb,fun _=>hm⟩
   ·clear Ar K8 b8;have e3:=h3.FH hcb 3;have e1:=h3.FH hcb 1;have e0:=h3.FH hcb 0;simp[PR.arr]at e3 e1 e0;have z1:=h3.WA hcb 1;obtain⟨g3,c3,_,Rf,tg3,az7⟩:=h3.Uu hb hn;have egi:gi=g3/\ci=c3:=(by have:=him.symm.trans az7;simpa using this);obtain⟨rfl,rfl⟩:=egi;have zi:=Rf.fz at_;have qi:=Rf.cell (i:=at_) (by omega);obtain⟨xi,hxi⟩:∃v,(Aq r.Ah)[at_]?=some v:=⟨_,HZ (by simp[Aq];omega)⟩;have qi:=qi.trans hxi;have cx3:=K3.has cx2;have tcb:=(h3.ps cb rc hcb).t;have n1:¬gi=cb:=(fun e=>by rw[e,tcb]at Zc;simp at Zc);have n1':¬cb=gi:=(fun e=>n1 e.symm);have n2:¬gi=w.heap.size:=(fun e=>by rw[e,h.lt _ (Nat.le_refl _)]at Zc;simp at Zc);have n2':¬w.heap.size=gi:=(fun e=>n2 e.symm);have n3:¬cb=w.heap.size:=(fun e=>by rw[e,h.lt _ (Nat.le_refl _)]at tcb;simp at tcb);have n3':¬w.heap.size=cb:=(fun e=>n3 e.symm);have zR:cb≠b:=(fun e=>by rw[e,hb]at hcb;cases hcb;rw[hn]at hce;cases hce);obtain⟨h4,M4⟩:=h3.Rk (i:=at_) (x:=rc.st) hb hn him;have tH:(K.Cg b { r with Ah:=r.Ah.set at_ rc.st }).ps cb=some rc:=(BI zR).trans hcb;have h5:=h4.like (r':={ rc with par:=0 }) (i:=1) (v:=.int .i64 0) tH ⟨rfl,rfl,rfl,rfl,rfl⟩ rfl (h4.ps cb rc tH).bl;have M5:=h4.C8 tH (i:=1) (v:=.int .i64 0);obtain⟨hO4,lN⟩:=hO.fds (r':={ r with Ah:=r.Ah.set at_ rc.st }) (NZ.refl K) hm hb rfl rfl rfl rfl (by simp) ⟨o.A,o.B,o.P,o.st,o.pid,o.par,(fun x hx=>by rcases List.mem_or_eq_of_mem_set hx with hx|rfl;exact o.Ah x hx;exact(hO.pr cb rc hcb).st),o.fds,o.fd,(fun e=>by simp only[List.length_set];exact o.len e),(fun e=>absurd e (by simp[hn]))⟩ hO.CY (fun i _=>rfl);have hF:=J3.set tH 0;have yU:=hO4.ai4 hF (fun k q hk=>by
     have hk:Cu _ cb _ k=some q:=hk
     by_cases e:k=cb
     ·subst e;rw[Al]at hk;cases hk;exact .inr (by simp)
     ·rw[BI e]at hk;exact .inl hk)
    have cb5:=fun m=>iL m _ _ h5 yU.th (Nat.le_trans yU.len (by omega))
    have bj3:rc.pid<=60000:=(hO.pr cb rc hcb).pid;simp only[ptr];generalize hw0:((w.alloc (.cells #[R_ K.kb] 33)).alloc (.cells #[R_ b] 119)).alloc V_=w0 at*;gi_wp2_with (gi_at_call 158;refine(cb5 _).mono ?_;rintro e w6 ⟨rfl,h6,M6⟩;have e06:=h6.FH (b:=cb) (r:={ rc with par:=0 }) Al 0;simp[PR.arr]at e06);have WE:Bw K.T K.T w0 w6:=(((Bw.no KK h0.lt).trans M4).trans M5).trans M6;have hbB:((K.Cg b { r with Ah:=r.Ah.set at_ rc.st }).Cg cb { rc with par:=0 }).Ru.ps b=some { r with Ah:=r.Ah.set at_ rc.st }:=(BI zR.symm).trans Al;gi_wp2_with (first|(gi_at_call 152;refine(Cr _ _ rc.pid (by omega)).mono ?_;rintro e wz ⟨rfl,Kz⟩;obtain⟨w8,Ar,K8,b8⟩:=Af (x:=rc.pid) (y:=0) (f:=.nilFunc) (Kz.old (WE.old rb E8) id) rfl)|refine Ae rfl _ _ _ rfl rfl rfl Ar ?_);refine TR rc.pid 0 (by simp[results,results143,go_sem,Dz b8]) rfl ?_;exact Qp (K':=((K.Cg b { r with Ah:=r.Ah.set at_ rc.st }).Cg cb { rc with par:=0 }).Ru) (x:=rc.pid) (y:=0) h.lt K0 (Nat.le_add_right _ 2) BA ((WE).then Kz) ((h6).no Kz) K8 (by omega) (by omega) (.inl rfl) (yU.Ru) ((lN.trans (hF.rel b) (by rw[hb];simp) hO.th).trans (Xx _ b) (by rw[hb];simp) hO.th) hbB (fun _=>List.mem_filter.2 ⟨hm,by simp[UB,KS.Cg,BI zR.symm,Al,hn]⟩)
 ·have cw:=fun m=>F7 b gi ci r.Ah.length 1 at_ m (((w.alloc (.cells #[R_ K.kb] 33)).alloc (.cells #[R_ b] 119)).alloc V_) q8 (by omega) (by omega) hat Dp
  gi_enter func143,ntmps143;gi_wp2_with (gi_at_call 138;refine(cw _).mono ?_;rintro e w1 ⟨rfl,hw⟩;have hw:=hw.symm;subst hw);generalize hw0:((w.alloc (.cells #[R_ K.kb] 33)).alloc (.cells #[R_ b] 119)).alloc V_=w0 at*;gi_wp2_with (first|(gi_at_call 140;refine(AL _ _ 1).mono ?_;rintro e wz ⟨rfl,Kz⟩;obtain⟨w8,Ar,K8,b8⟩:=Af (x:=0) (y:=1) (f:=.nilFunc) (Kz.old (rb) id) rfl)|refine Ae rfl _ _ _ rfl rfl rfl Ar ?_);refine TR 0 1 (by simp[results,results143,go_sem,Dz b8]) rfl ?_;exact Qp (K':=K) (x:=0) (y:=1) h.lt K0 (Nat.le_add_right _ 2) BA (((Bw.no (Ab.refl No _) h0.lt)).then Kz) ((h0).no Kz) K8 (by omega) (by omega) (.inl rfl) (hO) (Rel.refl b K) hb (fun _=>hm)
end
def NT (T:Tag) (p gi gf:Nat):Tag:=A8 (A8 (A8 T p (6,p)) gi (7,p)) gf (8,p)
theorem AQ.ax8 {K:KS} {w w':World} {p gi gf ci cf:Nat} {r:PR} (h:AQ K w) (hK:Ab No w w') (lp:w.heap.size<=p) (li:w.heap.size<=gi) (lf:w.heap.size<=gf) (hpi:p≠gi) (hpf:p≠gf) (hif:gi≠gf) (ho:w'.heap[p]?=some r.obj) (hn:r.en=false) (IZ:r.bl=.nilFunc) (hi:r.im=.slice (some (S_ gi)) r.Ah.length ci) (hf:r.fd=.slice (some (S_ gf)) r.fds.length cf) (Jw:Rw 123 1 w' gi r.Ah.length ci (Aq r.Ah)) (yT:Rw 3 1 w' gf r.fds.length cf (Ep r.fds)):AQ { K with ps:=Cu K.ps p r,T:=NT K.T p gi gf } w'/\Bw K.T (NT K.T p gi gf) w w':=by
 have val:∀k,NT K.T p gi gf k=if k=gf then(8,p)else if k=gi then(7,p)else if k=p then(6,p)else K.T k:=fun k=>rfl
 have l1:=Co ho;have l2:=Jw.lt;have l3:=yT.lt;have z:∀k,w.heap.size<=k->K.T k=(0,0):=h.lt;have M:Ct K.T (NT K.T p gi gf) (fun t=>t=(6,p)\/t=(7,p)\/t=(8,p)\/t=(9,p)) (fun t=>t=(6,p)\/t=(7,p)\/t=(8,p)\/t=(9,p)) w w':=by
  refine⟨hK.no,fun k hk=>?_,fun k h1 h2=>?_,fun k hk=>?_,fun k hk=>?_⟩
  ·rw[val,if_neg (by rintro rfl;exact hk (z _ lf)),if_neg (by rintro rfl;exact hk (z _ li)),if_neg (by rintro rfl;exact hk (z _ lp))]
  ·rw[val]at h2 ⊢;split
   ·exact .inr (.inr (.inl rfl))
   ·split
    ·exact .inr (.inl rfl)
    ·split
     ·exact .inl rfl
     ·rename_i a b c;rw[if_neg a,if_neg b,if_neg c]at h2;exact absurd h1 h2
  ·rw[val,if_neg (by omega),if_neg (by omega),if_neg (by omega)];exact z k (Nat.le_trans hK.size hk)
  ·rw[val,if_neg (by omega),if_neg (by omega),if_neg (by omega)]
 refine⟨h.WJ M ⟨?_,ho,fun _=>⟨gi,ci,hi,Jw,?_⟩,fun _=>⟨gf,cf,hf,yT,?_⟩,by rw[IZ];exact .inl rfl,fun e=>absurd e (by simp[hn])⟩,M.Qb (by rintro t (rfl|rfl|rfl|rfl)<;>simp)⟩
 ·rw[val,if_neg hpf,if_neg hpi,if_pos rfl]
 ·rw[val,if_neg hif,if_pos rfl]
 ·rw[val,if_pos rfl]
theorem AQ.vJ {K:KS} {w:World} {p:Nat} {r:PR} (h:AQ { K with ps:=Cu K.ps p r } w) (hp:K.ps p=none):AQ K w:=by
 obtain⟨⟨ks,k1,k2⟩,mc,ms,pr,ps,fl,tk,tc,ts,tp,lt⟩:=h;refine⟨⟨ks,k1,k2.ps K.ps⟩,mc,ms,pr,fun b q e=>ps b q ?_,fl,tk,tc,ts,tp,lt⟩;show Cu K.ps p r b=some q;rw[BI (by rintro rfl;rw[hp]at e;cases e)];exact e
theorem ao9 {T:Tag} {w:World} {g c n b vb c2:Nat} {l:List Nat} {ty:TypeId} (hR:Rw 119 1 w g n c (Bf l)) (hn:n=l.length) (hb:w.cell? (S_ vb)=some (ptr b)) (hl:n<=1000) (tg:T g=(4,0)):∃g' c' W,(Builtin.append_ #[100,100] ty #[.slice (some (S_ g)) n c,.slice (some (S_ vb)) 1 c2]).run prog w=.ok (.slice (some (S_ g')) (n+1) c') W/\Rw 119 1 W g' (n+1) c' (Bf (l++[b]))/\(T g'=(4,0)\/w.heap.size<=g')/\Ab (On T fun t=>t=(4,0)) w W:=by
 have hs:∀j u,(Bf [b])[j]?=some u->w.cell? (((S_ vb):Addr).add j)=some u:=fun j u hj=>by
  match j,hj with
  | 0,hj=>
   simp[Bf]at hj;subst hj
   have JA:((S_ vb):Addr).add 0=(S_ vb):=by unfold Addr.add;split<;>simp_all
   rw[JA];exact hb
 have ho:∀u∈Bf [b],u.oneCell'=true:=fun u hu=>by simp[Bf]at hu;subst hu;rfl
 have ep:Bf (l++[b])=Bf l++Bf [b]:=by simp[Bf]
 obtain⟨g',BK,w',hr,Fb,hg⟩:=WV (ty:=ty) (sCap:=c2) (m:=1) ym hR (ys:=Bf [b]) rfl hs ho (by omega) (by omega);refine⟨g',BK,w',hr,by rw[ep];exact Fb,?_,?_⟩
 ·rcases hg with⟨rfl,_⟩|⟨rfl,_⟩
  ·exact .inl tg
  ·exact .inr (Nat.le_refl _)
 ·rcases hg with⟨rfl,hK⟩|⟨rfl,hK⟩
  ·exact hK.on fun x _ e=>by subst e;exact tg
  ·exact hK.no
def iR (K:KS) (p:Nat) (r:PR) (w:World) (e:Ending) (w':World):Prop:=(e=.returned (.bool false)/\AQ K w'/\Bw K.T K.T w w')\/∃a g c T',e=.returned (.bool true)/\(Aw K.swap (Ap r.Ah.length)).1=some a/\AQ { K with swap:=(Aw K.swap (Ap r.Ah.length)).2,BM:=K.BM+1,AJ:=K.AJ++[p],pg:=g,pc:=c,ps:=Cu K.ps p { r with pid:=K.BM+1,sw:=a,co:=-1 },T:=T' } w'/\Bw K.T T' w w'
def yw (K:KS) (n:Nat) (w1:World) (v:Value) (W:World):Prop:=v=.tuple #[tA (Aw K.swap n).1,tB (Aw K.swap n).1]/\AQ { K with swap:=(Aw K.swap n).2 } W/\Bw K.T K.T w1 W
section
variable (m:Nat) (w:World)
theorem wT (K:KS) (p NS:Nat) (r:PR) (h:AQ K w) (hp:K.ps p=some r) (hL:r.Ah.length<=128) (hF:Fit NS K.swap) (hNS:NS<=1000) (fZ:K.BM<=100000) (hl:K.AJ.length<=100):
  CallsIn NF m prog 46 #[R_ K.kb,R_ p] w (iR K p r w):=by
 obtain⟨a8,c8,q8⟩:=h.im8 hp;have h0:AQ K w.drew:=h.no (Ab.refl No w).drew;have bk:p≠K.kb:=fun e=>by have:=(h.ps p r hp).t;rw[e,h.tk]at this;simp at this
 have bc:p≠K.sg:=fun e=>by have:=(h.ps p r hp).t;rw[e,h.ts]at this;simp at this
 gi_enter func46,ntmps46;gi_wp2;refine BZ (P:=prog) _ rfl rfl (by kernel_rfl) 10 49 [0,1,2,3,4] [5,6,7,8,9] (by kernel_rfl) (by rfl)
  (J2 (TM K.kb K.sg) w.drew 5 (yw K (Ap r.Ah.length) w.drew) [(6,.tuple #[tA (Aw K.swap (Ap r.Ah.length)).1,tB (Aw K.swap (Ap r.Ah.length)).1]),(7,tA (Aw K.swap (Ap r.Ah.length)).1),(8,tB (Aw K.swap (Ap r.Ah.length)).1),(9,tA (Aw K.swap (Ap r.Ah.length)).1)]) (EF (by simp) (by simp)) _ _ rfl rfl ?_;gi_wp2_with (gi_at_call 58;refine(El _ w.drew p _ _ _ q8 (by omega)).mono ?_;rintro e w1 ⟨rfl,rfl⟩);refine⟨rfl,by kernel_rfl,Dg,?_,?_,?_⟩
 ·intro L' u W hI;have d8:=(hI.1.cell (w:=w.drew) (p:=(T_ p 8)) (h.plt hp) (by rintro(h|h)<;>contradiction)).trans q8
  repeat' (refine Ao ?_ ?_)
  all_goals first|exact trivial|gi_wp2_with (gi_at_call 58;refine(El _ W p _ _ _ d8 (by omega)).mono ?_;rintro e w1 ⟨rfl,rfl⟩)
 ·intro i hi L' u W hI Nf hu;rcases(by simpa using hi:i=5\/i=6\/i=7\/i=8\/i=9)with rfl|rfl|rfl|rfl|rfl
  ·obtain rfl:=hI.2.1 Nf;refine Bh rfl fun KK Ko=>?_
   show wpListIn NF m prog _ _ _ (Act.put (Act.put (Act.put (Act.put (Act.put _ (some 13) (u 5)) (some 7) (u 6)) (some 14) (u 7)) (some 15) (u 8)) (some 5) (u 9)) _;gi_wp2_with fail;refine(ow _ w.drew K (Ap r.Ah.length) NS h0 hF (by omega) (by unfold Ap;omega)).mono ?_;rintro e w1 ⟨rfl,h1,M1,K1⟩;rw[Pq];gi_wp2;exact⟨_,rfl,EG hI (by simp) K1 ⟨rfl,h1,M1⟩⟩
  ·have e5:=(hI.2.2.1 (hu 5 (by simp) (by decide))).1;exact Xe rfl rfl rfl ⟨_,rfl,Es hI (by decide) e5 (by simp)⟩
  ·have e6:=hI.2.2.2 (6,.tuple #[tA (Aw K.swap (Ap r.Ah.length)).1,tB (Aw K.swap (Ap r.Ah.length)).1]) (by simp) (hu 6 (by simp) (by decide));exact NV rfl rfl rfl e6 rfl ⟨_,rfl,EK hI (by decide) (by simp)⟩
  ·have e6:=hI.2.2.2 (6,.tuple #[tA (Aw K.swap (Ap r.Ah.length)).1,tB (Aw K.swap (Ap r.Ah.length)).1]) (by simp) (hu 6 (by simp) (by decide));exact NV rfl rfl rfl e6 rfl ⟨_,rfl,EK hI (by decide) (by simp)⟩
  ·have e7:=hI.2.2.2 (7,tA (Aw K.swap (Ap r.Ah.length)).1) (by simp) (hu 7 (by simp) (by decide));exact Xf rfl rfl rfl ⟨_,rfl,Es hI (by decide) e7 (by simp)⟩
 ·intro L' u W hI hL';obtain⟨e5,h1,M1⟩:=hI.2.2.1 (hL' 5 (by simp));have e8:=hI.2.2.2 (8,tB (Aw K.swap (Ap r.Ah.length)).1) (by simp) (hL' 8 (by simp));have e9:=hI.2.2.2 (9,tA (Aw K.swap (Ap r.Ah.length)).1) (by simp) (hL' 9 (by simp));have e6:=hI.2.2.2 (6,.tuple #[tA (Aw K.swap (Ap r.Ah.length)).1,tB (Aw K.swap (Ap r.Ah.length)).1]) (by simp) (hL' 6 (by simp));have e7:=hI.2.2.2 (7,tA (Aw K.swap (Ap r.Ah.length)).1) (by simp) (hL' 7 (by simp));simp only at e6 e7 e8 e9;show wpListIn NF m prog _ _ _ (Act.put (Act.put (Act.put (Act.put (Act.put _ (some 13) (u 5)) (some 7) (u 6)) (some 14) (u 7)) (some 15) (u 8)) (some 5) (u 9)) _;rw[e5,e6,e7,e8,e9];have MW:Bw K.T K.T w W:=(Bw.no (Ab.refl No w).drew h.lt).trans M1;have hnone:(Aw K.swap (Ap r.Ah.length)).1=none->(Aw K.swap (Ap r.Ah.length)).2=K.swap:=by
   intro e
   unfold Aw at e ⊢
   split
   ·rfl
   ·rename_i hh;rw[if_neg hh]at e;cases hx:K.swap.findIdx? (fun r_1=>decide (Ap r.Ah.length<=r_1.2))with
    | none=>rfl
    | some i=>rw[hx]at e;simp only at e ⊢;cases hy:K.swap[i]? with
     | none=>rfl
     | some q=>rw[hy]at e;simp at e
  clear hI e5 e6 e7 e8 e9 hL' M1;generalize hsw:(Aw K.swap (Ap r.Ah.length)).2=l' at*;cases ho:(Aw K.swap (Ap r.Ah.length)).1 with
  | none=>
   have hl':=hnone ho
   simp only[tA,tB,Option.getD_none,Option.isSome_none]
   gi_wp2
   go_ret
   rw[hl']at h1
   exact .inl ⟨by simp,h1,MW⟩
  | some a=>
   clear hnone
   simp only[tA,tB,Option.getD_some,Option.isSome_some]
   obtain⟨ks,hk,hC⟩:=h1.k
   have c3:=(Ag hk 3).trans hC.c3
   have z3:=BF hk 3
   have M3:Ct K.T K.T (fun t=>t=(1,0)\/t=(4,0)) (fun t=>t=(4,0)) W (W.setCell (T_ K.kb 3) (.int .i64 ((K.BM+1:Nat):Int))):=Ct.of ((Ab.refl _ _).setCell _ fun _=>.inl h1.tk) h1.lt
   have Kk3:Ab (At K.kb) W (W.setCell (T_ K.kb 3) (.int .i64 ((K.BM+1:Nat):Int))):=(Ab.refl _ _).setCell _ fun _=>rfl
   have hpg:K.kb≠K.pg:=fun e=>by have:=h1.tk;simp only at this;rw[e]at this;rw[show K.T K.pg=(4,0)from h1.tp]at this;simp at this
   have h2:AQ { K with swap:=l',BM:=K.BM+1 } _:=h1.R8 (BM:=K.BM+1) (g:=K.pg) (c:=K.pc) (l:=K.AJ) M3 hC (Aj hk _) (MG (by rw[FE (by omega)];exact hC.c2)).symm (Rw.keep h1.pr Kk3 (fun e=>hpg e.symm)) h1.tp
   push_cast at h2 M3
   have p2:({ K with swap:=l',BM:=K.BM+1 }:KS).ps p=some r:=hp
   have h3:=h2.like (r':={ r with pid:=K.BM+1 }) (i:=0) (v:=.int .i64 ((K.BM:Int)+1)) p2 ⟨rfl,rfl,rfl,rfl,rfl⟩ rfl (h2.ps p r p2).bl
   have N3:=h2.C8 p2 (i:=0) (v:=.int .i64 ((K.BM:Int)+1))
   have h4:=h3.like (r':={ r with pid:=K.BM+1,sw:=a }) (i:=10) (v:=.int .i64 (a:Nat)) Al ⟨rfl,rfl,rfl,rfl,rfl⟩ rfl (h3.ps p _ Al).bl
   have N4:=h3.C8 Al (i:=10) (v:=.int .i64 (a:Nat))
   have h5:=h4.like (r':={ r with pid:=K.BM+1,sw:=a,co:=-1 }) (i:=11) (v:=.int .i64 (-1)) Al ⟨rfl,rfl,rfl,rfl,rfl⟩ rfl (h4.ps p _ Al).bl
   have N5:=h4.C8 Al (i:=11) (v:=.int .i64 (-1))
   simp only[Pk]at h3 h4 h5
   have q0:=h2.FH p2 0
   have rW:=h2.FH p2 10
   have q11:=h2.FH p2 11
   simp[PR.arr]at q0 rW q11
   have y0:=h2.WA p2 0
   have y10:=h2.WA p2 10
   have y11:=h2.WA p2 11
   have w5s:((((W.setCell (T_ K.kb 3) (.int .i64 ((K.BM:Int)+1))).setCell (S_ p) (.int .i64 ((K.BM:Int)+1))).setCell (T_ p 10) (.int .i64 (a:Nat))).setCell (T_ p 11) (.int .i64 (-1))).heap.size=W.heap.size:=by simp
   obtain⟨ks5,hk5,hC5⟩:=h5.k
   have d2:=(Ag hk5 2).trans hC5.c2
   have hN:Bw K.T K.T W ((((W.setCell (T_ K.kb 3) (.int .i64 ((K.BM:Int)+1))).setCell (S_ p) (.int .i64 ((K.BM:Int)+1))).setCell (T_ p 10) (.int .i64 (a:Nat))).setCell (T_ p 11) (.int .i64 (-1))):=(((M3.Qb (by rintro t (rfl|rfl)<;>simp)).trans N3).trans N4).trans N5
   have K6:Ab No ((((W.setCell (T_ K.kb 3) (.int .i64 ((K.BM:Int)+1))).setCell (S_ p) (.int .i64 ((K.BM:Int)+1))).setCell (T_ p 10) (.int .i64 (a:Nat))).setCell (T_ p 11) (.int .i64 (-1))) (((((W.setCell (T_ K.kb 3) (.int .i64 ((K.BM:Int)+1))).setCell (S_ p) (.int .i64 ((K.BM:Int)+1))).setCell (T_ p 10) (.int .i64 (a:Nat))).setCell (T_ p 11) (.int .i64 (-1))).alloc (.cells #[R_ p] 119)):=(Ab.refl _ _).alloc _
   have bv:(((((W.setCell (T_ K.kb 3) (.int .i64 ((K.BM:Int)+1))).setCell (S_ p) (.int .i64 ((K.BM:Int)+1))).setCell (T_ p 10) (.int .i64 (a:Nat))).setCell (T_ p 11) (.int .i64 (-1))).alloc (.cells #[R_ p] 119)).cell? (S_ W.heap.size)=some (ptr p):=by
    have:=heap_alloc_new (w:=(((W.setCell (T_ K.kb 3) (.int .i64 ((K.BM:Int)+1))).setCell (S_ p) (.int .i64 ((K.BM:Int)+1))).setCell (T_ p 10) (.int .i64 (a:Nat))).setCell (T_ p 11) (.int .i64 (-1))) (o:=.cells #[R_ p] 119) rfl
    rw[w5s]at this
    exact(Ag this 0).trans rfl
   obtain⟨g',c',Wa,Fq,hRa,hga,hKa⟩:=ao9 (T:=K.T) (ty:=100) (c2:=1) (l:=K.AJ) (Rw.keep h5.pr K6 id) rfl bv (by show K.AJ.length<=1000;omega) h5.tp
   have hka:=hKa.old (K6.old hk5 id) (by unfold On;rw[show K.T K.kb=(1,0)from h1.tk];simp)
   have ca:=(Ag hka 2).trans hC5.c2
   have za:=BF hka 2
   gi_wp2_with (refine BL rfl (.tmp 43) (.tmp 45) _ rfl rfl rfl Fq ?_)
   go_ret
   have hgk:g'≠K.kb:=fun e=>by
    rcases hga with hg|hg
    ·rw[e,show K.T K.kb=(1,0)from h1.tk]at hg;simp at hg
    ·have:=Co hk;have:=K6.size;rw[w5s]at this;omega
   have KF:Ab (On K.T fun t=>t=(1,0)\/t=(4,0)) ((((W.setCell (T_ K.kb 3) (.int .i64 ((K.BM:Int)+1))).setCell (S_ p) (.int .i64 ((K.BM:Int)+1))).setCell (T_ p 10) (.int .i64 (a:Nat))).setCell (T_ p 11) (.int .i64 (-1))) (Wa.setCell (T_ K.kb 2) (.slice (some (S_ g')) (K.AJ.length+1) c')):=(K6.no.then (hKa.on fun k _ e=>.inr e)).setCell _ fun _=>.inl h1.tk
   have hKs:Ab (At K.kb) Wa (Wa.setCell (T_ K.kb 2) (.slice (some (S_ g')) (K.AJ.length+1) c')):=(Ab.refl _ _).setCell _ fun _=>rfl
   have MF:Ct K.T (A8 K.T g' (4,0)) (fun t=>t=(1,0)\/t=(4,0)) (fun t=>t=(4,0)) _ (Wa.setCell (T_ K.kb 2) (.slice (some (S_ g')) (K.AJ.length+1) c')):=Ct.row KF h5.lt (hga.imp id fun x=>Nat.le_trans K6.size x) (Nat.lt_of_lt_of_le hRa.lt hKs.size) rfl;have el:(K.AJ++[p]).length=K.AJ.length+1:=(by simp);have h9:=h5.R8 (BM:=K.BM+1) (g:=g') (c:=c') (l:=K.AJ++[p]) MF hC5 (Aj hka _) (by rw[MG hC5.c3,el]) (by rw[el];exact hRa.keep hKs hgk) BB;exact .inr ⟨a,g',c',A8 K.T g' (4,0),by simp,ho,by rw[hsw];exact h9,(MW.trans hN).trans (MF.Qb (by rintro t (rfl|rfl)<;>simp))⟩
end
theorem pV {f:Nat->Nat} {b:Nat}:CS f [b]=f b:=by simp[CS]
theorem DZ.born {NC NS b p:Nat} {K K1:KS} {q:PR} (h:DZ NC NS K) (hp:K.ps p=none) (hl:K.AJ.length<12) (hc:K.BM<60000) (ho:q.Ok) (NQ:q.pid=K.BM+1) (GA:q.co=-1) (hL:q.Ah.length<=128) (ha:(Aw K.swap (Ap q.Ah.length)).1=some q.sw) (ht:Dx (fun i=>Bi K.ps K.AJ i+q.fds.count (i:Int)) K1) (hK:K1={ K with swap:=(Aw K.swap (Ap q.Ah.length)).2,BM:=K.BM+1,AJ:=K.AJ++[p],ps:=Cu K.ps p q,pg:=K1.pg,pc:=K1.pc,T:=K1.T,desc:=K1.desc }):DZ NC NS K1/\Rel b K K1:=by
 have e1:K1.ps=Cu K.ps p q:=by rw[hK]
 have e2:K1.AJ=K.AJ++[p]:=by rw[hK]
 have e3:K1.swap=(Aw K.swap (Ap q.Ah.length)).2:=by rw[hK]
 have e4:K1.BM=K.BM+1:=by rw[hK]
 have e5:K1.core=K.core:=by rw[hK]
 have e6:K1.kb=K.kb:=by rw[hK]
 have hpn:p ∉ K.AJ:=fun hm=>by obtain⟨r,hr⟩:=h.th p hm;rw[hp]at hr;cases hr
 have nem:∀k∈K.AJ,k≠p:=fun k hk e=>hpn (e ▸ hk)
 have old:∀k r,K.ps k=some r->K1.ps k=some r:=fun k r hk=>by rw[e1,BI (by rintro rfl;rw[hp]at hk;cases hk)];exact hk
 have new:K1.ps p=some q:=by rw[e1];exact Al
 have back:∀k r,K1.ps k=some r->(k=p/\r=q)\/(k≠p/\K.ps k=some r):=fun k r hk=>by
  rw[e1]at hk
  by_cases e:k=p
  ·subst e;rw[Al]at hk;cases hk;exact .inl ⟨rfl,rfl⟩
  ·rw[BI e]at hk;exact .inr ⟨e,hk⟩
 have sums:∀f g:Nat->Nat,(∀k,k≠p->f k=g k)->CS f K1.AJ=CS g K.AJ+f p:=fun f g hf=>by
  rw[e2,Xr,pV,CV fun k hk=>hf k (nem k hk)]
 obtain⟨t1,_,t3⟩:=IC (n:=Ap q.Ah.length) h.sw.so;obtain⟨s1,s2,s3⟩:=t3 _ ha;have th:K1.DF:=fun k hk=>by
  rw[e2]at hk
  rcases List.mem_append.1 hk with hk|hk
  ·obtain⟨r,hr⟩:=h.th k hk;exact⟨r,old k r hr⟩
  ·obtain rfl:k=p:=(by simpa using hk);exact⟨q,new⟩
 refine⟨⟨th,?_,by rw[e2];simp;omega,⟨h.co.le,by rw[e5];exact h.co.so,?_,fun k r hk=>?_⟩,⟨h.sw.le,by rw[e3];exact t1,?_,fun k r hk hn=>?_⟩,fun k r hk=>?_,fun k r hk=>?_,fun k r k' r' h1 h2 h3 h4 h5=>?_,by rw[e4];omega,ht.congr fun i _=>?_⟩,⟨fun k r h1 h2 _=>.inl ⟨by rw[e2];simp[h1],r,old k r h2,.refl r⟩,fun k hk=>?_,fun k hk=>?_,fun r hr=>⟨r,old b r hr,rfl⟩,by rw[e4];omega,e6,fun _=>th⟩⟩
 ·rw[e2,List.nodup_append];exact⟨h.nd,by simp,fun a ha b hb=>by obtain rfl:b=p:=(by simpa using hb);exact nem a ha⟩
 ·rw[sums (Mf K1.ps) (Mf K.ps) (fun k hk=>by unfold Mf;rw[e1,BI hk]),DV new,if_pos GA,e5];exact h.co.sum
 ·rcases back k r hk with⟨rfl,rfl⟩|⟨_,hk⟩
  ·exact⟨hL,.inl GA⟩
  ·exact h.co.pl k r hk
 ·rw[sums (Vk K1.ps) (Vk K.ps) (fun k hk=>by unfold Vk;rw[e1,BI hk]),GX new,e3];have:=h.sw.sum;omega
 ·rcases back k r hk with⟨rfl,rfl⟩|⟨_,hk⟩
  ·exact s2
  ·exact h.sw.pl k r hk hn
 ·rcases back k r hk with⟨rfl,rfl⟩|⟨_,hk⟩
  ·exact ho
  ·exact h.pr k r hk
 ·rcases back k r hk with⟨rfl,rfl⟩|⟨_,hk⟩
  ·rw[NQ,e4];omega
  ·have:=h.pid k r hk;rw[e4];omega
 ·have lt:∀k r,K.ps k=some r->r.pid≠q.pid:=fun k r hk=>by have:=(h.pid k r hk).2;omega
  have mem:∀k∈K1.AJ,k≠p->k∈K.AJ:=fun k hk hn=>by rw[e2]at hk;simpa [hn]using hk
  rcases back k r h3 with⟨rfl,rfl⟩|⟨n1,h3⟩
  ·rcases back k' r' h4 with⟨rfl,rfl⟩|⟨_,h4⟩
   ·rfl
   ·exact absurd h5.symm (lt _ _ h4)
  ·rcases back k' r' h4 with⟨rfl,rfl⟩|⟨n2,h4⟩
   ·exact absurd h5 (lt _ _ h3)
   ·exact h.one k r k' r' (mem k h1 n1) (mem k' h2 n2) h3 h4 h5
 ·show CS (GJ K1.ps i) K1.AJ=CS (GJ K.ps i) K.AJ+_;rw[sums (GJ K1.ps i) (GJ K.ps i) (fun k hk=>by unfold GJ;rw[e1,BI hk]),Fw new]
 ·rw[e2]at hk;rcases List.mem_append.1 hk with hk|hk
  ·exact .inl hk
  ·obtain rfl:k=p:=(by simpa using hk);refine .inr ⟨hp,fun r hr=>?_⟩;rw[new]at hr;cases hr;omega
 ·cases hx:K.ps k with
  | none=>exact absurd hx hk
  | some r=>rw[old k r hx];simp
end Go.Fxa
