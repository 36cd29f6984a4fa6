/- A pipe is written into. -/
import Derived.Test.YtmhplpfpcnjekaaGreatA26
namespace Go.Fxa
open Conc Proofs RowKit Proofs.Tryz
set_option maxRecDepth 1000000
set_option maxHeartbeats 0
def NK (K:KS) (b:Nat) (w:World) (e:Ending) (w':World):Prop:=∃(T':Tag) (x y:Nat) (f:Value),e=.returned (.agg #[.int .u16 x,.int .u16 y,f])/\x<65536/\y<65536/\IU T' w' K.kb b f/\AQ { K with T:=T' } w'/\Bw K.T T' w w'
theorem Ck {b x y:Nat} {K:KS} {T':Tag} {w w0 w7 w8:World} {f:Value} (BC:∀k,w.heap.size<=k->K.T k=(0,0)) (K0:Ab No w w0) (BA:w.heap.size<w0.heap.size) (hV:Bw K.T T' w0 w7) (h7:AQ { K with T:=T' } w7) (K8:Ab (At w.heap.size) w7 w8) (hx:x<65536) (hy:y<65536) (hf:IU T' w7 K.kb b f):NK K b w (.returned (.agg #[.int .u16 x,.int .u16 y,f])) w8:=by
 have t7:T' w.heap.size=(0,0):=(Ct.fresh hV _ BA).trans (BC _ (Nat.le_refl _));have K9:Ab (On T' fun t=>t=(0,0)) w7 w8:=K8.on fun k _ e=>by rw[show k=w.heap.size from e];exact t7
 exact⟨T',x,y,f,rfl,hx,hy,hf.keep K9 (by simp),AQ.own h7 K8 t7,((Bw.no K0 BC).trans hV).own K8 (fun k e=>by rw[show k=w.heap.size from e];exact Nat.le_refl _)⟩
theorem Hm.words {K:KS} {w:World} {b n:Nat} {r:PR} {d:Option Addr} (h:AQ K w) (hb:K.ps b=some r) (hn:r.en=false) (hI:∀z∈r.Ah,z<65536) (hv:Hm r (.slice d n n)) (k:Nat) (hk:k<=n):∃ys:List Nat,ys.length=k/\(∀x∈ys,x<65536)/\(k=0\/∃ad,d=some ad/\∀j v,(Aq ys)[j]?=some v->w.cell? (ad.add j)=some v):=by
 rcases hv with e|⟨g,c,o,n',h1,e,hn1,Dp⟩
 ·cases e;obtain rfl:k=0:=by omega
  exact⟨[],rfl,by simp,.inl rfl⟩
 ·cases e;obtain⟨g',c',_,hR,tg,him⟩:=h.Uu hb hn;obtain⟨rfl,rfl⟩:g=g'/\c=c':=by rw[him]at h1;simp at h1;exact⟨h1.1.symm,h1.2.symm⟩
  refine⟨(r.Ah.drop o).take k,by simp;omega,fun x hx=>hI x (List.mem_of_mem_drop (List.mem_of_mem_take hx)),.inr ⟨_,rfl,fun j v hj=>?_⟩⟩;have JA:((T_ g o):Addr).add j=(T_ g (o+j)):=by unfold Addr.add;split<;>simp_all
  simp only[Aq,List.map_take,List.map_drop,List.getElem?_take,List.getElem?_drop]at hj;split at hj
  ·rename_i hjk;rw[JA,hR.cell (by omega)];exact hj
  ·cases hj
section
variable (m:Nat) (w:World)
theorem UK (K:KS) (b e0:Nat) (r:PR) (v:Value) (h:AQ K w) (hb:K.ps b=some r) (hn:r.en=false) (hI:∀z∈r.Ah,z<65536) (hL:r.Ah.length<=128) (te:K.T e0=(14,0)) (hv:Hm r v):
  CallsIn NF m prog 275 #[R_ e0,v] w (NK K b w):=by
 obtain⟨K0,rb,BA⟩:=FU w;have h0:=h.no K0;have E8:K.T w.heap.size=(0,0):=h.lt _ (Nat.le_refl _);obtain⟨d0,n,rfl,an9⟩:∃d n,v=.slice d n n/\n<=128:=by
  rcases hv with rfl|⟨g,c,o,n,_,rfl,_,_⟩
  ·exact⟨none,0,rfl,by omega⟩
  ·exact⟨_,n,rfl,by omega⟩
 obtain⟨p,he,tp⟩:=h0.fl.Oo e0 te;have d1:(w.alloc V_).cell? (S_ e0)=some (R_ p):=(Ag he 0).trans rfl;obtain⟨u,x,y,hp,hu⟩:=h0.fl.pipe p tp;obtain⟨a,ws,c',rfl,hwc,hw16,hwx,hwn,hws⟩:=hu.shape;have q0:(w.alloc V_).cell? (S_ p)=some (.slice a ws.length c'):=(Ag hp 0).trans rfl;have q1:(w.alloc V_).cell? (T_ p 1)=some (.bool x):=(Ag hp 1).trans rfl;obtain⟨k16,bi7⟩:∃k16:Nat,(16:Int)-(ws.length:Int)=(k16:Int):=⟨16-ws.length,by omega⟩;cases x with
 | false=>
  gi_enter func275,ntmps275
  gi_wp2_with fail
  gi_wp2_with (first|(gi_at_call 273;refine(En _ _ 11).mono ?_;rintro e wz ⟨rfl,Kz⟩;obtain⟨w8,Ar,K8,b8⟩:=Af (x:=0) (y:=11) (f:=.nilFunc) (Kz.old (rb) id) rfl)|refine Ae rfl _ _ _ rfl rfl rfl Ar ?_)
  refine TR 0 11 (by simp[results,results275,go_sem,Dz b8]) rfl ?_
  exact Ck (T':=K.T) (x:=0) (y:=11) h.lt K0 BA (((Bw.no (Ab.refl No _) h0.lt)).then Kz) ((h0).no Kz) K8 (by omega) (by omega) (.inl rfl)
 | true=>
  have cs:=fun m=>Tt m _ K p h0 tp
  by_cases hz:n=0
  ·subst hz;have K1:Ab No (w.alloc V_) (w.alloc V_):=Ab.refl _ _;gi_enter func275,ntmps275;gi_wp2;have d1w:=d1;have q0w:=q0;generalize hw0:w.alloc V_=w0 at*;have h1d:AQ K w0.drew:=h0.no K1.drew;obtain⟨ys,hyl,hyx,rY⟩:=hv.words h1d hb hn hI 0 (Nat.le_refl 0);obtain⟨va,Wa,Fq,sj,hKa⟩:=appW (ty:=116) (cS:=0) (hu.set K1.drew (fun _ _=>id)) (Nat.le_refl 16) hyl hyx rY (by omega) (by omega);have e1:w0.drew.cell? (S_ e0)=some (R_ p):=d1w;have e2:w0.drew.cell? (S_ p)=some (.slice a ws.length c'):=q0w;have Vl:=World.block_lt_of_cell? _ _ e1;have lp2:=World.block_lt_of_cell? _ _ e2;refine BZ (P:=prog) _ rfl rfl (by kernel_rfl) 15 62 [0,1,2,3,4,5,6,7,8,9,10,11,12,13] [14] (by kernel_rfl) (by rfl)
    (J2 (On K.T fun t=>t=(15,p)) w0.drew 14 (OY K.T w0.drew p 16) []) (EF (by simp) (by simp)) _ _ rfl rfl ?_;gi_wp2_with (refine BL rfl (.tmp 53) (.tmp 56) _ rfl rfl rfl Fq ?_);refine⟨rfl,by kernel_rfl,Dg,?_,?_,?_⟩
   ·intro L' u W G9;have d1:=(G9.1.cell (w:=w0.drew) (p:=(S_ e0)) Vl (by unfold On;rw[te];simp)).trans e1;have d2:=(G9.1.cell (w:=w0.drew) (p:=(S_ p)) lp2 (by unfold On;rw[tp];simp)).trans e2
    repeat' (refine Ao ?_ ?_)
    all_goals first|exact trivial|gi_wp2
   ·intro i hi L' u W G9 Nf hu';obtain rfl:i=14:=(by simpa using hi);obtain rfl:=G9.2.1 Nf;refine Bh rfl fun KK Ko=>?_
    show wpListIn NF m prog _ _ _ (Act.put _ (some 57) (u 14)) _;gi_wp2_with (refine BL rfl (.tmp 53) (.tmp 56) _ rfl rfl rfl Fq ?_);exact⟨_,rfl,EG G9 (by simp) hKa sj⟩
   ·intro L' u W G9 hL';have WG:=G9.2.2.1 (hL' 14 (by simp));obtain⟨a3,n3,c3,e14⟩:∃a n c,u 14=.slice a n c:=by
     rcases WG with e|⟨g,c,ws,e,_⟩<;>exact⟨_,_,_,e⟩
    show wpListIn NF m prog _ _ _ (Act.put _ (some 57) (u 14)) _;rw[e14];rw[e14]at WG;have hp1:=G9.1.old (w:=w0.drew) (K1.old hp id) (by unfold On;rw[tp];simp);have q3:W.cell? (S_ p)=some _:=(Ag hp1 0).trans rfl;have z3:=BF hp1 0;gi_wp2_with fail;obtain⟨T',MT,hwT⟩:=WG.IY G9.1 h1d.lt;have tp':T' p=(11,0):=MT.tag tp (by simp);have s4:=h1d.setW (by rw[tp];simp) (by rw[tp];simp) MT (Dk.QG (v:=.slice a3 n3 c3) (x:=true) (y:=y) tp' (Aj hp1 _) (hwT.set (Ab.Kq (b:=p) (o:=0) (.slice a3 n3 c3)) (fun g hg e=>by rw[show g=p from e,tp']at hg;simp at hg)));have I1:Bw K.T T' w0 _:=(Bw.no K1.drew h0.lt).trans s4.2;gi_wp2_with (first|(gi_at_call 272;refine(Cf _ _ 0 (by omega)).mono ?_;rintro e wz ⟨rfl,Kz⟩;obtain⟨w8,Ar,K8,b8⟩:=Af (x:=0) (y:=0) (f:=.nilFunc) (Kz.old (I1.old rb E8) id) rfl)|refine Ae rfl _ _ _ rfl rfl rfl Ar ?_);refine TR 0 0 (by simp[results,results275,go_sem,Dz b8]) rfl ?_;exact Ck (T':=T') (x:=0) (y:=0) h.lt K0 BA ((I1).then Kz) ((s4.1).no Kz) K8 (by omega) (by omega) (.inl rfl)
  ·have f1:(0:Int)<(n:Int):=(by omega);by_cases hkn:n<=k16
   ·have f2:¬(k16:Int)<(n:Int):=(by omega);gi_enter func275,ntmps275;gi_wp2_with (first|(gi_at_call 265;refine(cs _).mono ?_;rintro e w1 ⟨K1,xb,rfl⟩;have d1w:=K1.has d1;have q0w:=K1.has q0;generalize hw0:w.alloc V_=w0 at *;obtain⟨w8,Ar,K8,b8⟩:=Af (x:=0) (y:=0) (f:=.func (.func 265) #[R_ p] #[]) (K1.old rb id) rfl;cases xb)|refine Ae rfl _ _ _ rfl rfl rfl Ar ?_)
    ·clear Ar K8 b8;have h1d:AQ K w1.drew:=h0.no K1.drew;obtain⟨ys,hyl,hyx,rY⟩:=hv.words h1d hb hn hI n (Nat.le_refl n);obtain⟨va,Wa,Fq,sj,hKa⟩:=appW (ty:=116) (cS:=n) (hu.set K1.drew (fun _ _=>id)) (Nat.le_refl 16) hyl hyx rY (by omega) (by omega);have e1:w1.drew.cell? (S_ e0)=some (R_ p):=d1w;have e2:w1.drew.cell? (S_ p)=some (.slice a ws.length c'):=q0w;have Vl:=World.block_lt_of_cell? _ _ e1;have lp2:=World.block_lt_of_cell? _ _ e2;refine BZ (P:=prog) _ rfl rfl (by kernel_rfl) 15 62 [0,1,2,3,4,5,6,7,8,9,10,11,12,13] [14] (by kernel_rfl) (by rfl)
      (J2 (On K.T fun t=>t=(15,p)) w1.drew 14 (OY K.T w1.drew p 16) []) (EF (by simp) (by simp)) _ _ rfl rfl ?_;gi_wp2_with (refine BL rfl (.tmp 53) (.tmp 56) _ rfl rfl rfl Fq ?_);refine⟨rfl,by kernel_rfl,Dg,?_,?_,?_⟩
     ·intro L' u W G9;have d1:=(G9.1.cell (w:=w1.drew) (p:=(S_ e0)) Vl (by unfold On;rw[te];simp)).trans e1;have d2:=(G9.1.cell (w:=w1.drew) (p:=(S_ p)) lp2 (by unfold On;rw[tp];simp)).trans e2
      repeat' (refine Ao ?_ ?_)
      all_goals first|exact trivial|gi_wp2
     ·intro i hi L' u W G9 Nf hu';obtain rfl:i=14:=(by simpa using hi);obtain rfl:=G9.2.1 Nf;refine Bh rfl fun KK Ko=>?_
      show wpListIn NF m prog _ _ _ (Act.put _ (some 57) (u 14)) _;gi_wp2_with (refine BL rfl (.tmp 53) (.tmp 56) _ rfl rfl rfl Fq ?_);exact⟨_,rfl,EG G9 (by simp) hKa sj⟩
     ·intro L' u W G9 hL';have WG:=G9.2.2.1 (hL' 14 (by simp));obtain⟨a3,n3,c3,e14⟩:∃a n c,u 14=.slice a n c:=by
       rcases WG with e|⟨g,c,ws,e,_⟩<;>exact⟨_,_,_,e⟩
      show wpListIn NF m prog _ _ _ (Act.put _ (some 57) (u 14)) _;rw[e14];rw[e14]at WG;have hp1:=G9.1.old (w:=w1.drew) (K1.old hp id) (by unfold On;rw[tp];simp);have q3:W.cell? (S_ p)=some _:=(Ag hp1 0).trans rfl;have z3:=BF hp1 0;gi_wp2_with fail;obtain⟨T',MT,hwT⟩:=WG.IY G9.1 h1d.lt;have tp':T' p=(11,0):=MT.tag tp (by simp);have s4:=h1d.setW (by rw[tp];simp) (by rw[tp];simp) MT (Dk.QG (v:=.slice a3 n3 c3) (x:=true) (y:=y) tp' (Aj hp1 _) (hwT.set (Ab.Kq (b:=p) (o:=0) (.slice a3 n3 c3)) (fun g hg e=>by rw[show g=p from e,tp']at hg;simp at hg)));have I1:Bw K.T T' w0 _:=(Bw.no K1.drew h0.lt).trans s4.2;gi_wp2_with (first|(gi_at_call 272;refine(Cf _ _ n (by omega)).mono ?_;rintro e wz ⟨rfl,Kz⟩;obtain⟨w8,Ar,K8,b8⟩:=Af (x:=n) (y:=0) (f:=.nilFunc) (Kz.old (I1.old rb E8) id) rfl)|refine Ae rfl _ _ _ rfl rfl rfl Ar ?_);refine TR n 0 (by simp[results,results275,go_sem,Dz b8]) rfl ?_;exact Ck (T':=T') (x:=n) (y:=0) h.lt K0 BA ((I1).then Kz) ((s4.1).no Kz) K8 (by omega) (by omega) (.inl rfl)
    ·have jd:w8.cell? (S_ w.heap.size)=some (.int .u16 0):=bce b8 rfl;have jc:w8.cell? (T_ w.heap.size 1)=some (.int .u16 0):=bce b8 rfl;have ja:w8.cell? (T_ w.heap.size 2)=some (.func (.func 265) #[R_ p] #[]):=bce b8 rfl;refine bodyPost_ret (v:=.agg #[.int .u16 0,.int .u16 0,.func (.func 265) #[R_ p] #[]]) (by simp[results,results275,go_sem,jd,jc,ja]) rfl ?_;exact Ck (T':=K.T) (x:=0) (y:=0) h.lt K0 BA (Bw.no K1 h0.lt) (h0.no K1) K8 (by omega) (by omega) (.inr (.inr ⟨p,.inr rfl,tp⟩))
   ·have f2:(k16:Int)<(n:Int):=(by omega);gi_enter func275,ntmps275;gi_wp2_with (first|(gi_at_call 265;refine(cs _).mono ?_;rintro e w1 ⟨K1,xb,rfl⟩;have d1w:=K1.has d1;have q0w:=K1.has q0;generalize hw0:w.alloc V_=w0 at *;obtain⟨w8,Ar,K8,b8⟩:=Af (x:=0) (y:=0) (f:=.func (.func 265) #[R_ p] #[]) (K1.old rb id) rfl;cases xb)|refine Ae rfl _ _ _ rfl rfl rfl Ar ?_)
    ·clear Ar K8 b8;have h1d:AQ K w1.drew:=h0.no K1.drew;obtain⟨ys,hyl,hyx,rY⟩:=hv.words h1d hb hn hI k16 (by omega);obtain⟨va,Wa,Fq,sj,hKa⟩:=appW (ty:=116) (cS:=n) (hu.set K1.drew (fun _ _=>id)) (Nat.le_refl 16) hyl hyx rY (by omega) (by omega);have e1:w1.drew.cell? (S_ e0)=some (R_ p):=d1w;have e2:w1.drew.cell? (S_ p)=some (.slice a ws.length c'):=q0w;have Vl:=World.block_lt_of_cell? _ _ e1;have lp2:=World.block_lt_of_cell? _ _ e2;refine BZ (P:=prog) _ rfl rfl (by kernel_rfl) 15 62 [0,1,2,3,4,5,6,7,8,9,10,11,12,13] [14] (by kernel_rfl) (by rfl)
      (J2 (On K.T fun t=>t=(15,p)) w1.drew 14 (OY K.T w1.drew p 16) []) (EF (by simp) (by simp)) _ _ rfl rfl ?_;gi_wp2_with (refine BL rfl (.tmp 53) (.tmp 56) _ rfl rfl rfl Fq ?_);refine⟨rfl,by kernel_rfl,Dg,?_,?_,?_⟩
     ·intro L' u W G9;have d1:=(G9.1.cell (w:=w1.drew) (p:=(S_ e0)) Vl (by unfold On;rw[te];simp)).trans e1;have d2:=(G9.1.cell (w:=w1.drew) (p:=(S_ p)) lp2 (by unfold On;rw[tp];simp)).trans e2
      repeat' (refine Ao ?_ ?_)
      all_goals first|exact trivial|gi_wp2
     ·intro i hi L' u W G9 Nf hu';obtain rfl:i=14:=(by simpa using hi);obtain rfl:=G9.2.1 Nf;refine Bh rfl fun KK Ko=>?_
      show wpListIn NF m prog _ _ _ (Act.put _ (some 57) (u 14)) _;gi_wp2_with (refine BL rfl (.tmp 53) (.tmp 56) _ rfl rfl rfl Fq ?_);exact⟨_,rfl,EG G9 (by simp) hKa sj⟩
     ·intro L' u W G9 hL';have WG:=G9.2.2.1 (hL' 14 (by simp));obtain⟨a3,n3,c3,e14⟩:∃a n c,u 14=.slice a n c:=by
       rcases WG with e|⟨g,c,ws,e,_⟩<;>exact⟨_,_,_,e⟩
      show wpListIn NF m prog _ _ _ (Act.put _ (some 57) (u 14)) _;rw[e14];rw[e14]at WG;have hp1:=G9.1.old (w:=w1.drew) (K1.old hp id) (by unfold On;rw[tp];simp);have q3:W.cell? (S_ p)=some _:=(Ag hp1 0).trans rfl;have z3:=BF hp1 0;gi_wp2_with fail;obtain⟨T',MT,hwT⟩:=WG.IY G9.1 h1d.lt;have tp':T' p=(11,0):=MT.tag tp (by simp);have s4:=h1d.setW (by rw[tp];simp) (by rw[tp];simp) MT (Dk.QG (v:=.slice a3 n3 c3) (x:=true) (y:=y) tp' (Aj hp1 _) (hwT.set (Ab.Kq (b:=p) (o:=0) (.slice a3 n3 c3)) (fun g hg e=>by rw[show g=p from e,tp']at hg;simp at hg)));have I1:Bw K.T T' w0 _:=(Bw.no K1.drew h0.lt).trans s4.2;gi_wp2_with (first|(gi_at_call 272;refine(Cf _ _ k16 (by omega)).mono ?_;rintro e wz ⟨rfl,Kz⟩;obtain⟨w8,Ar,K8,b8⟩:=Af (x:=k16) (y:=0) (f:=.nilFunc) (Kz.old (I1.old rb E8) id) rfl)|refine Ae rfl _ _ _ rfl rfl rfl Ar ?_);refine TR k16 0 (by simp[results,results275,go_sem,Dz b8]) rfl ?_;exact Ck (T':=T') (x:=k16) (y:=0) h.lt K0 BA ((I1).then Kz) ((s4.1).no Kz) K8 (by omega) (by omega) (.inl rfl)
    ·have jd:w8.cell? (S_ w.heap.size)=some (.int .u16 0):=bce b8 rfl;have jc:w8.cell? (T_ w.heap.size 1)=some (.int .u16 0):=bce b8 rfl;have ja:w8.cell? (T_ w.heap.size 2)=some (.func (.func 265) #[R_ p] #[]):=bce b8 rfl;refine bodyPost_ret (v:=.agg #[.int .u16 0,.int .u16 0,.func (.func 265) #[R_ p] #[]]) (by simp[results,results275,go_sem,jd,jc,ja]) rfl ?_;exact Ck (T':=K.T) (x:=0) (y:=0) h.lt K0 BA (Bw.no K1 h0.lt) (h0.no K1) K8 (by omega) (by omega) (.inr (.inr ⟨p,.inr rfl,tp⟩))
end
section
variable (m:Nat) (w:World)
theorem qz (K:KS) (b e0 f pl:Nat) (h:AQ K w) (te:K.T e0=(12,f)) (hpl:pl<65536):
  CallsIn NF m prog 278 #[R_ e0,.int .i64 (pl:Nat)] w (NK K b w):=by
 obtain⟨K0,rb,BA⟩:=FU w;have h0:=h.no K0;have E8:K.T w.heap.size=(0,0):=h.lt _ (Nat.le_refl _);obtain⟨n,he,tf,ag6⟩:=h0.fl.Fs e0 f te;have d2:(w.alloc V_).cell? (T_ e0 2)=some (.int .i64 n):=(Ag he 2).trans rfl;have z2:=BF he 2;by_cases h64:64<pl
 ·have f1:(64:Int)<(pl:Int):=by omega
  gi_enter func278,ntmps278;gi_wp2_with fail;gi_wp2_with (first|(gi_at_call 273;refine(En _ _ 13).mono ?_;rintro e wz ⟨rfl,Kz⟩;obtain⟨w8,Ar,K8,b8⟩:=Af (x:=0) (y:=13) (f:=.nilFunc) (Kz.old (rb) id) rfl)|refine Ae rfl _ _ _ rfl rfl rfl Ar ?_);refine TR 0 13 (by simp[results,results278,go_sem,Dz b8]) rfl ?_;exact Ck (T':=K.T) (x:=0) (y:=13) h.lt K0 BA (((Bw.no (Ab.refl No _) h0.lt)).then Kz) ((h0).no Kz) K8 (by omega) (by omega) (.inl rfl)
 ·have f1:¬(64:Int)<(pl:Int):=by omega
  gi_enter func278,ntmps278;gi_wp2_with fail;have s4:=AQ.Ma (p:=e0) (w':=(w.alloc V_).setCell (T_ e0 2) (.int .i64 (pl:Nat))) h0 ((Ab.refl _ _).setCell _ fun _=>rfl) (by rw[te];simp) (by rw[te];simp) (Dk.GQ te (Aj he _) tf (by omega));gi_wp2_with (first|(gi_at_call 272;refine(Cf _ _ 0 (by omega)).mono ?_;rintro e wz ⟨rfl,Kz⟩;obtain⟨w8,Ar,K8,b8⟩:=Af (x:=0) (y:=0) (f:=.nilFunc) (Kz.old (s4.2.old rb E8) id) rfl)|refine Ae rfl _ _ _ rfl rfl rfl Ar ?_);refine TR 0 0 (by simp[results,results278,go_sem,Dz b8]) rfl ?_;exact Ck (T':=K.T) (x:=0) (y:=0) h.lt K0 BA ((s4.2).then Kz) ((s4.1).no Kz) K8 (by omega) (by omega) (.inl rfl)
theorem XK (K:KS) (b e0 f:Nat) (r:PR) (v:Value) (h:AQ K w) (hb:K.ps b=some r) (hn:r.en=false) (hI:∀z∈r.Ah,z<65536) (te:K.T e0=(12,f)) (hv:Hm r v):
  CallsIn NF m prog 277 #[R_ e0,v] w (Sm K b r w):=by
 obtain⟨K0,rb,_⟩:=FU w;have h0:=h.no K0;have E8:K.T w.heap.size=(0,0):=h.lt _ (Nat.le_refl _);obtain⟨d0,n,rfl⟩:∃d n,v=.slice d n n:=by
  rcases hv with rfl|⟨g,c,o,n,_,rfl,_⟩
  ·exact⟨none,0,rfl⟩
  ·exact⟨_,n,rfl⟩
 obtain⟨pl,he,tf,ag6⟩:=h0.fl.Fs e0 f te;obtain⟨u,hf,hu⟩:=h0.fl.file f tf;have d1:(w.alloc V_).cell? (T_ e0 1)=some (R_ f):=(Ag he 1).trans rfl;have d2:(w.alloc V_).cell? (T_ e0 2)=some (.int .i64 pl):=(Ag he 2).trans rfl;have d3:(w.alloc V_).cell? (S_ f)=some u:=(Ag hf 0).trans rfl;rcases hu with rfl|⟨g,c,ws,rfl,hR,hw64,hwx,tg⟩
 ·obtain⟨w2,k,Ah,Bg,hk,_,Gl,QB,h2,M2,hS2⟩:=Ho (ty:=3) (a:=none) (Ca:=0) (sCap:=0) (ws:=[]) h0 hb hn hI hv (by simp) rfl (fun ad e=>by cases e) (fun _=>rfl);obtain rfl:k=0:=by omega
  by_cases hp0:pl=0
  ·subst hp0;simp only[Int.natCast_zero]at d2 he;have e2:w2.cell? (T_ e0 2)=some (.int .i64 0):=(hS2.cell (World.block_lt_of_cell? _ _ d2) (by unfold On;rw[te];simp)).trans d2;have he2:=hS2.old he (by unfold On;rw[te];simp);have z2:=BF he2 2;have s4:=AQ.Ma (p:=e0) (w':=w2.setCell (T_ e0 2) (.int .i64 0)) h2 ((Ab.refl _ _).setCell _ fun _=>rfl) (by show 10<=(K.T e0).1;rw[te];simp) (by show(K.T e0).1<15;rw[te];simp) (Dk.GQ (T:=K.T) (n:=0) te (Aj he2 _) tf (by omega));gi_enter func277,ntmps277;gi_wp2_with fail;have I1:Bw K.T K.T (w.alloc V_) _:=M2.trans s4.2;gi_wp2_with (first|(gi_at_call 272;refine(Cf _ _ 0 (by omega)).mono ?_;rintro e wz ⟨rfl,Kz⟩;obtain⟨w8,Ar,K8,b8⟩:=Af (x:=0) (y:=0) (f:=.nilFunc) (Kz.old (I1.old rb E8) id) rfl)|refine Ae rfl _ _ _ rfl rfl rfl Ar ?_);refine TR 0 0 (by simp[results,results277,go_sem,Dz b8]) rfl ?_;exact DI (x:=0) (y:=0) h.lt K0 ((I1).then Kz) ((s4.1).no Kz) K8 (by omega) (by omega) (.inl rfl) (Gl) (QB)
  ·have f1:(0:Int)<(pl:Int):=(by omega);have e2:w2.cell? (T_ e0 2)=some (.int .i64 pl):=(hS2.cell (World.block_lt_of_cell? _ _ d2) (by unfold On;rw[te];simp)).trans d2;have he2:=hS2.old he (by unfold On;rw[te];simp);have z2:=BF he2 2;have s4:=AQ.Ma (p:=e0) (w':=w2.setCell (T_ e0 2) (.int .i64 (pl:Nat))) h2 ((Ab.refl _ _).setCell _ fun _=>rfl) (by show 10<=(K.T e0).1;rw[te];simp) (by show(K.T e0).1<15;rw[te];simp) (Dk.GQ (T:=K.T) (n:=pl) te (Aj he2 _) tf (by omega));gi_enter func277,ntmps277;gi_wp2_with fail;have I1:Bw K.T K.T (w.alloc V_) _:=M2.trans s4.2;gi_wp2_with (first|(gi_at_call 272;refine(Cf _ _ 0 (by omega)).mono ?_;rintro e wz ⟨rfl,Kz⟩;obtain⟨w8,Ar,K8,b8⟩:=Af (x:=0) (y:=0) (f:=.nilFunc) (Kz.old (I1.old rb E8) id) rfl)|refine Ae rfl _ _ _ rfl rfl rfl Ar ?_);refine TR 0 0 (by simp[results,results277,go_sem,Dz b8]) rfl ?_;exact DI (x:=0) (y:=0) h.lt K0 ((I1).then Kz) ((s4.1).no Kz) K8 (by omega) (by omega) (.inl rfl) (Gl) (QB)
 ·have hle:=hR.le;by_cases BC:pl<ws.length
  ·have f1:(pl:Int)<(ws.length:Int):=(by omega);have f2:¬c=pl:=(by omega);obtain⟨w2,k,Ah,Bg,hk,_,Gl,QB,h2,M2,hS2⟩:=Ho (ty:=3) (a:=some (T_ g pl)) (Ca:=ws.length-pl) (sCap:=c-pl) (ws:=ws.drop pl) h0 hb hn hI hv (fun x hx=>hwx x (List.mem_of_mem_drop hx)) (by simp) (fun ad e j u hj=>by
    cases e
    have JA:((T_ g pl):Addr).add j=(T_ g (pl+j)):=by unfold Addr.add;split<;>simp_all
    have hjl:=(KH.1 hj).1
    simp only[Aq,List.length_map,List.length_drop]at hjl
    rw[JA,hR.cell (by omega)]
    simpa [Aq,List.map_drop,List.getElem?_drop]using hj) (fun e=>by cases e);have e2:w2.cell? (T_ e0 2)=some (.int .i64 pl):=(hS2.cell (World.block_lt_of_cell? _ _ d2) (by unfold On;rw[te];simp)).trans d2;have he2:=hS2.old he (by unfold On;rw[te];simp);have z2:=BF he2 2;have s4:=AQ.Ma (p:=e0) (w':=w2.setCell (T_ e0 2) (.int .i64 ((pl+k:Nat):Int))) h2 ((Ab.refl _ _).setCell _ fun _=>rfl) (by show 10<=(K.T e0).1;rw[te];simp) (by show(K.T e0).1<15;rw[te];simp) (Dk.GQ (T:=K.T) (n:=pl+k) te (Aj he2 _) tf (by omega));have ev:((pl+k:Nat):Int)=(pl:Int)+k:=(by omega);rw[ev]at s4;gi_enter func277,ntmps277;gi_wp2_with fail;have I1:Bw K.T K.T (w.alloc V_) _:=M2.trans s4.2;gi_wp2_with (first|(gi_at_call 272;refine(Cf _ _ k (by omega)).mono ?_;rintro e wz ⟨rfl,Kz⟩;obtain⟨w8,Ar,K8,b8⟩:=Af (x:=k) (y:=0) (f:=.nilFunc) (Kz.old (I1.old rb E8) id) rfl)|refine Ae rfl _ _ _ rfl rfl rfl Ar ?_);refine TR k 0 (by simp[results,results277,go_sem,Dz b8]) rfl ?_;exact DI (x:=k) (y:=0) h.lt K0 ((I1).then Kz) ((s4.1).no Kz) K8 (by omega) (by omega) (.inl rfl) (Gl) (QB)
  ·rcases(by omega:pl=ws.length\/ws.length<pl)with hpe|hpl
   ·subst hpe;by_cases hc:c=ws.length
    ·obtain⟨w2,k,Ah,Bg,hk,_,Gl,QB,h2,M2,hS2⟩:=Ho (ty:=3) (a:=some (S_ g)) (Ca:=0) (sCap:=0) (ws:=[]) h0 hb hn hI hv (by simp) rfl (fun ad e j u hj=>by simp[Aq]at hj) (fun e=>by cases e);obtain rfl:k=0:=(by omega);have e2:w2.cell? (T_ e0 2)=some (.int .i64 ws.length):=(hS2.cell (World.block_lt_of_cell? _ _ d2) (by unfold On;rw[te];simp)).trans d2;have he2:=hS2.old he (by unfold On;rw[te];simp);have z2:=BF he2 2;have s4:=AQ.Ma (p:=e0) (w':=w2.setCell (T_ e0 2) (.int .i64 (ws.length:Nat))) h2 ((Ab.refl _ _).setCell _ fun _=>rfl) (by show 10<=(K.T e0).1;rw[te];simp) (by show(K.T e0).1<15;rw[te];simp) (Dk.GQ (T:=K.T) (n:=ws.length) te (Aj he2 _) tf (by omega));gi_enter func277,ntmps277;gi_wp2_with fail;have I1:Bw K.T K.T (w.alloc V_) _:=M2.trans s4.2;gi_wp2_with (first|(gi_at_call 272;refine(Cf _ _ 0 (by omega)).mono ?_;rintro e wz ⟨rfl,Kz⟩;obtain⟨w8,Ar,K8,b8⟩:=Af (x:=0) (y:=0) (f:=.nilFunc) (Kz.old (I1.old rb E8) id) rfl)|refine Ae rfl _ _ _ rfl rfl rfl Ar ?_);refine TR 0 0 (by simp[results,results277,go_sem,Dz b8]) rfl ?_;exact DI (x:=0) (y:=0) h.lt K0 ((I1).then Kz) ((s4.1).no Kz) K8 (by omega) (by omega) (.inl rfl) (Gl) (QB)
    ·obtain⟨w2,k,Ah,Bg,hk,_,Gl,QB,h2,M2,hS2⟩:=Ho (ty:=3) (a:=some (T_ g ws.length)) (Ca:=0) (sCap:=c-ws.length) (ws:=[]) h0 hb hn hI hv (by simp) rfl (fun ad e j u hj=>by simp[Aq]at hj) (fun e=>by cases e);obtain rfl:k=0:=(by omega);have e2:w2.cell? (T_ e0 2)=some (.int .i64 ws.length):=(hS2.cell (World.block_lt_of_cell? _ _ d2) (by unfold On;rw[te];simp)).trans d2;have he2:=hS2.old he (by unfold On;rw[te];simp);have z2:=BF he2 2;have s4:=AQ.Ma (p:=e0) (w':=w2.setCell (T_ e0 2) (.int .i64 (ws.length:Nat))) h2 ((Ab.refl _ _).setCell _ fun _=>rfl) (by show 10<=(K.T e0).1;rw[te];simp) (by show(K.T e0).1<15;rw[te];simp) (Dk.GQ (T:=K.T) (n:=ws.length) te (Aj he2 _) tf (by omega));gi_enter func277,ntmps277;gi_wp2_with fail;have I1:Bw K.T K.T (w.alloc V_) _:=M2.trans s4.2;gi_wp2_with (first|(gi_at_call 272;refine(Cf _ _ 0 (by omega)).mono ?_;rintro e wz ⟨rfl,Kz⟩;obtain⟨w8,Ar,K8,b8⟩:=Af (x:=0) (y:=0) (f:=.nilFunc) (Kz.old (I1.old rb E8) id) rfl)|refine Ae rfl _ _ _ rfl rfl rfl Ar ?_);refine TR 0 0 (by simp[results,results277,go_sem,Dz b8]) rfl ?_;exact DI (x:=0) (y:=0) h.lt K0 ((I1).then Kz) ((s4.1).no Kz) K8 (by omega) (by omega) (.inl rfl) (Gl) (QB)
   ·have f1:(ws.length:Int)<(pl:Int):=(by omega);by_cases hc:c=ws.length
    ·obtain⟨w2,k,Ah,Bg,hk,_,Gl,QB,h2,M2,hS2⟩:=Ho (ty:=3) (a:=some (S_ g)) (Ca:=0) (sCap:=0) (ws:=[]) h0 hb hn hI hv (by simp) rfl (fun ad e j u hj=>by simp[Aq]at hj) (fun e=>by cases e);obtain rfl:k=0:=(by omega);have e2:w2.cell? (T_ e0 2)=some (.int .i64 pl):=(hS2.cell (World.block_lt_of_cell? _ _ d2) (by unfold On;rw[te];simp)).trans d2;have he2:=hS2.old he (by unfold On;rw[te];simp);have z2:=BF he2 2;have s4:=AQ.Ma (p:=e0) (w':=w2.setCell (T_ e0 2) (.int .i64 (pl:Nat))) h2 ((Ab.refl _ _).setCell _ fun _=>rfl) (by show 10<=(K.T e0).1;rw[te];simp) (by show(K.T e0).1<15;rw[te];simp) (Dk.GQ (T:=K.T) (n:=pl) te (Aj he2 _) tf (by omega));gi_enter func277,ntmps277;gi_wp2_with fail;have I1:Bw K.T K.T (w.alloc V_) _:=M2.trans s4.2;gi_wp2_with (first|(gi_at_call 272;refine(Cf _ _ 0 (by omega)).mono ?_;rintro e wz ⟨rfl,Kz⟩;obtain⟨w8,Ar,K8,b8⟩:=Af (x:=0) (y:=0) (f:=.nilFunc) (Kz.old (I1.old rb E8) id) rfl)|refine Ae rfl _ _ _ rfl rfl rfl Ar ?_);refine TR 0 0 (by simp[results,results277,go_sem,Dz b8]) rfl ?_;exact DI (x:=0) (y:=0) h.lt K0 ((I1).then Kz) ((s4.1).no Kz) K8 (by omega) (by omega) (.inl rfl) (Gl) (QB)
    ·obtain⟨w2,k,Ah,Bg,hk,_,Gl,QB,h2,M2,hS2⟩:=Ho (ty:=3) (a:=some (T_ g ws.length)) (Ca:=0) (sCap:=c-ws.length) (ws:=[]) h0 hb hn hI hv (by simp) rfl (fun ad e j u hj=>by simp[Aq]at hj) (fun e=>by cases e);obtain rfl:k=0:=(by omega);have e2:w2.cell? (T_ e0 2)=some (.int .i64 pl):=(hS2.cell (World.block_lt_of_cell? _ _ d2) (by unfold On;rw[te];simp)).trans d2;have he2:=hS2.old he (by unfold On;rw[te];simp);have z2:=BF he2 2;have s4:=AQ.Ma (p:=e0) (w':=w2.setCell (T_ e0 2) (.int .i64 (pl:Nat))) h2 ((Ab.refl _ _).setCell _ fun _=>rfl) (by show 10<=(K.T e0).1;rw[te];simp) (by show(K.T e0).1<15;rw[te];simp) (Dk.GQ (T:=K.T) (n:=pl) te (Aj he2 _) tf (by omega));gi_enter func277,ntmps277;gi_wp2_with fail;have I1:Bw K.T K.T (w.alloc V_) _:=M2.trans s4.2;gi_wp2_with (first|(gi_at_call 272;refine(Cf _ _ 0 (by omega)).mono ?_;rintro e wz ⟨rfl,Kz⟩;obtain⟨w8,Ar,K8,b8⟩:=Af (x:=0) (y:=0) (f:=.nilFunc) (Kz.old (I1.old rb E8) id) rfl)|refine Ae rfl _ _ _ rfl rfl rfl Ar ?_);refine TR 0 0 (by simp[results,results277,go_sem,Dz b8]) rfl ?_;exact DI (x:=0) (y:=0) h.lt K0 ((I1).then Kz) ((s4.1).no Kz) K8 (by omega) (by omega) (.inl rfl) (Gl) (QB)
end
theorem vC {K:KS} {w:World} (h:AQ K w):∃es:X_,(Instr.loadAt 102 (.pointer (some (T_ K.kb 4)))).run prog w=.ok (.agg es) w/\∀i,i<16->∀w,(Instr.index 102 (.agg es) (.int .i64 (i:Nat))).run prog w=.ok (Ut (K.nm i)) w:=by
 obtain⟨ks,hk,hc⟩:=h.k;have hs:20<ks.size:=by
  obtain⟨_,h,_⟩:=hc.nl
  exact(Array.getElem?_eq_some_iff.1 h).1
 have hll:((ks.toList.drop 4).take 16).length=16:=by simp;omega
 have hl:=run_loadCells_list (P:=prog) w (T_ K.kb 4) ((ks.toList.drop 4).take 16) (fun j v hv=>by
  have JA:((T_ K.kb 4):Addr).add j=(T_ K.kb (4+j)):=by unfold Addr.add;split<;>simp_all
  rw[JA,Ag hk]
  rw[List.getElem?_take]at hv
  split at hv
  ·simpa using hv
  ·cases hv)
 rw[hll]at hl;have a1:∀w,(isAgg 102).run prog w=.ok true w:=fun w=>by kernel_rfl
 have a2:∀w,(sizeOf 102).run prog w=.ok 16 w:=fun w=>by kernel_rfl
 have b1:∀w,(isAgg 101).run prog w=.ok false w:=fun w=>by kernel_rfl
 have b2:∀w,(sizeOf 101).run prog w=.ok 1 w:=fun w=>by kernel_rfl
 refine⟨((ks.toList.drop 4).take 16).toArray,by simp[Instr.loadAt,loadVar,Instr.sureAddr,a1,a2,hl],fun i hi w=>?_⟩;have h1:=(hc.nm i hi).1;have e:((ks.toList.drop 4).take 16).toArray[i]?=some (Ut (K.nm i)):=by
  simp only[List.getElem?_toArray,List.getElem?_take,List.getElem?_drop,Array.getElem?_toList]
  rw[if_pos hi];exact h1
 have eu:∀w:World,(asIntOf (.int .i64 (i:Nat))).run prog w=.ok (.i64,(i:Int)) w:=fun _=>rfl
 have hu:∀w,(underlying 102).run prog w=.ok (.array 16 101) w:=run_underlying underlying102;generalize ((ks.toList.drop 4).take 16).toArray=es at e;have FZ:(i:Int)<16:=by omega
 simp[Instr.index,eu,hu,part,b1,b2,e,FZ]
theorem AQ.zV {K:KS} {w:World} {f:Nat} (h:AQ K w) (tf:K.T f=(10,0)):∃a n c,w.cell? (S_ f)=some (.slice a n c)/\n<=64:=by
 obtain⟨u,hf,hu⟩:=h.fl.file f tf;obtain⟨a,ws,c,rfl,_,h64,_⟩:=hu.shape;exact⟨a,ws.length,c,(Ag hf 0).trans rfl,h64⟩
theorem VM {n:Nat} (h:n<=64):Ap n<=8:=by unfold Ap;omega
section
variable (m:Nat) (w:World)
theorem Tf (K:KS) (f n:Nat) (h:AQ K w) (tf:K.T f=(10,0)) (hn:n<=1000) (hnl:K.nl.length<=1000):
  CallsIn NF m prog 281 #[.pointer (some (T_ K.kb 4)),R_ f,.int .i64 (n:Nat)] w fun e w'=>Ab No w w'/\∃x,e=.returned (.bool x):=by
 obtain⟨af,nf,cf,q0,hnf⟩:=h.zV tf;have Jv:Ap n<=200:=by unfold Ap;omega
 have FZ:=VM hnf;gi_enter func281,ntmps281;gi_wp2;refine AA (P:=prog) No _ rfl rfl (by kernel_rfl) 7 59 [0,2,3,4,5,6] [1] (by kernel_rfl) (by rfl) (fun _ v W=>v=.int .i64 (Ap n:Nat)) (fun _ _ _ _ _ h _=>h) _ _ rfl rfl ?_;gi_wp2_with (gi_at_call 48;refine(EH _ _ _ (by omega)).mono ?_;rintro e w1 ⟨rfl,rfl⟩);refine⟨rfl,by kernel_rfl,?_,?_,?_⟩
 ·intro W hK;have d0:=hK.has (w:=w.drew) q0
  repeat' (refine Ao ?_ ?_)
  all_goals first|exact trivial|gi_wp2
 ·intro i hi u W hK _;obtain rfl:i=1:=by simpa using hi
  refine Bh rfl fun KK Ko=>?_
  show wpListIn NF m prog _ _ _ (Act.put _ (some 13) (u 1)) _;gi_wp2_with (gi_at_call 48;refine(EH _ _ _ (by omega)).mono ?_;rintro e w1 ⟨rfl,rfl⟩);exact⟨_,rfl,Ab.refl _ _,rfl⟩
 ·intro u W hK hu;have hu:=hu 1 (by simp);show wpListIn NF m prog _ _ _ (Act.put _ (some 13) (u 1)) _;rw[hu];have KW:Ab No w W:=(Ab.refl No w).drew.then hK;have hW:=h.no KW;obtain⟨es,hld,hix⟩:=vC hW;gi_wp2_with (first|(gi_at_call 48;refine(EH _ _ _ (by omega)).mono ?_;rintro e w1 ⟨rfl,rfl⟩)|refine U4 rfl (.tmp 23) 102 rfl rfl hld ?_);gi_loopw [7,25] (fun a i wr=>∃(k:Nat) (x:Int),k<=16/\a=.int .i64 x/\-1000<=x/\x<=1000+10*k/\i=.int .i64 k/\Ab No w wr) (fun _ i _=>16-(intOf i).toNat)
  case atStart=>exact⟨0,_,by omega,rfl,by omega,by omega,rfl,KW⟩
  case round=>
   obtain⟨k,x,hk,rfl,IK,Ia,rfl,KK⟩:=hrel
   by_cases BC:k<16
   ·have hlt':(k:Int)<16:=(by omega);have hv:=hix k BC wr;have hr:=h.no KK;cases hnm:K.nm k with
    | none=>
     rw[hnm]at hv
     simp only[Ut]at hv
     gi_wp2_with (refine Rn rfl (.tmp 24) (.tmp 25) 102 rfl rfl rfl hv ?_)
     go_roundw
     case rel=>exact⟨k+1,x,by omega,rfl,by omega,by omega,by go_num,KK⟩
     case measure=>simp[intOf];omega
    | some f'=>
     rw[hnm]at hv
     simp only[Ut,ptr]at hv
     obtain⟨ks,_,hc⟩:=hr.k
     have TH:=(hc.nm k BC).2 f' hnm
     obtain⟨a',n',c',q',hn'⟩:=hr.zV TH
     have hb3:=VM hn'
     gi_wp2_with (first|refine Rn rfl (.tmp 24) (.tmp 25) 102 rfl rfl rfl hv ?_|(gi_at_call 48;refine(EH _ _ _ (by omega)).mono ?_;rintro e w1 ⟨rfl,rfl⟩))
     go_roundw
     case rel=>exact⟨k+1,_,by omega,rfl,by omega,by omega,by go_num,KK⟩
     case measure=>simp[intOf];omega
   ·obtain rfl:k=16:=(by omega);have hr:=h.no KK;obtain⟨ks,hk0,hc⟩:=hr.k;obtain⟨v,hv,hN,hbN⟩:=hc.nl;have q20:=(Ag hk0 20).trans hv;rcases hN with⟨rfl,hnil⟩|⟨g,c,rfl,hR,tg⟩
    ·gi_wp2;refine wpIn_loop_once ?_;gi_wp2
     all_goals go_ret
     all_goals exact⟨KK,_,rfl⟩
    ·gi_wp2;gi_loopw [7,44] (fun a i wr=>∃(j:Nat) (y:Int),j<=K.nl.length/\a=.int .i64 y/\-1000<=y/\y<=2000+10*j/\i=.int .i64 j/\Ab No w wr) (fun _ i _=>K.nl.length-(intOf i).toNat)
     case atStart=>exact⟨0,x,by omega,rfl,by omega,by omega,rfl,KK⟩
     case round=>
      obtain⟨j,y,hj,rfl,hy1,hy2,rfl,KJ⟩:=hrel
      by_cases hlt2:j<K.nl.length
      ·have hg:K.nl[j]?=some K.nl[j]:=HZ hlt2;generalize K.nl[j]=f' at hg;have hj2:=h.no KJ;have TH:=hbN f' (List.mem_of_getElem? hg);obtain⟨a',n',c',q',hn'⟩:=hj2.zV TH;have hb3:=VM hn';obtain⟨ks2,Kn,hc2⟩:=hj2.k;obtain⟨v2,hv2,hN2,_⟩:=hc2.nl;have hcell:w.cell? (T_ g j)=some (R_ f'):=by
        obtain⟨ks3,hk3,hc3⟩:=h.k
        have e3:=KK.old hk3 id
        rw[hk0]at e3
        obtain rfl:ks=ks3:=by simpa using e3
        obtain⟨v3,hv3,hN3,_⟩:=hc3.nl
        rw[hv]at hv3
        cases hv3
        rcases hN3 with⟨e,_⟩|⟨g3,c3,e,Rf,_⟩
        ·cases e
        ·cases e;rw[Rf.cell (by omega)];simp[Bf,hg,ptr]
       have d3:=KJ.has hcell;gi_wp2_with (gi_at_call 48;refine(EH _ _ _ (by omega)).mono ?_;rintro e w1 ⟨rfl,rfl⟩);go_roundw
       case rel=>
        first
        | exact⟨j+1,_,by omega,rfl,by omega,by omega,by go_num,KJ⟩
        | exact⟨_,_,.int .i64 ((j:Int)+1),_,_,_,_,_,_,_,_,_,_,_,_,⟨j+1,y+Ap n',by omega,rfl,by omega,by omega,by simp,KJ⟩,rfl⟩
       case measure=>simp[intOf];omega
      ·obtain rfl:j=K.nl.length:=(by omega);gi_wp2
       all_goals go_ret
       all_goals exact⟨KJ,_,rfl⟩
end
theorem sW:prog.underlying 3=some (.int .i64):=by kernel_rfl
theorem mZ (m:Nat):(Builtin.zeroCells (Value.int .u16 0).cells m).toList=Aq (List.replicate m 0):=by
 simp[Builtin.zeroCells,Aq,Value.cells];apply List.ext_getElem?;intro j;simp[List.getElem?_map,List.getElem?_replicate];by_cases h:j<m<;>simp[h,Nat.mod_one]
section
variable {w:World} {ty:TypeId} {m:Nat}
theorem asI (w:World):(asIntOf (.int .i64 (m:Nat))).run prog w=.ok (.i64,(m:Int)) w:=rfl
theorem wrI (h:m<=1000):IntKind.i64.wrap (m:Int)=m:=by unfold IntKind.wrap;simp[IntKind.bits,IntKind.signed];split<;>omega
theorem yt {a:Option Addr} {n c:Nat} (h:n<=c):(Builtin.append_ #[116,3] ty #[.slice a n c,.int .i64 ((0:Nat):Int)]).run prog w=.ok (.slice a n c) w:=by
 obtain⟨ii,hi,hz,_⟩:=He.parts;have ea:=fun w=>asI (m:=0) w
 have ew:=wrI (m:=0) (by omega);simp only[Int.natCast_zero]at ea ew ⊢;cases a<;>simp[Builtin.append_,run_underlying He.und,run_underlying sW,sizeOf,typeInfo,zeroValue,hi,hz,Builtin.lenOf,h,asInt,ea,ew,storeCells]
theorem rA {g n c:Nat} {cur:X_} {T:TypeId} (hg:w.heap[g]?=some (.cells cur T (0,0))) (hm:1<=m) (hm':m<=1000) (hroom:n+m<=c) (Dp:n+m<=cur.size):(Builtin.append_ #[116,3] ty #[.slice (some (S_ g)) n c,.int .i64 (m:Nat)]).run prog w=.ok (.slice (some (S_ g)) (n+m) c) (w.setRow g (NM cur.toList n (Aq (List.replicate m 0))).toArray):=by
 obtain⟨ii,hi,hz,hs,hby⟩:=He.parts;have ea:=fun w=>asI (m:=m) w
 have ew:=wrI (m:=m) hm';have hmn:¬((m:Int)<0):=by omega
 have hmy:¬(281474976710656<(m:Int)*(ii.bytes:Int)):=by rw[hby];omega
 have hm0:¬m=0:=by omega
 have BH:=run_storeCells_at prog g n T (Aq (List.replicate m 0)) 0 cur w hg (by simp[Aq];omega) (Dr _);simp only[Nat.add_zero]at BH;have JA:((S_ g):Addr).add n=(T_ g n):=by unfold Addr.add;split<;>simp_all
 have hzw:=mZ m;simp[Builtin.append_,run_underlying He.und,run_underlying sW,sizeOf,typeInfo,zeroValue,hi,hz,hs,Builtin.lenOf,hroom,hmy,hmn,hm0,asInt,ea,ew,JA,hzw,BH,NM]
theorem wG (hm:1<=m) (hm':m<=1000):(Builtin.append_ #[116,3] ty #[.slice none 0 0,.int .i64 (m:Nat)]).run prog w=.ok (.slice (some (S_ w.heap.size)) m (grownCap w m 0 123)) (w.drew.alloc (.cells ((Builtin.zeroCells (Value.int .u16 0).cells m)++Builtin.zeroCells (Value.int .u16 0).cells (grownCap w m 0 123-m)) 123)):=by
 obtain⟨ii,hi,hz,hs,hby⟩:=He.parts;have ea:=fun w=>asI (m:=m) w
 have ew:=wrI (m:=m) hm';have hmn:¬((m:Int)<0):=by omega
 have hmy:¬(281474976710656<(m:Int)*(ii.bytes:Int)):=by rw[hby];omega
 have hm0:¬m=0:=by omega
 have h63':¬(9223372036854775807<(m:Int)):=by omega
 have h48':¬(281474976710656<Builtin.nextslicecap m 0*ii.bytes):=by rw[nextslicecap_zero (by omega),hby];omega
 simp[Builtin.append_,run_underlying He.und,run_underlying sW,sizeOf,typeInfo,zeroValue,hi,hz,hs,Builtin.lenOf,hmy,hmn,hm0,h63',h48',asInt,ea,ew,Question.forced,run_firstCells_none,newRow,grownCap]
end
theorem aj5 {T:Tag} {w:World} {p M M' n c m:Nat} {a:Option Addr} {ty:TypeId} (hu:OP T w p M (.slice a n c)) (hM:M<=M') (Dp:n+m<=M') (hM1:M'<=1000):∃v W,(Builtin.append_ #[116,3] ty #[.slice a n c,.int .i64 (m:Nat)]).run prog w=.ok v W/\OY T w p M' v W/\(∃a' c',v=.slice a' (n+m) c')/\Ab (On T fun t=>t=(15,p)) w W:=by
 by_cases hz:m=0
 ·subst hz;rcases hu with e|⟨g,c',ws,e,hR,h1,h2,h3⟩
  ·cases e;exact⟨_,_,yt (Nat.le_refl _),.inl rfl,⟨_,_,rfl⟩,Ab.refl _ _⟩
  ·cases e;exact⟨_,_,yt hR.le,.inr ⟨g,c,ws,rfl,hR,Nat.le_trans h1 hM,h2,.inl h3⟩,⟨_,_,rfl⟩,Ab.refl _ _⟩
 ·have hrl:(List.replicate m 0).length=m:=List.length_replicate;rcases hu with e|⟨g,c',ws,e,hR,h1,h2,h3⟩
  ·cases e;have hge:=grownCap_ge w m 0 123;have yP:m<=maxLen:=(by simp only[maxLen];omega);refine⟨_,_,wG (by omega) (by omega),.inr ⟨w.heap.size,grownCap w m 0 123,List.replicate m 0,by rw[hrl],⟨⟨_,heap_alloc_new rfl,?_,?_⟩,by rw[hrl];exact hge,grownCap_le_maxLen w m 0 123 yP,by simp[Aq],Dr _⟩,by rw[hrl];omega,fun x hx=>?_,.inr (Nat.le_refl _)⟩,⟨_,_,by rw[Nat.zero_add]⟩,((Ab.refl No w).drew.alloc _).no⟩
   ·simp only[Array.size_append,size_zeroCells,He.zs];omega
   ·rw[hrl,Array.toList_append,mZ];have:m*1=(Aq (List.replicate m 0)).length:=(by simp[Aq]);rw[this];exact List.take_left
   ·rw[(List.mem_replicate.1 hx).2];omega
  ·cases e;obtain⟨cur,hc,hcs,htk⟩:=hR.blk;have hle:=hR.le;have hx:∀x∈ws++List.replicate m 0,x<65536:=fun x hx=>by
    rcases List.mem_append.1 hx with hx|hx
    ·exact h2 x hx
    ·rw[(List.mem_replicate.1 hx).2];omega
   have el:(ws++List.replicate m 0).length=ws.length+m:=(by rw[List.length_append,hrl]);have ecs:Aq (ws++List.replicate m 0)=Aq ws++Aq (List.replicate m 0):=(by simp[Aq]);by_cases hr:ws.length+m<=c
   ·have hwl:(Aq (List.replicate m 0)).length=m:=(by simp[Aq]);refine⟨_,_,rA hc (by omega) (by omega) hr (by rw[hcs];omega),.inr ⟨g,c,ws++List.replicate m 0,by rw[el],?_,by omega,hx,.inl h3⟩,⟨_,_,rfl⟩,((Ab.refl (At g) w).setRow _ _ fun _=>rfl).on fun x _ e=>by subst e;exact h3⟩;rw[el];refine Qd hR ?_ hr ?_ (Dr _)
    ·have hcl:cur.toList.length=c*1:=(by simpa using hcs);rw[J8 (by rw[hwl,hcl];omega)];exact hcl
    ·unfold NM;have hla:(cur.toList.take (ws.length*1)++Aq (List.replicate m 0)).length=(ws.length+m)*1:=(by rw[htk,List.length_append,hwl];simp[Aq]);have e1:ws.length*1=ws.length:=(by omega);rw[e1]at hla htk;rw[<-hla,List.take_left,htk,ecs]
   ·obtain⟨BK,w',FW,Fb,hK⟩:=ZR (ty:=ty) (ti:=3) He hR (Nat.le_refl _) (by omega:0<m) (by omega) (by omega) (by omega) sW;refine⟨_,_,FW,.inr ⟨w.heap.size,BK,ws++List.replicate m 0,by rw[el],?_,by omega,hx,.inr (Nat.le_refl _)⟩,⟨_,_,rfl⟩,hK.no⟩;rw[el];have e1:(Aq ws).take (ws.length*1)=Aq ws:=List.take_of_length_le (by simp[Aq]);rw[e1,mZ,<-ecs]at Fb;exact Fb
end Go.Fxa
