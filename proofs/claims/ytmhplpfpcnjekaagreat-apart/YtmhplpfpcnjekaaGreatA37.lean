/- A process forks. -/
import Derived.Test.YtmhplpfpcnjekaaGreatA35
namespace Go.Fxa
open Conc Proofs RowKit Proofs.Tryz
set_option maxRecDepth 1000000
set_option maxHeartbeats 0
theorem Nj {w:World} {base n:Nat} {e:TypeId} {v:Value} {xs:U_} (h:w.ownsRow base e 1 v n xs) (hn:0<n) (ho:∀x∈xs,x.oneCell'=true):∃g c,v=.slice (some (S_ g)) n c/\Rw e 1 w g n c xs/\base<=g:=by
 obtain⟨h1,⟨_,h2⟩|⟨g,cap,cur,a,b,c,d,e',f,i⟩⟩:=h
 ·omega
 ·exact⟨g,cap,a,⟨⟨cur,c,f,i⟩,d,e',h1,ho⟩,b⟩
theorem Tj (l:List Int):∀x∈Ep l,x.oneCell'=true:=by
 intro x hx;simp only[Ep,List.mem_map]at hx;obtain⟨n,_,rfl⟩:=hx
 rfl
def Ml (r:PR) (base:Nat) (i:Nat) (v:Value) (W:World):Prop:=
 if i=14 then ∃g c,v=.slice (some (S_ g)) r.Ah.length c/\Rw 123 1 W g r.Ah.length c (Aq r.Ah)/\base<=g
 else if i=15 then ∃g c,v=.agg #[.int .u16 0,.int .u16 0,.int .u16 r.P,.slice (some (S_ g)) r.Ah.length c]/\Rw 123 1 W g r.Ah.length c (Aq r.Ah)/\base<=g
 else ∃g c,v=.slice (some (S_ g)) r.fds.length c/\Rw 3 1 W g r.fds.length c (Ep r.fds)/\base<=g
theorem Ml.mono {r:PR} {base i:Nat} {v:Value} {W W':World} (h:Ml r base i v W) (hK:Ab No W W'):Ml r base i v W':=by
 unfold Ml at h ⊢;split
 ·rename_i e;rw[if_pos e]at h;obtain⟨g,c,a,b,d⟩:=h;exact⟨g,c,a,b.keep hK id,d⟩
 ·rename_i e;rw[if_neg e]at h;split
  ·rename_i e;rw[if_pos e]at h;obtain⟨g,c,a,b,d⟩:=h;exact⟨g,c,a,b.keep hK id,d⟩
  ·rename_i e;rw[if_neg e]at h;obtain⟨g,c,a,b,d⟩:=h;exact⟨g,c,a,b.keep hK id,d⟩
structure Child (K K6:KS) (p:Nat) (r q:PR):Prop where
 ps:K6.ps p=some q
 en:q.en=false
 fds:q.fds=r.fds
 ok:q.Ok
 pid:q.pid=K.BM+1
 co:q.co=-1
 Ah:q.Ah=r.Ah
 sw:(Aw K.swap (Ap q.Ah.length)).1=some q.sw
 eq:K6={ K with swap:=(Aw K.swap (Ap q.Ah.length)).2,BM:=K.BM+1,AJ:=K.AJ++[p],ps:=Cu K.ps p q,pg:=K6.pg,pc:=K6.pc,T:=K6.T }
def rJ (K:KS) (p:Nat) (r:PR) (T:Tag) (w:World) (e:Ending) (w':World):Prop:=(e=.returned (.bool false)/\AQ { K with T:=T } w'/\Bw T T w w')\/∃q K6 g c,e=.returned (.bool true)/\Child K K6 p r q/\AQ K6 w'/\Bw T K6.T w w'/\w'.cell? (T_ p 9)=some (.slice (some (S_ g)) r.fds.length c)/\q.fd=.slice (some (S_ g)) r.fds.length c
theorem qW {K:KS} {p:Nat} {r rc:PR} {T:Tag} {w w':World} {e:Ending} (o:r.Ok) (hc:K.BM<60000) (WQ:rc.par=r.pid) (hen:rc.en=false) (hrn:r.en=false) (mK:rc.fds=r.fds) (zQ:rc.Ah=r.Ah) (hA:rc.A=0) (hB:rc.B=0) (hP:rc.P=r.P) (BH:rc.st=0) (hp:K.ps p=none) (h:iR { K with ps:=Cu K.ps p rc,T:=T } p rc w e w'):rJ K p r T w e w':=by
 rcases h with⟨rfl,h1,h2⟩|⟨a,g,c,T',rfl,h1,h2,h3⟩
 ·exact .inl ⟨rfl,AQ.vJ (K:={ K with T:=T }) h1 hp,h2⟩
 ·simp only[Pk]at h2;obtain⟨gf,cf,q9,_,_,Zn⟩:=h2.WH (b:=p) (r:={ rc with pid:=K.BM+1,sw:=a,co:=-1 }) Al hen;refine .inr ⟨{ rc with pid:=K.BM+1,sw:=a,co:=-1 },_,gf,cf,rfl,⟨Al,hen,mK,?_,rfl,rfl,zQ,h1,rfl⟩,h2,h3,by rw[<-mK];exact q9,by rw[<-mK];exact Zn⟩;refine⟨by rw[hA];omega,by rw[hB];omega,by rw[hP];exact o.P,by rw[BH];omega,by show K.BM+1<=60000;omega,by show rc.par<=60000;rw[WQ];exact o.pid,by show ∀x∈rc.Ah,_;rw[zQ];exact o.Ah,fun _=>by show rc.fds.length=6;rw[mK];exact o.fds hrn,by show ∀n∈rc.fds,_;rw[mK];exact o.fd,fun _=>by show ∃k,rc.Ah.length=_/\_;rw[zQ];exact o.len hrn,fun e=>?_⟩;have e:rc.en=true:=e;rw[hen]at e;cases e
def ae5 (K K6:KS) (T:Tag) (w:World) (fds:List Int) (k:Nat) (wr:World):Prop:=∃d,AQ { K6 with desc:=d } wr/\Bw T K6.T w wr/\Dx (fun i=>Bi K.ps K.AJ i+(fds.take k).count (i:Int)) { K6 with desc:=d }
section
variable (m:Nat) (w:World)
theorem vI (K:KS) (NC NS b:Nat) (r:PR) (h:AQ K w) (hO:DZ NC NS K) (hm:b∈K.AJ) (hb:K.ps b=some r) (hn:r.en=false):
  CallsIn NF m prog 142 #[R_ K.kb,R_ b] w (ED NC NS b K w):=by
 have o:=hO.pr b r hb;have hlen:r.fds.length<=6:=by rw[o.fds hn];omega
 have ao0:0<r.fds.length:=by rw[o.fds hn];omega
 have hL:=(hO.co.pl b r hb).1;have hL0:0<r.Ah.length:=by obtain⟨k,h1,h2,_⟩:=o.len hn;omega
 have hl12:=hO.len;have hc6:=hO.BM;obtain⟨K0,rb,BA⟩:=FU w;have h0:=h.no K0;have E8:K.T w.heap.size=(0,0):=h.lt _ (Nat.le_refl _);have q2:=h0.xy;have q3:(w.alloc V_).cell? (T_ K.kb 3)=some (.int .i64 K.BM):=let ⟨_,a,c⟩:=h0.k;(Ag a 3).trans c.c3
 obtain⟨gi0,ci0,q8,ah2,bi2,bj2⟩:=h0.Uu hb hn;obtain⟨gf0,cf0,q9,ah4,bi3,hfd0⟩:=h0.WH hb hn;have p0:=h0.FH hb 0;have p7:=h0.FH hb 7;simp[PR.arr]at p0 p7;by_cases hfull:K.AJ.length=12\/K.BM=60000
 ·rcases hfull with hfull|hfull
  ·have f1:(12:Int)<=(K.AJ.length:Int):=(by omega);gi_enter func142,ntmps142;gi_wp2_with (first|(gi_at_call 140;refine(AL _ _ 4).mono ?_;rintro e wz ⟨rfl,Kz⟩;obtain⟨w8,Ar,K8,b8⟩:=Af (x:=0) (y:=4) (f:=.nilFunc) (Kz.old (rb) id) rfl)|refine Ae rfl _ _ _ rfl rfl rfl Ar ?_);refine TR 0 4 (by simp[results,results142,go_sem,Dz b8]) rfl ?_;exact Br h hO hm hb K0 BA Kz K8 (by decide) (by decide)
  ·have f2:(60000:Int)<=(K.BM:Int):=(by omega);by_cases f1:(12:Int)<=(K.AJ.length:Int)
   ·gi_enter func142,ntmps142;gi_wp2_with (first|(gi_at_call 140;refine(AL _ _ 4).mono ?_;rintro e wz ⟨rfl,Kz⟩;obtain⟨w8,Ar,K8,b8⟩:=Af (x:=0) (y:=4) (f:=.nilFunc) (Kz.old (rb) id) rfl)|refine Ae rfl _ _ _ rfl rfl rfl Ar ?_);refine TR 0 4 (by simp[results,results142,go_sem,Dz b8]) rfl ?_;exact Br h hO hm hb K0 BA Kz K8 (by decide) (by decide)
   ·gi_enter func142,ntmps142;gi_wp2_with (first|(gi_at_call 140;refine(AL _ _ 4).mono ?_;rintro e wz ⟨rfl,Kz⟩;obtain⟨w8,Ar,K8,b8⟩:=Af (x:=0) (y:=4) (f:=.nilFunc) (Kz.old (rb) id) rfl)|refine Ae rfl _ _ _ rfl rfl rfl Ar ?_);refine TR 0 4 (by simp[results,results142,go_sem,Dz b8]) rfl ?_;exact Br h hO hm hb K0 BA Kz K8 (by decide) (by decide)
 ·have f1:¬(12:Int)<=(K.AJ.length:Int):=by omega
  have f2:¬(60000:Int)<=(K.BM:Int):=by omega
  gi_enter func142,ntmps142;gi_wp2;generalize hw0:w.alloc V_=w0 at*;refine AA (P:=prog) No _ rfl rfl (by kernel_rfl) 21 72 [0,1,2,3,4,5,6,7,8,9,10,11,12,13,16,17,18,19] [14,15,20] (by kernel_rfl) (by rfl) (Ml r w0.heap.size) (fun _ _ _ _ _ h hK=>h.mono hK) _ _ rfl rfl ?_;gi_wp2;refine⟨rfl,by kernel_rfl,?_,?_,?_⟩
  ·intro W hK;have d0:=hK.has (w:=w0.drew) p0;have d7:=hK.has (w:=w0.drew) p7;have d8:=hK.has (w:=w0.drew) q8;have d9:=hK.has (w:=w0.drew) q9
   repeat' (refine Ao ?_ ?_)
   all_goals first|exact trivial|gi_wp2
  ·intro i hi u W hK hu;have KW:Ab No w0 W:=(Ab.refl No w0).drew.then hK;rcases(by simpa using hi:i=14\/i=15\/i=20)with rfl|rfl|rfl
   ·refine Bh rfl fun KK Ko=>?_
    show wpListIn NF m prog _ _ _ (Act.put (Act.put (Act.put _ (some 36) (u 14)) (some 37) (u 15)) (some 42) (u 20)) _;have cc:=fun m=>II m W (S_ gi0) r.Ah.length ci0 (Aq r.Ah) (by simp[Aq]) (ah2.keep KW id).cells (Dr _) (by omega)
    gi_wp2_with (gi_at_call 141;refine(cc _).mono ?_;rintro e w1 ⟨K1,v,rfl,FX⟩);obtain⟨g,c,rfl,hR,hge⟩:=Nj FX hL0 (Dr _);exact⟨_,rfl,K1,by unfold Ml;rw[if_pos rfl];exact⟨g,c,rfl,hR,Nat.le_trans KW.size hge⟩⟩
   ·obtain⟨g,c,e14,hR,hge⟩:∃g c,u 14=.slice (some (S_ g)) r.Ah.length c/\Rw 123 1 W g r.Ah.length c (Aq r.Ah)/\w0.heap.size<=g:=by
     have:=hu 14 (by simp) (by decide)
     unfold Ml at this;rwa [if_pos rfl]at this
    refine Bh rfl fun KK Ko=>?_
    show wpListIn NF m prog _ _ _ (Act.put (Act.put (Act.put _ (some 36) (u 14)) (some 37) (u 15)) (some 42) (u 20)) _;rw[e14];gi_wp2;rw[<-e14];exact⟨_,rfl,Ab.refl _ _,by unfold Ml;rw[if_neg (by decide),if_pos rfl];exact⟨g,c,by rw[e14],hR,hge⟩⟩
   ·refine Bh rfl fun KK Ko=>?_
    show wpListIn NF m prog _ _ _ (Act.put (Act.put (Act.put _ (some 36) (u 14)) (some 37) (u 15)) (some 42) (u 20)) _;have cc:=fun m=>Tq m W (S_ gf0) r.fds.length cf0 (Ep r.fds) (by simp[Ep]) (ah4.keep KW id).cells (Tj _) (by omega)
    gi_wp2_with (gi_at_call 102;refine(cc _).mono ?_;rintro e w1 ⟨K1,v,rfl,FX⟩);obtain⟨g,c,rfl,hR,hge⟩:=Nj FX ao0 (Tj _);exact⟨_,rfl,K1,by unfold Ml;rw[if_neg (by decide),if_neg (by decide)];exact⟨g,c,rfl,hR,Nat.le_trans KW.size hge⟩⟩
  ·intro u W hK hu;have KW:Ab No w0 W:=(Ab.refl No w0).drew.then hK;obtain⟨gi,ci,e15,Jw,hgi⟩:∃g c,u 15=.agg #[.int .u16 0,.int .u16 0,.int .u16 r.P,.slice (some (S_ g)) r.Ah.length c]/\Rw 123 1 W g r.Ah.length c (Aq r.Ah)/\w0.heap.size<=g:=by
    have:=hu 15 (by simp)
    unfold Ml at this;rwa [if_neg (by decide),if_pos rfl]at this
   obtain⟨gf,cf,e20,yT,hgf⟩:∃g c,u 20=.slice (some (S_ g)) r.fds.length c/\Rw 3 1 W g r.fds.length c (Ep r.fds)/\w0.heap.size<=g:=by
    have:=hu 20 (by simp)
    unfold Ml at this;rwa [if_neg (by decide),if_neg (by decide)]at this
   show wpListIn NF m prog _ _ _ (Act.put (Act.put (Act.put _ (some 36) (u 14)) (some 37) (u 15)) (some 42) (u 20)) _;rw[e15,e20];generalize u 14=v14;have hif:gi≠gf:=by
    obtain⟨c1,a1,_⟩:=Jw.blk
    obtain⟨c2,a2,_⟩:=yT.blk
    exact BG a1 a2 (by decide)
   obtain⟨rc,hrc⟩:∃rc:PR,rc=⟨0,r.pid,0,0,0,r.P,0,false,0,.nilFunc,.slice (some (S_ gi)) r.Ah.length ci,.slice (some (S_ gf)) r.fds.length cf,r.Ah,r.fds⟩:=⟨_,rfl⟩;have oal:W.alloc (.cells #[.int .i64 0,.int .i64 r.pid,.bool false,.int .u16 0,.nilFunc,.int .u16 0,.int .u16 0,.int .u16 r.P,.slice (some (S_ gi)) r.Ah.length ci,.slice (some (S_ gf)) r.fds.length cf,.int .i64 0,.int .i64 0] 128)=W.alloc rc.obj:=(by rw[hrc];rfl);have hal:(W.alloc rc.obj).heap[W.heap.size]?=some rc.obj:=heap_alloc_new rfl;have Kal:Ab No W (W.alloc rc.obj):=(Ab.refl _ _).alloc _;have ah3:=Jw.keep Kal id;have ah5:=yT.keep Kal id;have gm:rc.Ah=r.Ah:=(by rw[hrc]);have nK:rc.fds=r.fds:=(by rw[hrc]);have zW:rc.en=false:=(by rw[hrc]);have aj0:rc.bl=.nilFunc:=(by rw[hrc]);have ai8:rc.im=.slice (some (S_ gi)) rc.Ah.length ci:=(by rw[hrc]);have ai9:rc.fd=.slice (some (S_ gf)) rc.fds.length cf:=(by rw[hrc]);have lgi:=Jw.lt;have lgf:=yT.lt;obtain⟨h5,M5⟩:=h0.ax8 (r:=rc) (p:=W.heap.size) (gi:=gi) (gf:=gf) (ci:=ci) (cf:=cf) (KW.then Kal) KW.size hgi hgf (by omega) (by omega) hif hal zW aj0 ai8 ai9 (by rw[gm];exact ah3) (by rw[nK];exact ah5);have hpn:K.ps W.heap.size=none:=by
    cases hx:K.ps W.heap.size with
    | none=>rfl
    | some q=>
     have:=(h0.ps _ q hx).t
     rw[h0.lt _ KW.size]at this;simp at this
   have ca:=fun m=>wT m (W.alloc rc.obj) { K with ps:=Cu K.ps W.heap.size rc,T:=NT K.T W.heap.size gi gf } W.heap.size NS rc h5 Al (by rw[gm];exact hL) hO.sw.fit hO.sw.le (by show K.BM<=100000;omega) (by show K.AJ.length<=100;omega)
   have ca2:=fun m=>(ca m).mono fun e w' x=>qW (r:=r) o (by omega) (by rw[hrc]) zW hn nK gm (by rw[hrc]) (by rw[hrc]) (by rw[hrc]) (by rw[hrc]) hpn x
   clear ca;clear hrc gm nK zW aj0 ai8 ai9;have rb5:(W.alloc rc.obj).heap[w.heap.size]?=some (.cells #[.int .u16 0,.int .u16 0,.nilFunc] 206 (0,0)):=(KW.then Kal).old rb id;have V5:Bw K.T (NT K.T W.heap.size gi gf) w0 (W.alloc rc.obj):=M5;have tr5:NT K.T W.heap.size gi gf w.heap.size=(0,0):=(Ct.fresh V5 _ BA).trans E8;clear h0 M5 KW Kal Jw yT ah3 ah5 q8 q9 ah2 ah4 hK hu p0 p7 q2 q3 hgi hgf hal e15 e20;gi_wp2_with (gi_at_call 46;refine(ca2 _).mono ?_;rintro e w6 (⟨rfl,h6,M6⟩|⟨q,K6,g6,c6,rfl,hC,h6,M6,q9,efd⟩))
   ·obtain⟨J5,Fb⟩:=hO.fds (K1:={ K with T:=NT K.T W.heap.size gi gf }) (r':=r) (H:=Bi K.ps K.AJ) ⟨rfl⟩ hm hb rfl rfl rfl rfl rfl o ⟨hO.CY.ho,hO.CY.le,hO.CY.op,hO.CY.nd,hO.CY.nz,hO.CY.nm,hO.CY.dj⟩ fun i _=>rfl
    rw[EJ (K:={ K with T:=NT K.T W.heap.size gi gf }) hb]at J5 Fb;have V6:=V5.trans M6;have rb6:=M6.old rb5 tr5;gi_wp2_with (first|(gi_at_call 140;refine(AL _ _ 5).mono ?_;rintro e wz ⟨rfl,Kz⟩;obtain⟨w8,Ar,K8,b8⟩:=Af (x:=0) (y:=5) (f:=.nilFunc) (Kz.old (rb6) id) rfl)|refine Ae rfl _ _ _ rfl rfl rfl Ar ?_);refine TR 0 5 (by simp[results,results142,go_sem,Dz b8]) rfl ?_;exact AV (K':={ K with T:=NT K.T W.heap.size gi gf }) (x:=0) (y:=5) h.lt K0 BA ((V6).then Kz) ((h6).no Kz) K8 (by omega) (by omega) (.inl rfl) (J5) (Fb) hb (fun _=>hm)
   ·have V6:=V5.trans M6;have rb6:=M6.old rb5 tr5;have lX:K6.kb=K.kb:=(by rw[hC.eq]);have t6:Dx (fun i=>Bi K.ps K.AJ i+(r.fds.take 0).count (i:Int)) K6:=by
     have t:=hO.CY
     refine Dx.congr (H:=Bi K.ps K.AJ) ?_ fun i _=>by simp
     rw[hC.eq]
     exact⟨t.ho,t.le,t.op,t.nd,t.nz,t.nm,t.dj⟩
    generalize W.heap.size=p at*;clear oal h5 V5 rb5 tr5 lgi lgf ca2 M6;gi_loopw [55] (fun i wr=>∃k:Nat,k<=r.fds.length/\i=.int .i64 k/\ae5 K K6 K.T w0 r.fds k wr) (fun i _=>r.fds.length-(intOf i).toNat)
    case atStart=>exact⟨0,by omega,rfl,K6.desc,h6,V6,t6⟩
    case round=>
     obtain⟨k,hk,rfl,d1,h1,hv1,ht1⟩:=hrel
     have Jv:({ K6 with desc:=d1 }:KS).ps p=some q:=hC.ps
     obtain⟨g1,c1,p9,fG,tg1,hfd1⟩:=h1.WH Jv hC.en
     rw[hC.fds]at fG hfd1 p9
     obtain⟨rfl,rfl⟩:g1=g6/\c1=c6:=by rw[efd]at hfd1;simp at hfd1;exact⟨hfd1.1.symm,hfd1.2.symm⟩
     by_cases BC:k<r.fds.length
     ·have hg:r.fds[k]?=some r.fds[k]:=HZ BC;generalize r.fds[k]=n at hg;have d:=fG.JH rfl hg;rcases o.fd n (List.mem_of_getElem? hg)with rfl|⟨i,rfl,hi⟩
      ·gi_wp2;go_roundw
       case rel=>
        refine⟨k+1,by omega,by go_num,d1,h1,hv1,ht1.congr fun i _=>?_⟩
        rw[Hz hg,if_neg (by omega)];rfl
       case measure=>simp[intOf];omega
      ·have hge:=OJ (p:=K.ps) (i:=i) hm hb;have hcp:0<r.fds.count (i:Int):=List.count_pos_iff.2 (List.mem_of_getElem? hg);have hct:=Hz (i:=i) hg;rw[if_pos rfl]at hct;have hle:=fun j=>hO.Tk j
       have hcl:∀j,(r.fds.take k).count j<=6:=fun j=>Nat.le_trans List.count_le_length (by simp;omega)
       have hd1:0<d1 i:=(by have:=ht1.ho i hi;simp only at this;omega);have hd2:d1 i<=1000:=(by have t:=ht1.ho i hi;simp only at t;have:=hle i;have:=hcl i;omega);have cs:=fun m=>Xv m wr { K6 with desc:=d1 } i h1 hi hd1 hd2
       rw[show({ K6 with desc:=d1 }:KS).kb=K.kb from lX]at cs;have f1:((i:Int) !=-1)=true:=(by simp);gi_wp2_with (gi_at_call 193;refine(cs _).mono ?_;rintro e w2 ⟨rfl,h2,M2⟩);go_roundw
       case rel=>
        refine⟨k+1,by omega,by go_num,Az d1 i (d1 i+1),by rw[<-lX]at h2;exact h2,hv1.trans M2,(ht1.share hd1 (fun j hj=>?_) hi).congr fun j _=>?_⟩
        ·have a1:=hle j;have a2:=hcl j;have a3:=hle i;have a4:=hcl i;simp only[Az];split<;>omega
        ·unfold Az;split
         ·rename_i e;subst e;rw[hct];omega
         ·rename_i e;rw[Hz hg,if_neg (by omega)];rfl
       case measure=>simp[intOf];omega
     ·obtain rfl:k=r.fds.length:=(by omega);rw[List.take_length]at ht1;rw[<-hC.fds]at ht1;obtain⟨J5,Fb⟩:=hO.born (b:=b) (q:=q) (K1:={ K6 with desc:=d1 }) hpn (by omega) (by omega) hC.ok hC.pid hC.co (by rw[hC.Ah];exact hL) hC.sw ht1 (by have:=hC.eq;rw[this]);have p0:=h1.FH Jv 0;simp[PR.arr]at p0;have hpq:=hC.ok.pid;have hbb:({ K6 with desc:=d1 }:KS).ps b=some r:=(by show K6.ps b=_;rw[hC.eq];exact(BI (by rintro rfl;rw[hpn]at hb;cases hb)).trans hb);have hmb:b∈({ K6 with desc:=d1 }:KS).AJ:=(by show b∈K6.AJ;rw[hC.eq];simp[hm]);have rb7:=hv1.old rb E8;clear p9 fG lX efd hfd1 q9;gi_wp2_with (first|(gi_at_call 152;refine(Cr _ _ q.pid (by omega)).mono ?_;rintro e wz ⟨rfl,Kz⟩;obtain⟨w8,Ar,K8,b8⟩:=Af (x:=q.pid) (y:=0) (f:=.nilFunc) (Kz.old (rb7) id) rfl)|refine Ae rfl _ _ _ rfl rfl rfl Ar ?_);refine TR q.pid 0 (by simp[results,results142,go_sem,Dz b8]) rfl ?_;exact AV (K':={ K6 with desc:=d1 }) (x:=q.pid) (y:=0) h.lt K0 BA ((hv1).then Kz) ((h1).no Kz) K8 (by omega) (by omega) (.inl rfl) (J5) (Fb) hbb (fun _=>hmb)
end
end Go.Fxa
