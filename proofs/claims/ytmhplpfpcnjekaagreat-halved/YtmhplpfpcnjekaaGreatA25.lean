/- A process forks. -/
import Derived.Test.YtmhplpfpcnjekaaGreatA23
namespace Go.Fxa
open Conc Proofs RowKit Proofs.Tryz
set_option maxRecDepth 1000000
set_option maxHeartbeats 0
variable {w:o_}{base p g b:Nat}{v:n_}{r:PR}{K:KS}{T:Tag}{Af:List Nat}
theorem Ru {n:Nat}{e:j_}{xs:U_}(h:w.ownsRow base e 1 v n xs)(q:0<n)(o:∀x∈xs,x.oneCell'=true):∃g c,v=P_ g n c/\Rw e 1 w g n c xs/\base<=g:=by
 obtain⟨l,⟨_,m⟩|⟨g,cap,j,a,b,c,d,k,f,i⟩⟩:=h
 .omega
 .exact⟨g,cap,a,⟨⟨j,c,f,i⟩,d,k,l,o⟩,b⟩
theorem ZP (l:List Int):∀x∈FW l,x.oneCell'=true:=by
 intro x a;simp only[FW,List.mem_map]at a;obtain⟨n,_,rfl⟩:=a
 rfl
def QI (r:PR)(base:Nat)(i:Nat)(v:n_)(W:o_):Prop:=
 if i=14 then ∃g c,v=P_ g r.Af.length c/\Rw 123 1 W g r.Af.length c (Aw r.Af)/\base<=g
 else if i=15 then ∃g c,v=.agg #[a_ 0,a_ 0,a_ r.P,P_ g r.Af.length c]/\Rw 123 1 W g r.Af.length c (Aw r.Af)/\base<=g
 else ∃g c,v=P_ g r.fds.length c/\Rw 3 1 W g r.fds.length c (FW r.fds)/\base<=g
theorem QI.mono {i:Nat}{W j:o_}(h:QI r base i v W)(f:Aa No W j):QI r base i v j:=by
 unfold QI at h ⊢;split
 .rename_i e;rw[rW e]at h;obtain⟨g,c,a,b,d⟩:=h;exact⟨g,c,a,b.keep f id,d⟩
 .rename_i e;rw[ru e]at h;split
  .rename_i e;rw[rW e]at h;obtain⟨g,c,a,b,d⟩:=h;exact⟨g,c,a,b.keep f id,d⟩
  .rename_i e;rw[ru e]at h;obtain⟨g,c,a,b,d⟩:=h;exact⟨g,c,a,b.keep f id,d⟩
structure Child (K K6:KS)(p:Nat)(r q:PR):Prop where
 ps:K6.ps p=some q
 en:q.en=false
 fds:q.fds=r.fds
 ok:q.Ok
 pid:q.pid=K.BG+1
 co:q.co=-1
 Af:q.Af=r.Af
 par:q.par=r.pid
 A:q.A=0
 B:q.B=0
 P:q.P=r.P
 st:q.st=0
 bl:q.bl=.nilFunc
 sw:(Aq K.swap (Aj q.Af.length)).1=some q.sw
 eq:K6={K with swap:=(Aq K.swap (Aj q.Af.length)).2,BG:=K.BG+1,Ar:=K.Ar++[p],ps:=CY K.ps p q,pg:=K6.pg,pc:=K6.pc,T:=K6.T}
def aw4 (K:KS)(p:Nat)(r:PR)(T:Tag)(w:o_)(e:Ending)(w':o_):Prop:=(e=.returned (.bool false)/\AY {K with T:=T} w'/\BQ T T w w'/\Yp ((Aq K.swap (Aj r.Af.length)).1=none))\/∃q K6 g c,e=.returned (.bool true)/\Child K K6 p r q/\AY K6 w'/\BQ T K6.T w w'/\w'.cell? (S_ p 9)=some (P_ g r.fds.length c)/\q.fd=P_ g r.fds.length c
theorem au9 {rc:PR}{w':o_}{e:Ending}(o:r.Ok)(H:K.BG<60000)(E:rc.par=r.pid)(u:rc.en=false)(y:r.en=false)(t:rc.fds=r.fds)(z:rc.Af=r.Af)(hA:rc.A=0)(hB:rc.B=0)(D:rc.P=r.P)(C:rc.st=0)(F:rc.bl=.nilFunc)(G:K.ps p=none)(h:ν {K with ps:=CY K.ps p rc,T:=T} p rc w e w'):aw4 K p r T w e w':=by
 obtain⟨rfl,i,d,f⟩|⟨a,g,c,s,rfl,i,d,f⟩:=h
 .exact .inl ⟨rfl,AY.bj9 (K:={K with T:=T}) i G,d,by rw[z]at f;exact f⟩
 .simp only[U7]at d;obtain⟨m,l,q,_,_,j⟩:=d.rZ (b:=p) (r:={rc with pid:=K.BG+1,sw:=a,co:=-1}) Ag u;refine .inr ⟨{rc with pid:=K.BG+1,sw:=a,co:=-1},_,m,l,rfl,⟨Ag,u,t,?_,rfl,rfl,z,E,hA,hB,D,C,F,i,rfl⟩,d,f,by rw[<-t];exact q,by rw[<-t];exact j⟩;refine⟨by rw[hA];omega,by rw[hB];omega,by rw[D];exact o.P,by rw[C];omega,by show K.BG+1<=60000;omega,by show rc.par<=60000;rw[E];exact o.pid,by show ∀x∈rc.Af,_;rw[z];exact o.Af,λ_=>by show rc.fds.length=6;rw[t];exact o.fds y,by show ∀n∈rc.fds,_;rw[t];exact o.fd,λ_=>by show ∃k,rc.Af.length=_/\_;rw[z];exact o.len y,λe=>?_⟩;have e:rc.en=true:=e;rw[u]at e;cases e
def bz2 (K K6:KS)(T:Tag)(w:o_)(fds:List Int)(k:Nat)(wr:o_):Prop:=∃d,AY {K6 with desc:=d} wr/\BQ T K6.T w wr/\EP (λi=>BR K.ps K.Ar i+(fds.take k).count (i:Int)) {K6 with desc:=d}
def zt (K:KS)(r:PR):KS->Nat->Nat->n_->Prop:=λK' x y f=>((K.Ar.length=12\/K.BG=60000)/\GY K 4 K' x y f)\/(¬(K.Ar.length=12\/K.BG=60000)/\(Aq K.swap (Aj r.Af.length)).1=none/\(∃T',K'={K with T:=T' })/\x=0/\y=5/\f=.nilFunc)\/(¬(K.Ar.length=12\/K.BG=60000)/\∃p q K6 d1,K.ps p=none/\Child K K6 p r q/\(∀i,i<20->d1 i=K.desc i+r.fds.count (i:Int))/\K'={K6 with desc:=d1}/\x=q.pid/\y=0/\f=.nilFunc)
section
variable (m:Nat)(w:o_)
theorem bj8 (K:KS)(NC NS b:Nat)(r:PR)(h:AY K w)(hO:DU NC NS K)(hm:b∈K.Ar)(hb:K.ps b=some r)(hn:r.en=false):
  O_ m 142 #[Q_ K.kb,Q_ b] w (FX (zt K r) NC NS b K w):=by
 have o:=hO.pr b r hb;have hlen:r.fds.length<=6:=by rw[o.fds hn];omega
 have hlen0:0<r.fds.length:=by rw[o.fds hn];omega
 have hL:=(hO.co.pl b r hb).1;have hL0:0<r.Af.length:=by obtain⟨k,h1,h2,_⟩:=o.len hn;omega
 have hl12:=hO.len;have hc6:=hO.BG;obtain⟨K0,rb,Cm⟩:=IE w;have G:=h.no K0;have Hl:K.T w.heap.size=(0,0):=h.lt _ w_;have q2:=G.kc2;have q3:(w.alloc V_).cell? (S_ K.kb 3)=some (b_ K.BG):=let ⟨_,a,c⟩:=G.k;(Ai a 3).trans c.c3
 obtain⟨gi0,ci0,q8,cd0,dg1,dh1⟩:=G.lh hb hn;obtain⟨gf0,cf0,q9,cd2,dg2,hfd0⟩:=G.rZ hb hn;have p0:=G.Iu hb 0;have p7:=G.Iu hb 7;simp[PR.arr]at p0 p7;by_cases l:K.Ar.length=12\/K.BG=60000
 .have HF:=l;obtain l|l:=l
  .have f1:(12:Int)<=(K.Ar.length:Int):=wB;gi_enter func142,ntmps142;gi_wp2_with (first|(gi_at_call 140;refine(Uy 4 rb _).mono ?_;rintro e wz ⟨rfl,E,w8,I,J,L⟩)|refine Fa I ?_);refine T_ 0 4 (by simp[results,results142,go_sem,FU L]) rfl ?_;exact Ci h hO hm hb K0 Cm E J sN sN (.inl ⟨HF,GY.of⟩)
  .have f2:(60000:Int)<=(K.BG:Int):=wB;by_cases f1:(12:Int)<=(K.Ar.length:Int)
   .gi_enter func142,ntmps142;gi_wp2_with (first|(gi_at_call 140;refine(Uy 4 rb _).mono ?_;rintro e wz ⟨rfl,E,w8,I,J,L⟩)|refine Fa I ?_);refine T_ 0 4 (by simp[results,results142,go_sem,FU L]) rfl ?_;exact Ci h hO hm hb K0 Cm E J sN sN (.inl ⟨HF,GY.of⟩)
   .gi_enter func142,ntmps142;gi_wp2_with (first|(gi_at_call 140;refine(Uy 4 rb _).mono ?_;rintro e wz ⟨rfl,E,w8,I,J,L⟩)|refine Fa I ?_);refine T_ 0 4 (by simp[results,results142,go_sem,FU L]) rfl ?_;exact Ci h hO hm hb K0 Cm E J sN sN (.inl ⟨HF,GY.of⟩)
 .have f1:¬(12:Int)<=(K.Ar.length:Int):=wB
  have f2:¬(60000:Int)<=(K.BG:Int):=wB
  gi_enter func142,ntmps142;gi_wp2;generalize hw0:w.alloc V_=C at*;refine DI (P:=prog) No _ rfl rfl sU 21 72 [0,1,2,3,4,5,6,7,8,9,10,11,12,13,16,17,18,19] [14,15,20] sU (by rfl) (QI r C.heap.size) (λ_ _ _ _ _ h F=>h.mono F) _ _ rfl rfl ?_;gi_wp2;refine⟨rfl,sU,?_,?_,?_⟩
  .intro W F;have d0:=F.has (w:=C.drew) p0;have d7:=F.has (w:=C.drew) p7;have d8:=F.has (w:=C.drew) q8;have d9:=F.has (w:=C.drew) q9
   repeat' (refine AA ?_ ?_)
   all_goals first|exact dE|gi_wp2
  .intro i hi u W F hu;have KW:Aa No C W:=(Aa.refl No C).drew.then F;obtain rfl|rfl|rfl:=(by simpa using hi:i=14\/i=15\/i=20)
   .refine BI rfl λKK Ol=>?_
    show wpListIn NF m prog _ _ _ (Act.put (Act.put (Act.put _ (some 36) (u 14)) (some 37) (u 15)) (some 42) (u 20)) _;have cc:=λm=>Lr m W (R_ gi0) r.Af.length ci0 (Aw r.Af) (by simp[Aw]) (cd0.keep KW id).cells (EJ _) wB
    gi_wp2_with (gi_at_call 141;refine(cc _).mono ?_;rintro e w1 ⟨K1,v,rfl,Ey⟩);obtain⟨g,c,rfl,hR,D⟩:=Ru Ey hL0 (EJ _);exact⟨_,rfl,K1,by unfold QI;rw[rW rfl];exact⟨g,c,rfl,hR,lN KW.size D⟩⟩
   .obtain⟨g,c,V,hR,D⟩:∃g c,u 14=P_ g r.Af.length c/\Rw 123 1 W g r.Af.length c (Aw r.Af)/\C.heap.size<=g:=by
     have:=hu 14 sJ sN
     unfold QI at this;rwa [rW rfl]at this
    refine BI rfl λKK Ol=>?_
    show wpListIn NF m prog _ _ _ (Act.put (Act.put (Act.put _ (some 36) (u 14)) (some 37) (u 15)) (some 42) (u 20)) _;rw[V];gi_wp2;rw[<-V];exact⟨_,rfl,Aa.refl _ _,by unfold QI;rw[ru sN,rW rfl];exact⟨g,c,by rw[V],hR,D⟩⟩
   .refine BI rfl λKK Ol=>?_
    show wpListIn NF m prog _ _ _ (Act.put (Act.put (Act.put _ (some 36) (u 14)) (some 37) (u 15)) (some 42) (u 20)) _;have cc:=λm=>ZV m W (R_ gf0) r.fds.length cf0 (FW r.fds) (by simp[FW]) (cd2.keep KW id).cells (ZP _) wB
    gi_wp2_with (gi_at_call 102;refine(cc _).mono ?_;rintro e w1 ⟨K1,v,rfl,Ey⟩);obtain⟨g,c,rfl,hR,D⟩:=Ru Ey hlen0 (ZP _);exact⟨_,rfl,K1,by unfold QI;rw[ru sN,ru sN];exact⟨g,c,rfl,hR,lN KW.size D⟩⟩
  .intro u W F hu;have KW:Aa No C W:=(Aa.refl No C).drew.then F;obtain⟨gi,ci,e15,N,hgi⟩:∃g c,u 15=.agg #[a_ 0,a_ 0,a_ r.P,P_ g r.Af.length c]/\Rw 123 1 W g r.Af.length c (Aw r.Af)/\C.heap.size<=g:=by
    have:=hu 15 sJ
    unfold QI at this;rwa [ru sN,rW rfl]at this
   obtain⟨gf,cf,e20,M,hgf⟩:∃g c,u 20=P_ g r.fds.length c/\Rw 3 1 W g r.fds.length c (FW r.fds)/\C.heap.size<=g:=by
    have:=hu 20 sJ
    unfold QI at this;rwa [ru sN,ru sN]at this
   show wpListIn NF m prog _ _ _ (Act.put (Act.put (Act.put _ (some 36) (u 14)) (some 37) (u 15)) (some 42) (u 20)) _;rw[e15,e20];generalize u 14=v14;have hif:gi≠gf:=by
    obtain⟨c1,a1,_⟩:=N.blk
    obtain⟨c2,a2,_⟩:=M.blk
    exact Cj a1 a2 sN
   obtain⟨rc,s⟩:∃rc:PR,rc=⟨0,r.pid,0,0,0,r.P,0,false,0,.nilFunc,P_ gi r.Af.length ci,P_ gf r.fds.length cf,r.Af,r.fds⟩:=⟨_,rfl⟩;have oal:W.alloc (.cells #[b_ 0,b_ r.pid,.bool false,a_ 0,.nilFunc,a_ 0,a_ 0,a_ r.P,P_ gi r.Af.length ci,P_ gf r.fds.length cf,b_ 0,b_ 0] 128)=W.alloc rc.obj:=(by rw[s];rfl);have hal:(W.alloc rc.obj).heap[W.heap.size]?=some rc.obj:=Yw rfl;have Kal:Aa No W (W.alloc rc.obj):=(Aa.refl _ _).alloc _;have cd1:=N.keep Kal id;have cd3:=M.keep Kal id;have zh:rc.Af=r.Af:=(by rw[s]);have R:rc.fds=r.fds:=(by rw[s]);have S:rc.en=false:=(by rw[s]);have U:rc.bl=.nilFunc:=(by rw[s]);have ce7:rc.im=P_ gi rc.Af.length ci:=(by rw[s]);have ce8:rc.fd=P_ gf rc.fds.length cf:=(by rw[s]);have lgi:=N.lt;have lgf:=M.lt;obtain⟨h5,M5⟩:=G.cw1 (r:=rc) (p:=W.heap.size) (gi:=gi) (gf:=gf) (ci:=ci) (cf:=cf) (KW.then Kal) KW.size hgi hgf wB wB hif hal S U ce7 ce8 (by rw[zh];exact cd1) (by rw[R];exact cd3);have O:K.ps W.heap.size=none:=by
    cases hx:K.ps W.heap.size with
    |none=>rfl
    |some q=>
     have:=(G.ps _ q hx).t
     rw[G.lt _ KW.size]at this;simp at this
   have ca:=λm=>bn0 m (W.alloc rc.obj) {K with ps:=CY K.ps W.heap.size rc,T:=Ti K.T W.heap.size gi gf} W.heap.size NS rc h5 Ag (by rw[zh];exact hL) hO.sw.fit hO.sw.le (by show K.BG<=100000;omega) (by show K.Ar.length<=100;omega)
   have ca2:=λm=>(ca m).mono λe w' x=>au9 (r:=r) o wB (by rw[s]) S hn R zh (by rw[s]) (by rw[s]) (by rw[s]) (by rw[s]) U O x
   clear ca;clear s zh R S U ce7 ce8;have rb5:(W.alloc rc.obj).heap[w.heap.size]?=some (N_ #[a_ 0,a_ 0,.nilFunc] 206):=(KW.then Kal).old rb id;have V5:BQ K.T (Ti K.T W.heap.size gi gf) C (W.alloc rc.obj):=M5;have tr5:Ti K.T W.heap.size gi gf w.heap.size=(0,0):=(CG.fresh V5 _ Cm).trans Hl;clear G M5 KW Kal N M cd1 cd3 q8 q9 cd0 cd2 F hu p0 p7 q2 q3 hgi hgf hal e15 e20;gi_wp2_with (gi_at_call 46;refine(ca2 _).mono ?_;rintro e w6 (⟨rfl,h6,M6,hno⟩|⟨q,B,g6,c6,rfl,hC,h6,M6,q9,efd⟩))
   .obtain⟨Td,IU⟩:=hO.fds (K1:={K with T:=Ti K.T W.heap.size gi gf}) (r':=r) (H:=BR K.ps K.Ar) ⟨rfl⟩ hm hb rfl rfl rfl rfl rfl o ⟨hO.Ei.ho,hO.Ei.le,hO.Ei.op,hO.Ei.nd,hO.Ei.nz,hO.Ei.nm,hO.Ei.dj⟩ λi _=>rfl
    rw[FD (K:={K with T:=Ti K.T W.heap.size gi gf}) hb]at Td IU;have V6:=V5.trans M6;have rb6:=M6.old rb5 tr5;gi_wp2_with (first|(gi_at_call 140;refine(Uy 5 rb6 _).mono ?_;rintro e wz ⟨rfl,E,w8,I,J,L⟩)|refine Fa I ?_);refine T_ 0 5 (by simp[results,results142,go_sem,FU L]) rfl ?_;exact BD (K':={K with T:=Ti K.T W.heap.size gi gf}) (x:=0) (y:=5) h.lt K0 Cm ((V6).then E) ((h6).no E) J wB wB (.inl rfl) (Td) (IU) hb (λ_=>hm) (.inr (.inl ⟨l,hno.out,⟨_,rfl⟩,rfl,rfl,rfl⟩))
   .have V6:=V5.trans M6;have rb6:=M6.old rb5 tr5;have X:B.kb=K.kb:=(by rw[hC.eq]);have t6:EP (λi=>BR K.ps K.Ar i+(r.fds.take 0).count (i:Int)) B:=by
     have t:=hO.Ei
     refine EP.congr (H:=BR K.ps K.Ar) ?_ λi _=>sJ
     rw[hC.eq]
     exact⟨t.ho,t.le,t.op,t.nd,t.nz,t.nm,t.dj⟩
    generalize W.heap.size=p at*;clear oal h5 V5 rb5 tr5 lgi lgf ca2 M6;gi_loopw [55] (λi wr=>∃k:Nat,k<=r.fds.length/\i=b_ k/\bz2 K B K.T C r.fds k wr) (λi _=>r.fds.length-(intOf i).toNat)
    case atStart=>exact⟨0,wB,rfl,B.desc,h6,V6,t6⟩
    case round=>
     obtain⟨k,hk,rfl,d1,h1,Q,A⟩:=hrel
     have JU:({B with desc:=d1}:KS).ps p=some q:=hC.ps
     obtain⟨g1,c1,p9,Y,tg1,z⟩:=h1.rZ JU hC.en
     rw[hC.fds]at Y z p9
     obtain⟨rfl,rfl⟩:g1=g6/\c1=c6:=by rw[efd]at z;simp at z;exact⟨z.1.symm,z.2.symm⟩
     by_cases BL:k<r.fds.length
     .have hg:r.fds[k]?=some r.fds[k]:=JM BL;generalize r.fds[k]=n at hg;have d:=Y.Pm rfl hg;obtain rfl|⟨i,rfl,hi⟩:=o.fd n (t_ hg)
      .gi_wp2;go_roundw
       case rel=>
        refine⟨k+1,wB,by go_num,d1,h1,Q,A.congr λi _=>?_⟩
        rw[J5 hg,ru wB];rfl
       case measure=>simp[intOf];omega
      .have D:=Ut (p:=K.ps) (i:=i) hm hb;have hcp:0<r.fds.count (i:Int):=List.count_pos_iff.2 (t_ hg);have hct:=J5 (i:=i) hg;rw[rW rfl]at hct;have hle:=λj=>hO.ZQ j
       have Z:∀j,(r.fds.take k).count j<=6:=λj=>lN List.count_le_length (by simp;omega)
       have hd1:0<d1 i:=(by have:=A.ho i hi;simp only at this;omega);have hd2:d1 i<=1000:=(by have t:=A.ho i hi;simp only at t;have:=hle i;have:=Z i;omega);have cs:=λm=>nI m wr {B with desc:=d1} i h1 hi hd1 hd2
       rw[show({B with desc:=d1}:KS).kb=K.kb from X]at cs;have f1:((i:Int) !=-1)=true:=sJ;gi_wp2_with (gi_at_call 193;refine(cs _).mono ?_;rintro e w2 ⟨rfl,h2,M2⟩);go_roundw
       case rel=>
        refine⟨k+1,wB,by go_num,Ah d1 i (d1 i+1),by rw[<-X]at h2;exact h2,Q.trans M2,(A.share hd1 (λj hj=>?_) hi).congr λj _=>?_⟩
        .have a1:=hle j;have a2:=Z j;have a3:=hle i;have a4:=Z i;simp only[Ah];split<;>omega
        .unfold Ah;split
         .rename_i e;subst e;rw[hct];omega
         .rename_i e;rw[J5 hg,ru wB];rfl
       case measure=>simp[intOf];omega
     .obtain rfl:k=r.fds.length:=wB;rw[List.take_length]at A;rw[<-hC.fds]at A;obtain⟨Td,IU⟩:=hO.born (b:=b) (q:=q) (K1:={B with desc:=d1}) O wB wB hC.ok hC.pid hC.co (by rw[hC.Af];exact hL) hC.sw A (by have:=hC.eq;rw[this]);have p0:=h1.Iu JU 0;simp[PR.arr]at p0;have hpq:=hC.ok.pid;have hbb:({B with desc:=d1}:KS).ps b=some r:=(by show B.ps b=_;rw[hC.eq];exact(BB (by rintro rfl;rw[O]at hb;cases hb)).trans hb);have hmb:b∈({B with desc:=d1}:KS).Ar:=(by show b∈B.Ar;rw[hC.eq];simp[hm]);have rb7:=Q.old rb Hl;clear p9 Y X efd z q9;gi_wp2_with (first|(gi_at_call 152;refine(Eg _ _ q.pid wB).mono ?_;rintro e wz ⟨rfl,E⟩;obtain⟨w8,I,J,L⟩:=Az (x:=q.pid) (y:=0) (f:=.nilFunc) (E.old (rb7) id) rfl)|refine Fa I ?_);refine T_ q.pid 0 (by simp[results,results142,go_sem,FU L]) rfl ?_;exact BD (K':={B with desc:=d1}) (x:=q.pid) (y:=0) h.lt K0 Cm ((Q).then E) ((h1).no E) J wB wB (.inl rfl) (Td) (IU) hbb (λ_=>hmb) (.inr (.inr ⟨l,p,q,B,d1,O,hC,λi hi=>by rw[hO.Ei.ho i hi,<-hC.fds];exact A.ho i hi,rfl,rfl,rfl,rfl⟩))
theorem yD (u:FrameMode)(K:KS)(b N:Nat)(r:PR)(h:AY K w)(hT:K.ED)(hb:K.ps b=some r)(c:b∈K.Ar)(hN:K.Ar.Nodup)(hC:Cb N (0,0) K)(a:K.Ar.length<=100):
  CallsDIn NF m prog 53 #[Q_ K.kb,Q_ b] u w λe d w'=>d=u/\(e=.returned (.tuple #[])/\∃K',AY K' w'/\BZ K K'/\Cb N (0,0) K'/\BQ K.T K'.T w w'/\YN N b r K'/\lH b K K'):=(ZX m w K b N r h hT hb c hN hC a).2 u
end
theorem BQ.bq6 {T':Tag}{w0:o_}{t:Nat×Nat}(h:BQ T T' w0 w)(c:w0.heap.size<=g)(d:g<w.heap.size)(a:T' g=(0,0)):BQ T (Bi T' g t) w0 w:=by
 refine⟨CG.keep h,λb hb=>?_,λ_ _ _=>trivial,λb hb=>?_,λb hb=>?_⟩
 .have:=CG.old h b hb;rw[AV (by rintro rfl;rw[a]at this;exact hb this.symm)];exact this
 .rw[AV wB];exact CG.lt h b hb
 .rw[AV wB];exact CG.fresh h b hb
theorem AY.bq6 (h:AY K w)(S:K.T g=(0,0))(U:g<w.heap.size):AY {K with T:=Bi K.T g (7,p)} w:=by
 have tag:∀{b t},K.T b=t->t≠(0,0)->Bi K.T g (7,p) b=t:=fun {b t} k s=>by rw[AV (by rintro rfl;exact s (k.symm.trans S))];exact k
 have j:∀{b t},Bi K.T g (7,p) b=t->t.1≠7->K.T b=t:=fun {b t} k s=>by
  by_cases e:b=g
  .subst e;rw[A7]at k;subst k;exact qx rfl s
  .rwa [AV e]at k
 have A:∀{b M v l},Tf K.T w b M v l->Tf (Bi K.T g (7,p)) w b M v l:=fun {b M v l} h=>by
  obtain h|⟨x,c,a1,a2,m,B,C⟩:=h
  .exact .inl h
  .exact .inr ⟨x,c,a1,a2,m,B,tag C sJ⟩
 have op:∀{v o},Pq K.T v o->Pq (Bi K.T g (7,p)) v o:=fun {v o} ⟨b,h⟩=>⟨b,h.imp (λ⟨h,f,k,s⟩=>⟨h,f,tag k sJ,s⟩) (Or.imp (λh=>⟨h.1,tag h.2.1 sJ,h.2.2⟩) (λh=>⟨h.1,tag h.2.1 sJ,h.2.2⟩))⟩
 obtain⟨⟨H,k1,k2⟩,I,J,pr,L,u,O,N,R,Q,lt,D⟩:=h;refine⟨⟨H,k1,⟨k2.c0,k2.c1,k2.c2,k2.c3,λi hi=>⟨(k2.nm i hi).1,λb e=>tag ((k2.nm i hi).2 b e) sJ⟩,?_,λi hi=>let ⟨a,b,c,d⟩:=k2.en i hi;⟨a,b,c,λe=>op (d e)⟩⟩⟩,I,J,pr,λb r e=>?_,⟨λb e=>?_,λb e=>?_,λb c e=>?_,λb e=>?_,λb e=>?_⟩,tag O sJ,tag N sJ,tag R sJ,tag Q sJ,λb hb=>?_,D.to λb n e=>⟨j e sJ,id⟩⟩
 .obtain⟨v,a,b⟩:=k2.nl;obtain⟨b|⟨x,c,a1,a2,m⟩,z⟩:=b
  .exact⟨v,a,.inl b,λb hb=>tag (z b hb) sJ⟩
  .exact⟨v,a,.inr ⟨x,c,a1,a2,tag m sJ⟩,λb hb=>tag (z b hb) sJ⟩
 .have P:=L b r e;refine⟨tag P.t sJ,P.o,λe=>?_,λe=>?_,?_,P.no⟩
  .obtain⟨x,c,a1,a2,m⟩:=P.im e;exact⟨x,c,a1,a2,tag m sJ⟩
  .obtain⟨x,c,a1,a2,m⟩:=P.fd e;exact⟨x,c,a1,a2,tag m sJ⟩
  .obtain h|⟨x,y,k,s,E,F,G⟩|⟨q,k,s⟩:=P.bl
   .exact .inl h
   .exact .inr (.inl ⟨x,y,k,s,E,tag F sJ,tag G sJ⟩)
   .exact .inr (.inr ⟨q,k,tag s sJ⟩)
 .obtain⟨x,a1,a2⟩:=u.file b (j e sJ);exact⟨x,a1,A a2⟩
 .obtain⟨x,a1,a2⟩:=u.pipe b (j e sJ);exact⟨x,a1,A a2⟩
 .obtain⟨a1,a2,m⟩:=u.GU b c (j e sJ);exact⟨a1,tag a2 sJ,m⟩
 .obtain⟨a1,a2⟩:=u.rend b (j e sJ);exact⟨a1,tag a2 sJ⟩
 .obtain⟨a1,a2⟩:=u.UD b (j e sJ);exact⟨a1,tag a2 sJ⟩
 .exact(AV wB).trans (lt b hb)
theorem AY.ci9 {c:Nat}(h:AY K w)(hb:K.ps b=some r)(s:r.en=false)(hR:Rw 123 1 w g Af.length c (Aw Af))(q:K.T g=(7,b)):AY (K.Bj b {r with im:=P_ g Af.length c,Af:=Af}) (w.setCell (S_ b 8) (P_ g Af.length c)):=by
 have a:=h.ps b r hb;have j:g≠b:=λe=>by rw[e,a.t]at q;simp at q
 have KS:Aa (At b) w (w.setCell (S_ b 8) (P_ g Af.length c)):=(Aa.refl _ _).setCell _ λ_=>rfl
 have M:CG K.T K.T (λt=>t=(6,b)\/t=(7,b)\/t=(8,b)\/t=(9,b)) (λt=>t=(6,b)\/t=(7,b)\/t=(8,b)\/t=(9,b)) w (w.setCell (S_ b 8) (P_ g Af.length c)):=CG.of (KS.on λk _ e=>by subst e;exact .inl a.t) h.lt;refine h.lL M ⟨a.t,?_,λe=>⟨g,c,rfl,hR.keep KS j,q⟩,λe=>?_,?_,λe=>qx (show r.en=true from e) (by simp[s])⟩
 .exact Ap a.o _
 .obtain⟨x,c,a1,a2,d⟩:=a.fd e;exact⟨x,c,a1,a2.keep KS (λe=>by rw[show x=b from e,a.t]at d;simp at d),d⟩
 .obtain h|⟨x,y,l,m,n,f,i⟩|h:=a.bl
  .exact .inl h
  .exact .inr (.inl ⟨x,y,l,KS.old m (λe=>by rw[show x=b from e,a.t]at f;simp at f),KS.old n (λe=>by rw[show y=b from e,a.t]at i;simp at i),f,i⟩)
  .exact .inr (.inr h)
theorem DU.become {NC NS a g3 c3:Nat}{N:KS}(h:DU NC NS K)(R:b∈K.Ar)(hb:K.ps b=some r)(U:r.en=false)(Q:(Aq K.swap (Aj Af.length)).1=some a)(X:∀x∈Af,x<65536)(W:∃k,Af.length=8*k/\1<=k/\k<=16)(O:BZ {K with swap:=(Aq K.swap (Aj Af.length)).2} N)(S:Cb NC (0,0) N)(V:N.ps b=some {r with co:=-1}):
  DU NC NS ({ (N.swap' (CE N.swap r.sw (Aj r.Af.length)) g3 c3)with T:=T}.Bj b {r with co:=-1,sw:=a,im:=v,Af:=Af})/\Rel b K ({ (N.swap' (CE N.swap r.sw (Aj r.Af.length)) g3 c3)with T:=T}.Bj b {r with co:=-1,sw:=a,im:=v,Af:=Af}):=by
 have e2:N.Ar=K.Ar:=O.Ar;have e3:N.swap=(Aq K.swap (Aj Af.length)).2:=by rw[O.eq]
 have hE:JV b K.ps (CY N.ps b {r with co:=-1,sw:=a,im:=v,Af:=Af}):=(O.else b:JV b K.ps N.ps).trans JV.set;have o:=h.pr b r hb;obtain⟨J,H,I,_⟩:=o.len U;obtain⟨E,d,g,l⟩:=W;have s:1<=Aj r.Af.length:=by unfold Aj;omega
 have m:=h.sw.pl b r hb;obtain⟨w,_,G⟩:=Jk (n:=Aj Af.length) h.sw.so;obtain⟨L,F,M⟩:=G _ Q;have z:=Rj (a:=r.sw) (n:=Aj r.Af.length) w s m;refine h.step (b:=b) (r:=r) (r':={r with co:=-1,sw:=a,im:=v,Af:=Af}) e2 (by show N.BG=K.BG;rw[O.eq]) (by show N.kb=K.kb;rw[O.eq]) hE hb Ag ⟨o.A,o.B,o.P,o.st,o.pid,o.par,X,o.fds,o.fd,λ_=>⟨E,d,g,l⟩,λe=>qx (show r.en=true from e) (by simp[U])⟩ rfl ?_ ?_ ?_
 .refine S.same rfl (λi=>BU λk _=>?_) λk q c=>?_
  .show Gf i (CY N.ps b _) k=_;by_cases e:k=b
   .subst e;rw[Es Ag,Es V];simp
   .unfold Gf;rw[BB e]
  .have c:CY N.ps b _ k=some q:=c;by_cases e:k=b
   .subst e;rw[Ag]at c;cases c;exact⟨by show Af.length<=128;omega,.inl rfl⟩
   .rw[BB e]at c;exact S.pl k q c
 .refine h.sw.step (b:=b) e2 h.nd R hE hb Ag ?_ ?_ (Nat.zero_le _) F λi=>?_
  .show Sound NS (CE N.swap r.sw (Aj r.Af.length));rw[e3];exact z.1
  .show ay (CE N.swap r.sw (Aj r.Af.length));rw[e3];exact YX s w (YW h.sw.srt) λy C D=>by have:=h.sw.mine R hb y C D;have:=RQ Q y;omega
  .show Ed i (CE N.swap r.sw (Aj r.Af.length))+O6 i a (Aj Af.length)+_=_;have:=RQ Q i;rw[e3,Wx s];omega
 .have t:=h.Ei;have p:EP (BR K.ps K.Ar) ({ (N.swap' (CE N.swap r.sw (Aj r.Af.length)) g3 c3)with T:=T}.Bj b {r with co:=-1,sw:=a,im:=v,Af:=Af}):=by
   have d1:N.desc=K.desc:=by rw[O.eq]
   have d2:N.op=K.op:=by rw[O.eq]
   have d3:N.ef=K.ef:=by rw[O.eq]
   have d4:N.nl=K.nl:=by rw[O.eq]
   have u:N.nm=K.nm:=by rw[O.eq]
   refine⟨?_,t.le,?_,?_,?_,?_,?_⟩
   .show ∀i,i<20->N.desc i=_;rw[d1];exact t.ho
   .show ∀f,N.op f=DK N.desc N.ef f;rw[d1,d2,d3];exact t.op
   .show N.nl.Nodup;rw[d4];exact t.nd
   .show ∀f∈N.nl,1<=N.op f;rw[d4,d2];exact t.nz
   .show ∀i j f,i<16->j<16->N.nm i=some f->N.nm j=some f->i=j;rw[u];exact t.nm
   .show ∀i f,i<16->N.nm i=some f->f ∉ N.nl;rw[u,d4];exact t.dj
  refine p.congr λi _=>?_
  have:=Ri (i:=i) h.nd R hE hb Ag;show BR (CY N.ps b _) N.Ar i=_;rw[e2];simp only at this;omega
theorem bh0 (w:o_)(n:Nat)(a:n<=1000):Rw 123 1 (w.alloc (.cells (madeCells #[a_ 0] n) 123)) w.heap.size n n (Aw (List.replicate n 0)):=by
 refine⟨⟨madeCells #[a_ 0] n,Yw rfl,by simp[madeCells],?_⟩,w_,by unfold maxLen;omega,by simp[Aw],EJ _⟩;apply List.ext_getElem?;intro i;by_cases hi:i<n
 .simp[madeCells,hi,Nat.mod_one,Aw]
 .rw[List.getElem?_eq_none (by simp[madeCells];omega),List.getElem?_eq_none (by simp[Aw];omega)]
def dC (ws:List Nat)(n:Nat):List Nat:=ws.take n++(List.replicate n 0).drop (ws.take n).length
def XH (K:KS)(b:Nat)(r:PR)(Af:List Nat)(K':KS):Prop:=∃a K2 g c T v,(Aq K.swap (Aj Af.length)).1=some a/\XG b {K with swap:=(Aq K.swap (Aj Af.length)).2} K2/\lH b (KS.Bj { (K2.swap' (CE K2.swap r.sw (Aj r.Af.length)) g c)with T:=T} b {r with co:=-1,sw:=a,im:=v,Af:=Af}) K'
section
variable (m:Nat)(w:o_)
theorem fU (a:f_)(L c z:Nat)(ws:List Nat)(B:ws.length=L)(A:∀j u,(Aw ws)[j]?=some u->w.cell? (a.add j)=some u)(D:∀x∈ws,x<65536)(C:1<=z)(E:z<=16):
  O_ m 47 #[.slice (some a) L c,b_ (z:Nat)] w λe w'=>Aa No w w'/\e=.returned (P_ w.heap.size (8*z) (8*z))/\∃Af:List Nat,Af.length=8*z/\(∀x∈Af,x<65536)/\Rw 123 1 w' w.heap.size (8*z) (8*z) (Aw Af)/\Yp (Af=dC ws (8*z)):=by
 obtain⟨t,hi,i,l,n⟩:=info_parts UX;obtain⟨b,q⟩:∃b,b=8*z:=⟨_,rfl⟩;have f:=run_make (P:=prog) w 116 123 t (a_ 0) underlying116 hi i .i64 .i64 b b wB wB (by rw[n];omega) wB;rw[l]at f;simp only[Int.toNat_natCast,Nat.mul_one,Value.cells]at f;have r0:=bh0 w b wB;have p:Aa No w (w.alloc (.cells (madeCells #[a_ 0] b) 123)):=(Aa.refl _ _).alloc _;generalize w.alloc (.cells (madeCells #[a_ 0] b) 123)=w1 at*;have y:(z:Int)*8=b:=wB
 rw[<-q];obtain⟨w2,h,r,R2⟩:=Vl (ty:=3) (IY:=b) (IB:=b) (CZ:=L) (sCap:=c) (o:=0) (ws:=ws.take b) (a:=a) r0 sJ (λj v g=>p.has (A j v (by
  simp only[Aw,List.getElem?_map,List.getElem?_take]at g ⊢
  split at g
  .exact g
  .simp at g))) (by rw[eP,B];exact Nat.min_comm _ _) (by simp;omega)
 clear q;gi_enter func47,ntmps47;gi_wp2_with (refine PK rfl (.tmp 9) (.tmp 10) _ rfl rfl rfl h ?_);go_ret;refine⟨p.trans r (λk s e=>qx s (by rw[show k=w.heap.size from e];exact Nat.lt_irrefl _)),sJ,_,?_,λx d=>?_,R2,by unfold Yp dC;simp⟩
 .simp;omega
 .simp only[List.take_zero,List.nil_append,eF]at d;obtain d|d:=d
  .exact D x (List.mem_of_mem_take d)
  .have:=List.mem_of_mem_drop d;rw[List.eq_of_mem_replicate this];omega
def bn3 (NC NS b:Nat)(K:KS)(r:PR)(Af:List Nat)(w0:o_)(e:Ending)(w':o_):Prop:=(e=.returned (.bool false)/\AY K w'/\BQ K.T K.T w0 w'/\Yp ((Aq K.swap (Aj Af.length)).1=none))\/∃K' v a c,e=.returned (.bool true)/\AY K' w'/\DU NC NS K'/\Rel b K K'/\BQ K.T K'.T w0 w'/\K'.ps b=some {r with im:=v,Af:=Af,sw:=a,co:=c}/\b∈K'.Ar/\Yp (XH K b r Af K')
theorem gY (w0:o_)(K:KS)(NC NS b g c:Nat)(r:PR)(Af:List Nat)(h:AY K w)(hO:DU NC NS K)(hm:b∈K.Ar)(hb:K.ps b=some r)(hn:r.en=false)(hV:BQ K.T K.T w0 w)(hg:w0.heap.size<=g)(hg0:K.T g=(0,0))(hR:Rw 123 1 w g Af.length c (Aw Af))(hw:∀x∈Af,x<65536)(hl:∃k,Af.length=8*k/\1<=k/\k<=16):
  O_ m 197 #[Q_ K.kb,Q_ b,P_ g Af.length c] w (bn3 NC NS b K r Af w0):=by
 have hL:=(hO.co.pl b r hb).1;have h0:AY K w.drew:=h.no (Aa.refl No w).drew;have hNS:=hO.sw.le;have hF:=hO.sw.fit;gi_enter_defers func197,ntmps197;gi_wp2;refine Dx (P:=prog) _ rfl rfl sU 11 45 [0,1,2,3,4,5] [6,7,8,9,10] sU (by rfl)
  (Oi (yQ K.kb K.sg) w.drew 6 (bp9 K (Aj Af.length) w.drew) [(7,.tuple #[tA (Aq K.swap (Aj Af.length)).1,tB (Aq K.swap (Aj Af.length)).1]),(8,tA (Aq K.swap (Aj Af.length)).1),(9,tB (Aq K.swap (Aj Af.length)).1),(10,tA (Aq K.swap (Aj Af.length)).1)]) (Gj sJ sJ) _ _ rfl rfl ?_;gi_wp2_with (gi_at_call 48;refine(Gm _ _ Af.length wB).mono ?_;rintro e w1 ⟨rfl,rfl⟩);refine⟨rfl,sU,Et,?_,?_,?_⟩
 .intro L' u W hI
  repeat' (refine AA ?_ ?_)
  all_goals first|exact dE|gi_wp2_with (gi_at_call 48;refine(Gm _ W Af.length wB).mono ?_;rintro e w1 ⟨rfl,rfl⟩)
 .intro i hi L' u W hI hLi hu;obtain rfl|rfl|rfl|rfl|rfl:=(by simpa using hi:i=6\/i=7\/i=8\/i=9\/i=10)
  .obtain rfl:=hI.2.1 hLi;refine BI rfl λKK Ol=>?_
   show wpListIn NF m prog _ _ _ (Act.put (Act.put (Act.put (Act.put (Act.put _ (some 16) (u 6)) (some 9) (u 7)) (some 17) (u 8)) (some 18) (u 9)) (some 7) (u 10)) _;gi_wp2_with fail;refine(aj1 _ w.drew K (Aj Af.length) NS h0 hF wB (by unfold Aj;omega)).mono ?_;rintro e w1 ⟨rfl,L,N,K1⟩;rw[U9];gi_wp2;exact⟨_,rfl,Gl hI sJ K1 ⟨rfl,L,N⟩⟩
  .have e5:=(hI.2.2.1 (hu 6 sJ sN)).1;exact mg rfl rfl rfl ⟨_,rfl,FY hI sN e5 sJ⟩
  .have E:=hI.2.2.2 (7,.tuple #[tA (Aq K.swap (Aj Af.length)).1,tB (Aq K.swap (Aj Af.length)).1]) sJ (hu 7 sJ sN);exact Tj rfl rfl rfl E rfl ⟨_,rfl,Gs hI sN sJ⟩
  .have E:=hI.2.2.2 (7,.tuple #[tA (Aq K.swap (Aj Af.length)).1,tB (Aq K.swap (Aj Af.length)).1]) sJ (hu 7 sJ sN);exact Tj rfl rfl rfl E rfl ⟨_,rfl,Gs hI sN sJ⟩
  .have Q:=hI.2.2.2 (8,tA (Aq K.swap (Aj Af.length)).1) sJ (hu 8 sJ sN);exact mi rfl rfl rfl ⟨_,rfl,FY hI sN Q sJ⟩
 .intro L' u W hI l;obtain⟨e5,L,N⟩:=hI.2.2.1 (l 6 sJ);have e8:=hI.2.2.2 (9,tB (Aq K.swap (Aj Af.length)).1) sJ (l 9 sJ);have e9:=hI.2.2.2 (10,tA (Aq K.swap (Aj Af.length)).1) sJ (l 10 sJ);have E:=hI.2.2.2 (7,.tuple #[tA (Aq K.swap (Aj Af.length)).1,tB (Aq K.swap (Aj Af.length)).1]) sJ (l 7 sJ);have Q:=hI.2.2.2 (8,tA (Aq K.swap (Aj Af.length)).1) sJ (l 8 sJ);simp only at E Q e8 e9;show wpListIn NF m prog _ _ _ (Act.put (Act.put (Act.put (Act.put (Act.put _ (some 16) (u 6)) (some 9) (u 7)) (some 17) (u 8)) (some 18) (u 9)) (some 7) (u 10)) _;rw[e5,E,Q,e8,e9];have MW:BQ K.T K.T w0 W:=(hV.then (Aa.refl No w).drew).trans N;have F:Rw 123 1 W g Af.length c (Aw Af):=(hR.keep (Aa.refl No w).drew id).keep (CG.keep N) (by unfold On;rw[hg0];simp);have ts:=(Jk (n:=Aj Af.length) hO.sw.so).2.1;clear hI e5 E Q e8 e9 l N;cases ho:(Aq K.swap (Aj Af.length)).1 with
  |none=>
   have hl':=ts ho
   simp only[tA,tB,Option.getD_none,Option.isSome_none]
   gi_wp2
   rw[hl']at L
   refine⟨_,by simp[results,results197,go_sem];rfl,?_⟩
   exact .inl ⟨rfl,L,MW,ho⟩
  |some a=>
   simp only[tA,tB,Option.getD_some,Option.isSome_some]
   have ct:=λm=>RP m W {K with swap:=(Aq K.swap (Aj Af.length)).2} b NC (0,0) r L hb hm hO.nd (hO.co.same rfl (λ_=>rfl) hO.co.pl)
   gi_wp2_with (gi_at_call 52;refine(ct _).mono ?_;rintro e w2 ⟨rfl,d,h2,q,V,D,M,_,C⟩);replace C:Yp _:=C
   have sV:d.kb=K.kb:=q.kb
   obtain⟨a8,c8,q8⟩:=h2.im8 M
   have J:=h2.Iu M 10
   simp[PR.arr]at q8 J
   have hV2:=MW.trans D
   refine Cc 9 45 ?_
   gi_wp2_with (gi_at_call 58;refine(Fe _ w2.drew b _ _ _ q8 wB).mono ?_;rintro e w1 ⟨rfl,rfl⟩)
   refine Ee ?_ ?_
   .intro W Z;have d10:=Z.has (w:=w2.drew) J;have d8:=Z.has (w:=w2.drew) q8
    repeat' (refine AA ?_ ?_)
    all_goals first|exact dE|gi_wp2_with (gi_at_call 58;refine(Fe _ W b _ _ _ d8 wB).mono ?_;rintro e w1 ⟨rfl,rfl⟩)
   .intro W2 Z;have KW:Aa No w2 W2:=(Aa.refl No w2).drew.then Z;have U:=h2.no KW;have eS:d.swap=(Aq K.swap (Aj Af.length)).2:=(by rw[q.eq]);have hpl:=hO.sw.pl b r hb;have tk:=Jk (n:=Aj Af.length) hO.sw.so;have hsum:=tk.2.2 a ho;have hsl:d.swap.length+1<=NS:=by
     rw[eS]
     have a1:=tk.1.len
     have a2:=hO.sw.sum
     have a3:=Oo (f:=onS K.ps) hm
     rw[nV hb]at a3
     have o:=(hO.pr b r hb).len hn
     obtain⟨kk,o1,o2,o3⟩:=o
     have:1<=Aj r.Af.length:=by unfold Aj;omega
     omega
    have Y:Fit NS d.swap:=(by rw[eS];exact tk.1.fit (by have:=hO.sw.sum;omega));have cg:=λm=>ak8 m W2 d r.sw (Aj r.Af.length) NS U Y wB hpl hsl
    rw[sV]at cg;have hV3:=hV2.then KW;have hE:=λg3 c3 T v=>hO.become (g3:=g3) (c3:=c3) (T:=T) (v:=v) hm hb hn ho hw hl q V M
    have He:Rw 123 1 W2 g Af.length c (Aw Af):=(F.keep (CG.keep D) (by unfold On;rw[show K.T g=(0,0)from hg0];simp)).keep KW id;have H:d.T g=(0,0):=(CG.fresh D g F.lt).trans hg0;have da8:d.Ar=K.Ar:=q.Ar;clear Y hsl hsum tk eS ct L F MW D V q q8 J ts;gi_wp2_with fail;refine(cg _).mono ?_;rintro e w3 ⟨rfl,g3,c3,z,M3⟩;have LU:BQ K.T (Bi d.T g3 (3,0)) w0 w3:=hV3.trans M3;have iw:Rw 123 1 w3 g Af.length c (Aw Af):=He.keep (CG.keep M3) (by unfold On;rw[H];simp);have I:(d.swap' (CE d.swap r.sw (Aj r.Af.length)) g3 c3).T g=(0,0):=(CG.fresh M3 g He.lt).trans H;have j:(d.swap' (CE d.swap r.sw (Aj r.Af.length)) g3 c3).ps b=some {r with co:=-1}:=M;have db1:(d.swap' (CE d.swap r.sw (Aj r.Af.length)) g3 c3).kb=K.kb:=sV;have O:(d.swap' (CE d.swap r.sw (Aj r.Af.length)) g3 c3).Ar=K.Ar:=da8;have R:(d.swap' (CE d.swap r.sw (Aj r.Af.length)) g3 c3).T=Bi d.T g3 (3,0):=rfl;rw[<-R]at LU;have X:=λT v=>hE g3 c3 T v
    clear cg hV3 hV2 U KW Z h2 M3 hE He H M R;have G:=λT v K' (hx:lH b (KS.Bj { (d.swap' (CE d.swap r.sw (Aj r.Af.length)) g3 c3)with T:=T} b {r with co:=-1,sw:=a,im:=v,Af:=Af}) K')=>(show XH K b r Af K' from⟨a,d,g3,c3,T,v,ho,C,hx⟩)
    replace G:Yp _:=G
    clear C;generalize d.swap' (CE d.swap r.sw (Aj r.Af.length)) g3 c3=y at*;have p8:=z.Iu j 8;have p10:=z.Iu j 10;simp[PR.arr]at p8 p10;have z8:=z.lF j 8;have z10:=z.lF j 10;have h4:=z.GR (r':={r with co:=-1,sw:=a}) (i:=10) (v:=b_ (a:Nat)) j ⟨rfl,rfl,rfl,rfl,rfl⟩ rfl (z.ps b _ j).bl;have N4:=z.EG j (i:=10) (v:=b_ (a:Nat));have hgb:g≠b:=λe=>by have:=(z.ps b _ j).t;rw[<-e,I]at this;simp at this
    have B:=iw.keep (S:=At b) ((Aa.refl _ _).setCell (p:=(S_ b 10)) (b_ (a:Nat)) λ_=>rfl) hgb;have h5:=h4.bq6 (p:=b) (g:=g) I B.lt;have V5:=(LU.trans N4).bq6 (t:=(7,b)) hg B.lt I;have h6:=h5.ci9 (b:=b) (r:={r with co:=-1,sw:=a}) Ag hn B A7;have V6:=V5.trans (h5.EG (b:=b) Ag (i:=8) (v:=P_ g Af.length c));have h6:AY ({y with T:=Bi y.T g (7,b)}.Bj b {r with co:=-1,sw:=a,im:=P_ g Af.length c,Af:=Af}) ((w3.setCell (S_ b 10) (b_ (a:Nat))).setCell (S_ b 8) (P_ g Af.length c)):=(by simp only[KS.Bj,U7]at h6 ⊢;exact h6);obtain⟨s,hR6⟩:=X (Bi y.T g (7,b)) (P_ g Af.length c);have cb:=λm u=>yD m _ u ({y with T:=Bi y.T g (7,b)}.Bj b {r with co:=-1,sw:=a,im:=P_ g Af.length c,Af:=Af}) b NC _ h6 s.th Ag (by show b∈y.Ar;rw[O];exact hm) s.nd s.co (by have:=s.len;omega)
    rw[show(KS.Bj ({y with T:=Bi y.T g (7,b)}:KS) b ({r with co:=-1,sw:=a,im:=P_ g Af.length c,Af:=Af}:PR)).kb=K.kb from db1]at cb;clear z h4 h5 X iw B LU V5 N4;gi_wp2;refine leavesIn_cons (f:=53) (args:=#[Q_ K.kb,Q_ b]) sJ (by intro hh;cases hh) (by simp[go_sem]) (by intro f hf;cases hf;simp) ?_;refine(cb _ _).mono ?_;rintro e u' w' ⟨rfl,rfl,K7,h7,A,hC7,hv7,_,hXi⟩;refine⟨_,by simp[results,results197,go_sem];rfl,?_⟩;obtain⟨co7,hb7⟩:=A.get (b:=b) Ag;exact .inr ⟨K7,_,a,co7,rfl,h7,s.GZ A hC7,hR6.trans (A.rel b) (by rw[hb];simp) hO.th,V6.trans hv7,hb7,by rw[A.Ar];show b∈y.Ar;rw[O];exact hm,G.out _ _ _ hXi⟩
end
def Yx (K:KS)(b:Nat)(r:PR)(n:Nat):KS->Nat->Nat->n_->Prop:=λK' x y f=>(¬(1<=n/\n<=16)/\GY K 13 K' x y f)\/((1<=n/\n<=16)/\(((Aq K.swap (Aj (dC r.Af (8*n)).length)).1=none/\GY K 5 K' x y f)\/(x=0/\y=0/\f=.nilFunc/\XH K b r (dC r.Af (8*n)) K')))
section
variable (m:Nat)(w:o_)
theorem bj6 (K:KS)(NC NS b n:Nat)(r:PR)(h:AY K w)(Y:DU NC NS K)(Z:b∈K.Ar)(hb:K.ps b=some r)(hn:r.en=false)(hx:n<65536):
  O_ m 144 #[Q_ K.kb,Q_ b,a_ (n:Nat)] w (FX (Yx K b r n) NC NS b K w):=by
 have o:=Y.pr b r hb;obtain⟨j,rb,p⟩:=IE w;have q:=h.no j;have F:K.T w.heap.size=(0,0):=h.lt _ w_;obtain⟨P,ci,W,z,X,Q⟩:=q.lh hb hn;by_cases V:n<1
 .have N:(n:Int)<1:=wB
  gi_enter func144,ntmps144;gi_wp2_with (first|(gi_at_call 140;refine(Uy 13 rb _).mono ?_;rintro e E ⟨rfl,a,D,c,d,g⟩)|refine Fa c ?_);refine T_ 0 13 (by simp[results,results144,go_sem,FU g]) rfl ?_;exact Ci h Y Z hb j p a d sN sN (.inl ⟨wB,GY.of⟩)
 .have N:¬(n:Int)<1:=wB
  by_cases c2:16<n
  .have O:(16:Int)<(n:Int):=wB;gi_enter func144,ntmps144;gi_wp2_with (first|(gi_at_call 140;refine(Uy 13 rb _).mono ?_;rintro e E ⟨rfl,a,D,c,d,g⟩)|refine Fa c ?_);refine T_ 0 13 (by simp[results,results144,go_sem,FU g]) rfl ?_;exact Ci h Y Z hb j p a d sN sN (.inl ⟨wB,GY.of⟩)
  .have O:¬(16:Int)<(n:Int):=wB;gi_enter func144,ntmps144;gi_wp2_with fail;generalize U:w.alloc V_=C at*;have t:=λm=>fU m C (R_ P) r.Af.length ci n r.Af rfl z.cells o.Af wB wB
   gi_wp2_with (first|(gi_at_call 47;refine(t _).mono ?_;rintro e w1 ⟨G,rfl,I,s,S,hR,l⟩;have H:=λm=>gY m w1 C K NC NS b C.heap.size (8*n) r I (q.no G) Y Z hb hn (BQ.no G q.lt) w_ (q.lt _ w_) (by rw[s];exact hR) S ⟨n,s,wB,wB⟩;rw[s]at H;clear s)|(gi_at_call 197;refine(H _).mono ?_;rintro e w2 (⟨rfl,u,k,R⟩|⟨M,v2,a2,c2,rfl,u,v,J,k,L,B,A⟩)))
   .have i:=k.old rb F;gi_wp2_with (first|(gi_at_call 140;refine(Uy 5 i _).mono ?_;rintro e E ⟨rfl,a,D,c,d,g⟩)|refine Fa c ?_);refine T_ 0 5 (by simp[results,results144,go_sem,FU g]) rfl ?_;exact BD (K':=K) (x:=0) (y:=5) h.lt j p ((k).then a) ((u).no a) d wB wB (.inl rfl) (Y) (Rel.refl b K) hb (λ_=>Z) (.inr ⟨wB,.inl ⟨by rw[<-l.out];exact R.out,GY.of⟩⟩)
   .have i:=k.old rb F;gi_wp2_with (first|(gi_at_call 152;refine(Eg _ _ 0 wB).mono ?_;rintro e E ⟨rfl,a⟩;obtain⟨D,c,d,g⟩:=Az (x:=0) (y:=0) (f:=.nilFunc) (a.old (i) id) rfl)|refine Fa c ?_);refine T_ 0 0 (by simp[results,results144,go_sem,FU g]) rfl ?_;exact BD (K':=M) (x:=0) (y:=0) h.lt j p ((k).then a) ((u).no a) d wB wB (.inl rfl) (v) (J) L (λ_=>B) (.inr ⟨wB,.inr ⟨rfl,rfl,rfl,by rw[<-l.out];exact A.out⟩⟩)
end
def bz1 (K:KS)(f:Nat)(v:n_)(w:o_):Prop:=(∃a c,v=.slice a 0 c/\Yp ((K.ct f).ws=[]))\/∃g c ws,v=P_ g ws.length c/\Rw 123 1 w g ws.length c (Aw ws)/\1<=ws.length/\ws.length<=64/\(∀x∈ws,x<65536)/\Yp ((K.ct f).ws=ws)
def dO (K:KS)(b:Nat)(r:PR)(i:Nat):KS->Nat->Nat->n_->Prop:=λK' x y f=>
 (i<16/\∃fl ws,K.nm i=some fl/\(K.ct fl).ws=ws/\((ws=[]/\GY K 13 K' x y f)\/(ws≠[]/\(((Aq K.swap (Aj (dC ws (8*Aj ws.length)).length)).1=none/\GY K 5 K' x y f)\/(x=0/\y=0/\f=.nilFunc/\∃K2 r2,XH K b r (dC ws (8*Aj ws.length)) K2/\K2.ps b=some r2/\K'=K2.Bj b {r2 with P:=0})))))
 \/(i<16/\K.nm i=none/\GY K 6 K' x y f)\/(16<=i/\GY K 13 K' x y f)
section
variable (m:Nat)(w:o_)
theorem am4 (K:KS)(i f:Nat)(h:AY K w)(hi:i<16)(E:K.nm i=some f):O_ m 207 #[.pointer (some (S_ K.kb 4)),b_ (i:Nat)] w λe w'=>Aa No w w'/\∃v,e=.returned v/\bz1 K f v w':=by
 have q:=(h.nmc hi).1;have A:=(h.nmc hi).2 f E;rw[E]at q;simp only[VJ,ptr]at q;have B:(i:Int)<16:=wB
 obtain⟨v,y,r⟩:=h.fl.file f A;have C:w.cell? (R_ f)=some v:=(Ai y 0).trans rfl;clear E;obtain⟨a,b⟩:∃a,Yp ((K.ct f).ws=a):=⟨_,rfl⟩;rw[b.out]at r;obtain⟨rfl,n⟩|⟨g,c,rfl,hR,l,z,D⟩:=r
 .gi_enter func207,ntmps207;gi_wp2_with (gi_at_call 141;refine(gU _ w).mono ?_;rintro e w1 ⟨rfl,j⟩);go_ret;exact⟨j,_,rfl,.inl ⟨_,_,rfl,b.out.trans n⟩⟩
 .have u:=λm=>Lr m w (R_ g) a.length c (Aw a) (by simp[Aw]) hR.cells (EJ _) wB
  gi_enter func207,ntmps207;gi_wp2_with (gi_at_call 141;refine(u _).mono ?_;rintro e w1 ⟨j,v,rfl,d⟩);go_ret;refine⟨j,v,rfl,?_⟩;by_cases p:0<a.length
  .obtain⟨o,t,rfl,s,_⟩:=Ru d p (EJ _);exact .inr ⟨o,t,a,rfl,s,p,l,z,b⟩
  .have k:a.length=0:=wB;rw[k]at d;obtain⟨_,⟨rfl,_⟩|⟨o,cap,x,rfl,_⟩⟩:=d
   .exact .inl ⟨_,_,rfl,b.out.trans (List.eq_nil_of_length_eq_zero k)⟩
   .exact .inl ⟨_,_,rfl,b.out.trans (List.eq_nil_of_length_eq_zero k)⟩
theorem bk6 (K:KS)(NC NS b i:Nat)(r:PR)(h:AY K w)(hO:DU NC NS K)(hm:b∈K.Ar)(hb:K.ps b=some r)(hn:r.en=false)(hx:i<65536):
  O_ m 151 #[Q_ K.kb,Q_ b,a_ (i:Nat)] w (FX (dO K b r i) NC NS b K w):=by
 obtain⟨E,rb,H⟩:=IE w;have F:=h.no E;have U:K.T w.heap.size=(0,0):=h.lt _ w_;have cn:=λm=>Rf m (w.alloc V_) K i F hx
 gi_enter func151,ntmps151;gi_wp2_with (gi_at_call 205;refine(cn _).mono ?_;rintro e w1 ⟨s,x,rfl,⟨rfl,p,f,G⟩|⟨rfl,hx⟩|⟨rfl,hx⟩⟩)
 .generalize hw0:w.alloc V_=w0 at*;have h1:=F.no s;have cw:=λm=>am4 m w1 K i f h1 p G
  replace G:Yp _:=G
  gi_wp2_with (gi_at_call 207;refine(cw _).mono ?_;rintro e w2 ⟨N,v,rfl,⟨a,c,rfl,q⟩|⟨g,c,t,rfl,hR,l1,l2,hw,q⟩⟩)
  .have rb2:=(s.then N).old rb id;gi_wp2_with (first|(gi_at_call 140;refine(Uy 13 rb2 _).mono ?_;rintro e S ⟨rfl,j,R,l,n,o⟩)|refine Fa l ?_);refine T_ 0 13 (by simp[results,results151,go_sem,FU o]) rfl ?_;exact BD (K':=K) (x:=0) (y:=13) h.lt E H ((BQ.no (s.then N) F.lt).then j) ((h1.no N).no j) n wB wB (.inl rfl) (hO) (Rel.refl b K) hb (λ_=>hm) (.inl ⟨p,f,_,G.out,q.out,.inl ⟨rfl,GY.of⟩⟩)
  .have l3:¬(t.length:Int)=0:=wB;have O:=s.then N;have Y:=λm=>fU m w2 (R_ g) t.length c (Aj t.length) t rfl hR.cells hw (by unfold Aj;omega) (by unfold Aj;omega)
   have n1:1<=Aj t.length/\Aj t.length<=16:=(by unfold Aj;omega);gi_wp2_with (first|(gi_at_call 48;refine(Gm _ _ t.length wB).mono ?_;rintro e w9 ⟨rfl,C⟩;have C:=C.symm;subst C)|(gi_at_call 47;refine(Y _).mono ?_;rintro e w4 ⟨K4,rfl,Af,Q,hw4,hR4,J⟩;have cb:=λm=>gY m w4 w0 K NC NS b w2.heap.size (8*Aj t.length) r Af (F.no (O.then K4)) hO hm hb hn (BQ.no (O.then K4) F.lt) O.size (F.lt _ O.size) (by rw[Q];exact hR4) hw4 ⟨_,Q,n1.1,n1.2⟩;rw[Q]at cb;clear Q)|(gi_at_call 197;refine(cb _).mono ?_;rintro e w5 (⟨rfl,u,I,ht⟩|⟨V,v5,W,X,rfl,u,z,hR5,I,d,L,hXb⟩)<;>try (have p7:=u.Iu d 7;simp[PR.arr]at p7;have z7:=u.lF d 7)))
   .have M:=I.old rb U;gi_wp2_with (first|(gi_at_call 140;refine(Uy 5 M _).mono ?_;rintro e S ⟨rfl,j,R,l,n,o⟩)|refine Fa l ?_);refine T_ 0 5 (by simp[results,results151,go_sem,FU o]) rfl ?_;exact BD (K':=K) (x:=0) (y:=5) h.lt E H ((I).then j) ((u).no j) n wB wB (.inl rfl) (hO) (Rel.refl b K) hb (λ_=>hm) (.inl ⟨p,f,_,G.out,q.out,.inr ⟨by rintro rfl;simp at l1,.inl ⟨by rw[<-J.out];exact ht.out,GY.of⟩⟩⟩)
   .have M:=I.old rb U;have h6:=u.GR (r':={r with im:=v5,Af:=Af,sw:=W,co:=X,P:=0}) (i:=7) (v:=a_ 0) d ⟨rfl,rfl,rfl,rfl,rfl⟩ rfl (u.ps b _ d).bl;have M6:=I.trans (u.EG d (i:=7) (v:=a_ 0));have k:=z.pr b _ d;obtain⟨Z,hR6⟩:=z.fds (r':={r with im:=v5,Af:=Af,sw:=W,co:=X,P:=0}) (dQ.refl V) L d rfl rfl rfl rfl rfl ⟨k.A,k.B,(by show 0<65536;omega),k.st,k.pid,k.par,k.Af,k.fds,k.fd,k.len,k.off⟩ z.Ei (λi _=>rfl);have hR7:=hR5.trans hR6 (by rw[hb];simp) hO.th;have rb6:=M6.old rb U;gi_wp2_with (first|(gi_at_call 152;refine(Eg _ _ 0 wB).mono ?_;rintro e S ⟨rfl,j⟩;obtain⟨R,l,n,o⟩:=Az (x:=0) (y:=0) (f:=.nilFunc) (j.old (rb6) id) rfl)|refine Fa l ?_);refine T_ 0 0 (by simp[results,results151,go_sem,FU o]) rfl ?_;exact BD (K':=V.Bj b {r with im:=v5,Af:=Af,sw:=W,co:=X,P:=0}) (x:=0) (y:=0) h.lt E H ((M6).then j) ((h6).no j) n wB wB (.inl rfl) (Z) (hR7) (Ag) (λ_=>L) (.inl ⟨p,f,_,G.out,q.out,.inr ⟨by rintro rfl;simp at l1,.inr ⟨rfl,rfl,rfl,V,_,by rw[<-J.out];exact hXb.out,d,rfl⟩⟩⟩)
 .have D:=s.old rb id;gi_wp2_with (first|(gi_at_call 140;refine(Uy 6 D _).mono ?_;rintro e S ⟨rfl,j,R,l,n,o⟩)|refine Fa l ?_);refine T_ 0 6 (by simp[results,results151,go_sem,FU o]) rfl ?_;exact Ci h hO hm hb E H (s.then j) n sN sN (.inr (.inl ⟨hx.1,hx.2,GY.of⟩))
 .have D:=s.old rb id;gi_wp2_with (first|(gi_at_call 140;refine(Uy 13 D _).mono ?_;rintro e S ⟨rfl,j,R,l,n,o⟩)|refine Fa l ?_);refine T_ 0 13 (by simp[results,results151,go_sem,FU o]) rfl ?_;exact Ci h hO hm hb E H (s.then j) n sN sN (.inr (.inr ⟨hx,GY.of⟩))
end
end Go.Fxa
