/- A kernel of many processes: wh -/
import Derived.Test.YtmhplpfpcnjekaaGreatA22
import Derived.Test.YtmhplpfpcnjekaaGreatA24
import Derived.Laws.EntriesVeiled
namespace Go.Fxa
open Conc Proofs RowKit Proofs.Tryz
set_option maxRecDepth 1000000
set_option maxHeartbeats 0
def Dj (d:Nat->Nat) (e:Nat->Option Nat) (f:Nat):Nat:=CS (fun i=>if 0<d i/\e i=some f then 1 else 0) (List.range 20)
theorem Sz {f:Nat->Nat}:∀{l:List Nat},(∀b∈l,f b<=1)->CS f l<=l.length
 | [],_=>by simp[CS]
 | b::l,h=>by
  have h1:=h b (by simp)
  have h2:=Sz (f:=f) (l:=l) fun x hx=>h x (by simp[hx])
  simp only[CS,List.length_cons];omega
theorem LC (d:Nat->Nat) (e:Nat->Option Nat) (f:Nat):Dj d e f<=20:=by
 have:=Sz (f:=fun i=>if 0<d i/\e i=some f then 1 else 0) (l:=List.range 20) (fun b _=>by split<;>omega);simpa [Dj]using this
theorem Pt {f:Nat->Nat}:∀{l:List Nat},1<=CS f l->∃b∈l,1<=f b
 | [],h=>by simp[CS]at h
 | b::l,h=>by
  simp only[CS]at h
  by_cases h1:1<=f b
  ·exact⟨b,by simp,h1⟩
  ·obtain⟨x,hx,IK⟩:=Pt (f:=f) (l:=l) (by omega);exact⟨x,by simp[hx],IK⟩
theorem Qu {α:Type} [DecidableEq α]:∀{l m:List α},l.Nodup->(∀x∈l,x∈m)->l.length<=m.length
 | [],_,_,_=>Nat.zero_le _
 | a::l,m,hN,hs=>by
  obtain⟨h1,h2⟩:=List.nodup_cons.1 hN
  have ha:a∈m:=hs a (by simp)
  have:=Qu (l:=l) (m:=m.erase a) h2 fun x hx=>(List.mem_erase_of_ne (by rintro rfl;exact h1 hx)).2 (hs x (by simp[hx]))
  rw[List.length_erase_of_mem ha]at this
  have hp:=List.length_pos_of_mem ha
  simp only[List.length_cons];omega
structure Dx (H:Nat->Nat) (K:KS):Prop where
 ho:∀i,i<20->K.desc i=H i
 le:∀i,i<20->H i<=1000
 op:∀f,K.op f=Dj K.desc K.ef f
 nd:K.nl.Nodup
 nz:∀f∈K.nl,1<=K.op f
 nm:∀i j f,i<16->j<16->K.nm i=some f->K.nm j=some f->i=j
 dj:∀i f,i<16->K.nm i=some f->f ∉ K.nl
theorem Dx.nl {H:Nat->Nat} {K:KS} (h:Dx H K):K.nl.length<=20:=by
 have:=Qu (l:=K.nl.map some) (m:=(List.range 20).map K.ef) (by
  have:=h.nd
  rw[List.Nodup,List.pairwise_map]
  exact this.imp (by intro a b hab e;exact hab (by simpa using e))) (fun x hx=>by
  obtain⟨f,hf,rfl⟩:=List.mem_map.1 hx
  have h1:=h.nz f hf
  rw[h.op f]at h1
  obtain⟨i,hi,h2⟩:=Pt h1
  refine List.mem_map.2 ⟨i,hi,?_⟩
  split at h2
  ·rename_i hh;exact hh.2
  ·omega)
 simpa using this
theorem Dx.eff {H:Nat->Nat} {K:KS} (h:Dx H K) {i f:Nat} (hi:i<20) (hd:0<K.desc i) (he:K.ef i=some f):1<=K.op f/\K.op f<=100000:=by
 rw[h.op f];refine⟨?_,Nat.le_trans (LC _ _ _) (by omega)⟩;have:=Ng (f:=fun i=>if 0<K.desc i/\K.ef i=some f then 1 else 0) (List.mem_range.2 hi);simp only[hd,he]at this;simpa [Dj]using this
theorem Dx.congr {H H':Nat->Nat} {K:KS} (h:Dx H K) (e:∀i,i<20->H' i=H i):Dx H' K:=⟨fun i hi=>(h.ho i hi).trans (e i hi).symm,fun i hi=>by rw[e i hi];exact h.le i hi,h.op,h.nd,h.nz,h.nm,h.dj⟩
theorem Dx.drop {H:Nat->Nat} {K:KS} (h:Dx H K) {i:Nat} (hi:i<20) (hd:0<H i):Dx (Az H i (H i-1)) (K.drop i):=by
 have hH:=h.ho i hi;have hle:∀j,j<20->Az H i (H i-1) j<=1000:=fun j hj=>by unfold Az;split;have:=h.le i hi;omega;exact h.le j hj
 unfold KS.drop;by_cases h1:K.desc i=1
 ·rw[if_pos h1];have hz:∀j,j<20->Az K.desc i 0 j=Az H i (H i-1) j:=fun j hj=>by
   unfold Az;split
   ·omega
   ·exact h.ho j hj
  have hup:∀g,Dj (Az K.desc i 0) (Az K.ef i none) g+(if K.ef i=some g then 1 else 0)=Dj K.desc K.ef g:=fun g=>by
   have:=JN (f:=fun j=>if 0<Az K.desc i 0 j/\Az K.ef i none j=some g then 1 else 0) (g:=fun j=>if 0<K.desc j/\K.ef j=some g then 1 else 0) List.nodup_range (List.mem_range.2 hi) (fun k hk=>by simp only[Az,if_neg hk])
   have e0:¬(0<Az K.desc i 0 i/\Az K.ef i none i=some g):=by simp[Az]
   simp only[if_neg e0,h1]at this
   simp only[Dj]
   simpa using this
  cases he:K.ef i with
  | none=>
   refine⟨hz,hle,fun f=>?_,h.nd,h.nz,h.nm,h.dj⟩
   have:=hup f
   rw[he]at this
   simp only[h.op f]
   simpa using this.symm
  | some f=>
   refine⟨hz,hle,fun g=>?_,h.nd.filter _,fun g hg=>?_,h.nm,fun j g hj hg hm=>h.dj j g hj hg (List.mem_filter.1 hm).1⟩
   ·have hg:=hup g;rw[he]at hg;show Az K.op f (K.op f-1) g=Dj (Az K.desc i 0) (Az K.ef i none) g;by_cases e:g=f
    ·subst e;rw[if_pos rfl]at hg;simp only[Az,if_true,h.op]at hg ⊢;omega
    ·rw[if_neg (by simpa using Ne.symm e)]at hg;have e2:Az K.op f (K.op f-1) g=K.op g:=if_neg e;rw[e2,h.op g];omega
   ·have:=(List.mem_filter.1 hg).2;show 1<=Az K.op f (K.op f-1) g;simp only[Bool.not_eq_true',beq_eq_false_iff_ne]at this;omega
 ·rw[if_neg h1];refine⟨fun j hj=>?_,hle,fun f=>?_,h.nd,h.nz,h.nm,h.dj⟩
  ·show Az K.desc i (K.desc i-1) j=_;unfold Az;split
   ·omega
   ·exact h.ho j hj
  ·rw[h.op f];unfold Dj;refine CV fun j _=>?_
   show _=if 0<Az K.desc i (K.desc i-1) j/\K.ef j=some f then 1 else 0
   unfold Az;split
   ·rename_i hh;split
    ·rename_i e;subst e;rw[if_pos ⟨by omega,hh.2⟩]
    ·rfl
   ·rename_i hh;split
    ·rename_i e;subst e;rw[if_neg (fun h=>hh ⟨by omega,h.2⟩)]
    ·rfl
def GJ (ps:Nat->Option PR) (i b:Nat):Nat:=match ps b with|some r=>r.fds.count (i:Int)|none=>0
def Bi (ps:Nat->Option PR) (l:List Nat) (i:Nat):Nat:=CS (GJ ps i) l
theorem Fw {ps:Nat->Option PR} {i b:Nat} {r:PR} (h:ps b=some r):GJ ps i b=r.fds.count (i:Int):=by unfold GJ;rw[h]
theorem GX {ps:Nat->Option PR} {b:Nat} {r:PR} (h:ps b=some r):Vk ps b=Ap r.Ah.length:=by unfold Vk;rw[h]
structure Lm (N x:Nat) (K:KS):Prop where
 le:N<=1000
 so:Sound N K.swap
 sum:Dw K.swap+CS (Vk K.ps) K.AJ+x=N
 pl:∀b r,K.ps b=some r->r.en=false->r.sw+Ap r.Ah.length<=N
theorem Lm.fit {N x:Nat} {K:KS} (h:Lm N x K):Fit N K.swap:=h.so.fit (by have:=h.sum;omega)
structure PR.Ok (r:PR):Prop where
 A:r.A<65536
 B:r.B<65536
 P:r.P<65536
 st:r.st<65536
 pid:r.pid<=60000
 par:r.par<=60000
 Ah:∀x∈r.Ah,x<65536
 fds:r.en=false->r.fds.length=6
 fd:∀n∈r.fds,n=-1\/∃i:Nat,n=i/\i<20
 len:r.en=false->∃k,r.Ah.length=8*k/\1<=k/\k<=16
 off:r.en=true->r.fds=[]/\r.Ah=[]/\r.co=-1
structure DZ (NC NS:Nat) (K:KS):Prop where
 th:K.DF
 nd:K.AJ.Nodup
 len:K.AJ.length<=12
 co:Cc NC 0 K
 sw:Lm NS 0 K
 pr:∀b r,K.ps b=some r->r.Ok
 pid:∀b r,K.ps b=some r->1<=r.pid/\r.pid<=K.BM
 one:∀b r b' r',b∈K.AJ->b'∈K.AJ->K.ps b=some r->K.ps b'=some r'->r.pid=r'.pid->b=b'
 BM:K.BM<=60000
 CY:Dx (Bi K.ps K.AJ) K
structure PR.Same (r r':PR):Prop where
 pid:r'.pid=r.pid
 st:r'.st=r.st
 en:r'.en=r.en
 A:r'.A=r.A
 B:r'.B=r.B
 P:r'.P=r.P
 Ah:r'.Ah=r.Ah
 fds:r'.fds=r.fds
theorem PR.Same.refl (r:PR):r.Same r:=⟨rfl,rfl,rfl,rfl,rfl,rfl,rfl,rfl⟩
theorem PR.Same.trans {r r' r'':PR} (h:r.Same r') (h':r'.Same r''):r.Same r'':=⟨h'.pid.trans h.pid,h'.st.trans h.st,h'.en.trans h.en,h'.A.trans h.A,h'.B.trans h.B,h'.P.trans h.P,h'.Ah.trans h.Ah,h'.fds.trans h.fds⟩
structure Rel (b:Nat) (K K':KS):Prop where
 keep:∀k r,k∈K.AJ->K.ps k=some r->k≠b->(k∈K'.AJ/\∃r',K'.ps k=some r'/\r.Same r')\/(k ∉ K'.AJ/\r.en=true)
 come:∀k,k∈K'.AJ->k∈K.AJ\/(K.ps k=none/\∀r,K'.ps k=some r->K.BM<r.pid)
 mono:∀k,K.ps k≠none->K'.ps k≠none
 me:∀r,K.ps b=some r->∃r',K'.ps b=some r'/\r'.pid=r.pid
 BM:K.BM<=K'.BM
 kb:K'.kb=K.kb
 th:K.DF->K'.DF
theorem Rel.refl (b:Nat) (K:KS):Rel b K K:=⟨fun _ r h1 h2 _=>.inl ⟨h1,r,h2,.refl r⟩,fun _ h=>.inl h,fun _ h=>h,fun r h=>⟨r,h,rfl⟩,Nat.le_refl _,rfl,id⟩
theorem Rel.trans {b:Nat} {K K' K'':KS} (h:Rel b K K') (h':Rel b K' K'') (hb:K.ps b≠none) (hT:K.DF):Rel b K K'':=by
 refine⟨fun k r h1 h2 h3=>?_,fun k hk=>?_,fun k hk=>h'.mono k (h.mono k hk),fun r hr=>?_,Nat.le_trans h.BM h'.BM,h'.kb.trans h.kb,fun hT=>h'.th (h.th hT)⟩
 ·rcases h.keep k r h1 h2 h3 with⟨a1,r1,a2,a3⟩|⟨a1,a2⟩
  ·rcases h'.keep k r1 a1 a2 h3 with⟨b1,r2,b2,b3⟩|⟨b1,b2⟩
   ·exact .inl ⟨b1,r2,b2,a3.trans b3⟩
   ·exact .inr ⟨b1,by rw[<-a3.en];exact b2⟩
  ·refine .inr ⟨fun hk=>?_,a2⟩;rcases h'.come k hk with c|⟨c,_⟩
   ·exact a1 c
   ·exact h.mono k (by rw[h2];simp) c
 ·rcases h'.come k hk with c|⟨c1,c2⟩
  ·rcases h.come k c with d|⟨d1,d2⟩
   ·exact .inl d
   ·refine .inr ⟨d1,fun r hr=>?_⟩;by_cases e:k=b
    ·subst e;exact absurd d1 hb
    ·cases h1:K'.ps k with
     | none=>obtain⟨r1,h2⟩:=h.th hT k c;rw[h1]at h2;cases h2
     | some r1=>
      rcases h'.keep k r1 c h1 e with⟨_,r2,b2,b3⟩|⟨b1,_⟩
      ·rw[hr]at b2;cases b2;rw[b3.pid];exact d2 r1 h1
      ·exact absurd hk b1
  ·refine .inr ⟨?_,fun r hr=>Nat.lt_of_le_of_lt h.BM (c2 r hr)⟩;cases h1:K.ps k with
   | none=>rfl
   | some r=>exact absurd c1 (h.mono k (by rw[h1];simp))
 ·obtain⟨r1,a1,a2⟩:=h.me r hr;obtain⟨r2,b1,b2⟩:=h'.me r1 a1;exact⟨r2,b1,b2.trans a2⟩
structure Maps (K K':KS) (g:Nat->PR->PR):Prop where
 ps:∀b,K'.ps b=(K.ps b).map (g b)
 AJ:K'.AJ=K.AJ
 swap:K'.swap=K.swap
 desc:K'.desc=K.desc
 op:K'.op=K.op
 ef:K'.ef=K.ef
 nl:K'.nl=K.nl
 nm:K'.nm=K.nm
 BM:K'.BM=K.BM
 kb:K'.kb=K.kb
 pid:∀b r,(g b r).pid=r.pid
 en:∀b r,(g b r).en=r.en
 Ah:∀b r,(g b r).Ah=r.Ah
 fds:∀b r,(g b r).fds=r.fds
 sw:∀b r,(g b r).sw=r.sw
theorem Maps.get {K K':KS} {g:Nat->PR->PR} (m:Maps K K' g) {b:Nat} {r:PR} (h:K.ps b=some r):K'.ps b=some (g b r):=by rw[m.ps,h];rfl
theorem Maps.back {K K':KS} {g:Nat->PR->PR} (m:Maps K K' g) {b:Nat} {r':PR} (h:K'.ps b=some r'):∃r,K.ps b=some r/\r'=g b r:=by
 rw[m.ps]at h;cases h1:K.ps b with
 | none=>rw[h1]at h;cases h
 | some r=>rw[h1]at h;exact⟨r,rfl,by simpa using h.symm⟩
theorem Maps.CY {K K':KS} {g:Nat->PR->PR} (m:Maps K K' g) (h:Dx (Bi K.ps K.AJ) K):Dx (Bi K'.ps K'.AJ) K':=by
 have e:∀i,Bi K'.ps K'.AJ i=Bi K.ps K.AJ i:=fun i=>by
  unfold Bi
  rw[m.AJ]
  refine CV fun b _=>?_
  unfold GJ
  rw[m.ps]
  cases K.ps b with
  | none=>rfl
  | some r=>simp[m.fds]
 exact⟨fun i hi=>by rw[e,m.desc];exact h.ho i hi,fun i hi=>by rw[e];exact h.le i hi,by rw[m.op,m.desc,m.ef];exact h.op,by rw[m.nl];exact h.nd,by rw[m.nl,m.op];exact h.nz,by rw[m.nm];exact h.nm,by rw[m.nm,m.nl];exact h.dj⟩
theorem Maps.aa6 {K K':KS} {g:Nat->PR->PR} (m:Maps K K' g) {N x:Nat} (h:Lm N x K):Lm N x K':=by
 refine⟨h.le,by rw[m.swap];exact h.so,?_,fun b r hb hn=>?_⟩
 ·have e:CS (Vk K'.ps) K'.AJ=CS (Vk K.ps) K.AJ:=by
   rw[m.AJ]
   refine CV fun b _=>?_
   unfold Vk
   rw[m.ps]
   cases K.ps b with
   | none=>rfl
   | some r=>simp[m.Ah]
  rw[e,m.swap];exact h.sum
 ·obtain⟨r0,h0,rfl⟩:=m.back hb;rw[m.sw,m.Ah];exact h.pl b r0 h0 (by rw[<-m.en b r0];exact hn)
theorem DZ.maps {NC NS:Nat} {K K':KS} {g:Nat->PR->PR} (h:DZ NC NS K) (m:Maps K K' g) (hg:∀b r,K.ps b=some r->(g b r).Ok) (hc:Cc NC 0 K'):DZ NC NS K':=by
 refine⟨fun b hb=>?_,by rw[m.AJ];exact h.nd,by rw[m.AJ];exact h.len,hc,m.aa6 h.sw,fun b r hb=>?_,fun b r hb=>?_,fun b r b' r' h1 h2 h3 h4 h5=>?_,by rw[m.BM];exact h.BM,m.CY h.CY⟩
 ·rw[m.AJ]at hb;obtain⟨r,hr⟩:=h.th b hb;exact⟨_,m.get hr⟩
 ·obtain⟨r0,h0,rfl⟩:=m.back hb;exact hg b r0 h0
 ·obtain⟨r0,h0,rfl⟩:=m.back hb;rw[m.pid,m.BM];exact h.pid b r0 h0
 ·obtain⟨r0,g0,rfl⟩:=m.back h3;obtain⟨r1,g1,rfl⟩:=m.back h4;rw[m.pid,m.pid]at h5;rw[m.AJ]at h1 h2;exact h.one b r0 b' r1 h1 h2 g0 g1 h5
theorem Maps.rel {K K':KS} {g:Nat->PR->PR} (m:Maps K K' g) (b:Nat) (hs:∀(k:Nat) (r:PR),k≠b->r.Same (g k r)):Rel b K K':=by
 refine⟨fun k r h1 h2 h3=>.inl ⟨by rw[m.AJ];exact h1,_,m.get h2,hs k r h3⟩,fun k hk=>.inl (by rw[m.AJ]at hk;exact hk),fun k hk=>?_,fun r hr=>⟨_,m.get hr,m.pid b r⟩,by rw[m.BM];exact Nat.le_refl _,m.kb,fun hT k hk=>?_⟩
 ·cases h:K.ps k with
  | none=>exact absurd h hk
  | some r=>rw[m.get h];simp
 ·rw[m.AJ]at hk;obtain⟨r,hr⟩:=hT k hk;exact⟨_,m.get hr⟩
theorem Ci.maps {K K':KS} (m:Ci K K'):∃f:Nat->Int,Maps K K' fun b r=>{ r with co:=f b }:=by
 obtain⟨f,hf⟩:=m.ps;exact⟨f,hf,by rw[m.eq],by rw[m.eq],by rw[m.eq],by rw[m.eq],by rw[m.eq],by rw[m.eq],by rw[m.eq],by rw[m.eq],by rw[m.eq],fun _ _=>rfl,fun _ _=>rfl,fun _ _=>rfl,fun _ _=>rfl,fun _ _=>rfl⟩
theorem DZ.moved {NC NS:Nat} {K K':KS} (h:DZ NC NS K) (m:Ci K K') (hc:Cc NC 0 K'):DZ NC NS K':=by
 obtain⟨f,m⟩:=m.maps;refine h.maps m (fun b r hb=>?_) hc;have o:=h.pr b r hb;refine⟨o.A,o.B,o.P,o.st,o.pid,o.par,o.Ah,o.fds,o.fd,o.len,fun e=>⟨(o.off e).1,(o.off e).2.1,?_⟩⟩;rcases(hc.pl b _ (m.get hb)).2 with h1|⟨_,_,_,h1⟩
 ·exact h1
 ·have:=(o.off e).2.1;simp only[this,Ap]at h1;simp at h1
theorem Ci.rel {K K':KS} (m:Ci K K') (b:Nat):Rel b K K':=by
 obtain⟨f,m⟩:=m.maps;exact m.rel b fun _ _ _=>⟨rfl,rfl,rfl,rfl,rfl,rfl,rfl,rfl⟩
theorem Ci.get {K K':KS} (m:Ci K K') {b:Nat} {r:PR} (h:K.ps b=some r):∃c,K'.ps b=some { r with co:=c }:=by
 obtain⟨f,m⟩:=m.maps;exact⟨_,m.get h⟩
theorem J3.maps {K K':KS} (m:J3 K K'):∃f:Nat->Nat,Maps K K' fun b r=>{ r with par:=f b }:=by
 obtain⟨f,hf⟩:=m.ps;exact⟨f,hf,by rw[m.eq],by rw[m.eq],by rw[m.eq],by rw[m.eq],by rw[m.eq],by rw[m.eq],by rw[m.eq],by rw[m.eq],by rw[m.eq],fun _ _=>rfl,fun _ _=>rfl,fun _ _=>rfl,fun _ _=>rfl,fun _ _=>rfl⟩
theorem Maps.ad5 {K K':KS} {g:Nat->PR->PR} (m:Maps K K' g) (hc:K'.core=K.core) (GA:∀b r,(g b r).co=r.co) {N x:Nat} (h:Cc N x K):Cc N x K':=by
 refine⟨h.le,by rw[hc];exact h.so,?_,fun b r hb=>?_⟩
 ·have e:CS (Mf K'.ps) K'.AJ=CS (Mf K.ps) K.AJ:=by
   rw[m.AJ]
   refine CV fun b _=>?_
   unfold Mf
   rw[m.ps]
   cases K.ps b with
   | none=>rfl
   | some r=>simp[m.Ah,GA]
  rw[e,hc];exact h.sum
 ·obtain⟨r0,h0,rfl⟩:=m.back hb;rw[m.Ah,GA];exact h.pl b r0 h0
theorem DZ.ai4 {NC NS:Nat} {K K':KS} (h:DZ NC NS K) (m:J3 K K') (hp:∀b r,K'.ps b=some r->K.ps b=some r\/r.par<=1):DZ NC NS K':=by
 have hcore:K'.core=K.core:=by rw[m.eq]
 obtain⟨f,m⟩:=m.maps;refine h.maps m (fun b r hb=>?_) (m.ad5 hcore (fun _ _=>rfl) h.co);have o:=h.pr b r hb;refine⟨o.A,o.B,o.P,o.st,o.pid,?_,o.Ah,o.fds,o.fd,o.len,o.off⟩;rcases hp b _ (m.get hb)with h1|h1
 ·exact(h.pr b _ h1).par
 ·exact Nat.le_trans h1 (by omega)
theorem J3.rel {K K':KS} (m:J3 K K') (b:Nat):Rel b K K':=by
 obtain⟨f,m⟩:=m.maps;exact m.rel b fun _ _ _=>⟨rfl,rfl,rfl,rfl,rfl,rfl,rfl,rfl⟩
theorem Kk {f:Nat->Nat} {p:Nat->Bool}:∀{l:List Nat},(∀b∈l,p b=false->f b=0)->CS f (l.filter p)=CS f l
 | [],_=>rfl
 | b::l,h=>by
  have ih:=Kk (f:=f) (p:=p) (l:=l) fun x hx=>h x (by simp[hx])
  cases hb:p b with
  | true=>rw[List.filter_cons_of_pos hb];simp only[CS,ih]
  | false=>rw[List.filter_cons_of_neg (by simp[hb])];simp only[CS,ih,h b (by simp) hb];omega
theorem XX {ps:Nat->Option PR} {b:Nat} (h:(!UB ps b)=false):∃r,ps b=some r/\r.en=true:=by
 unfold UB at h;cases hb:ps b with
 | none=>rw[hb]at h;simp at h
 | some r=>rw[hb]at h;simp at h;exact⟨r,rfl,h.1⟩
theorem DZ.Ru {NC NS:Nat} {K:KS} (h:DZ NC NS K):DZ NC NS K.Ru:=by
 have hsub:∀b,b∈K.Ru.AJ->b∈K.AJ:=fun b hb=>(List.mem_filter.1 hb).1
 have hz:∀b,(!UB K.ps b)=false->∃r,K.ps b=some r/\r.fds=[]/\r.Ah=[]/\r.co=-1:=fun b hb=>by
  obtain⟨r,h1,h2⟩:=XX hb
  exact⟨r,h1,(h.pr b r h1).off h2⟩
 refine⟨fun b hb=>h.th b (hsub b hb),h.nd.filter _,Nat.le_trans (List.length_filter_le _ _) h.len,⟨h.co.le,h.co.so,?_,h.co.pl⟩,⟨h.sw.le,h.sw.so,?_,h.sw.pl⟩,h.pr,h.pid,fun b r b' r' h1 h2=>h.one b r b' r' (hsub b h1) (hsub b' h2),h.BM,?_⟩
 ·show Dw K.core+CS (Mf K.ps) (K.AJ.filter fun b=>!UB K.ps b)+0=NC;rw[Kk fun b _ hb=>by obtain⟨r,h1,_,_,h4⟩:=hz b hb;rw[DV h1,if_pos h4]];exact h.co.sum
 ·show Dw K.swap+CS (Vk K.ps) (K.AJ.filter fun b=>!UB K.ps b)+0=NS;rw[Kk fun b _ hb=>by obtain⟨r,h1,_,h3,_⟩:=hz b hb;rw[GX h1,h3];rfl];exact h.sw.sum
 ·refine Dx.congr (K:=K.Ru) (H:=Bi K.ps K.AJ) ⟨h.CY.ho,h.CY.le,h.CY.op,h.CY.nd,h.CY.nz,h.CY.nm,h.CY.dj⟩ fun i _=>?_
  show CS (GJ K.ps i) (K.AJ.filter fun b=>!UB K.ps b)=_;exact Kk fun b _ hb=>by obtain⟨r,h1,h2,_⟩:=hz b hb;rw[Fw h1,h2];rfl
theorem Xx (K:KS) (b:Nat):Rel b K K.Ru:=by
 refine⟨fun k r h1 h2 _=>?_,fun k hk=>.inl (List.mem_filter.1 hk).1,fun _ h=>h,fun r hr=>⟨r,hr,rfl⟩,Nat.le_refl _,rfl,fun hT k hk=>hT k (List.mem_filter.1 hk).1⟩;cases hg:UB K.ps k with
 | false=>exact .inl ⟨List.mem_filter.2 ⟨h1,by simp[hg]⟩,r,h2,.refl r⟩
 | true=>
  obtain⟨r',h3,h4⟩:=XX (ps:=K.ps) (b:=k) (by simp[hg])
  rw[h2]at h3;cases h3
  exact .inr ⟨fun hk=>by have:=(List.mem_filter.1 hk).2;simp[hg]at this,h4⟩
def Hl (b:Nat) (ps ps':Nat->Option PR):Prop:=∀k,k≠b->∃c:Int,ps' k=(ps k).map fun q=>{ q with co:=c }
theorem Hl.refl (b:Nat) (ps:Nat->Option PR):Hl b ps ps:=fun k _=>match h:ps k with
 | none=>⟨0,by simp⟩
 | some q=>⟨q.co,by simp⟩
theorem Hl.trans {b:Nat} {p q r:Nat->Option PR} (h:Hl b p q) (h':Hl b q r):Hl b p r:=fun k hk=>by
 obtain⟨c,hc⟩:=h k hk;obtain⟨d,hd⟩:=h' k hk;exact⟨d,by rw[hd,hc];cases p k<;>rfl⟩
theorem Hl.set {b:Nat} {ps:Nat->Option PR} {r:PR}:Hl b ps (Cu ps b r):=fun k hk=>by rw[BI hk];exact Hl.refl b ps k hk
theorem Ci.else {K K':KS} (m:Ci K K') (b:Nat):Hl b K.ps K'.ps:=fun k _=>by
 obtain⟨f,hf⟩:=m.ps;exact⟨f k,hf k⟩
theorem Hl.back {b k:Nat} {p q:Nat->Option PR} (h:Hl b p q) (hk:k≠b) {r':PR} (hr:q k=some r'):∃r c,p k=some r/\r'={ r with co:=c }:=by
 obtain⟨c,hc⟩:=h k hk;rw[hc]at hr;cases h1:p k with
 | none=>rw[h1]at hr;cases hr
 | some r=>rw[h1]at hr;exact⟨r,c,rfl,by simpa using hr.symm⟩
theorem Hl.get {b k:Nat} {p q:Nat->Option PR} (h:Hl b p q) (hk:k≠b) {r:PR} (hr:p k=some r):∃c,q k=some { r with co:=c }:=by
 obtain⟨c,hc⟩:=h k hk;exact⟨c,by rw[hc,hr];rfl⟩
theorem DZ.step {NC NS b:Nat} {K K':KS} {r r':PR} (h:DZ NC NS K) (WO:K'.AJ=K.AJ) (fZ:K'.BM=K.BM) (hkb:K'.kb=K.kb) (hps:Hl b K.ps K'.ps) (hb:K.ps b=some r) (hb':K'.ps b=some r') (ho:r'.Ok) (NQ:r'.pid=r.pid) (hc:Cc NC 0 K') (hs:Lm NS 0 K') (ht:Dx (Bi K'.ps K'.AJ) K'):DZ NC NS K'/\Rel b K K':=by
 have back:∀k q,K'.ps k=some q->∃q0,K.ps k=some q0/\q.pid=q0.pid:=fun k q hk=>by
  by_cases e:k=b
  ·subst e;rw[hb']at hk;cases hk;exact⟨r,hb,NQ⟩
  ·obtain⟨q0,c,h1,rfl⟩:=hps.back e hk;exact⟨q0,h1,rfl⟩
 have th:K.DF->K'.DF:=fun hT k hk=>by
  rw[WO]at hk
  by_cases e:k=b
  ·subst e;exact⟨_,hb'⟩
  ·obtain⟨q,hq⟩:=hT k hk;obtain⟨c,hc⟩:=hps.get e hq;exact⟨_,hc⟩
 refine⟨⟨th h.th,by rw[WO];exact h.nd,by rw[WO];exact h.len,hc,hs,fun k q hk=>?_,fun k q hk=>?_,fun k q k' q' h1 h2 h3 h4 h5=>?_,by rw[fZ];exact h.BM,ht⟩,⟨fun k q h1 h2 h3=>?_,fun k hk=>.inl (by rw[WO]at hk;exact hk),fun k hk=>?_,fun q hq=>?_,by rw[fZ];exact Nat.le_refl _,hkb,th⟩⟩
 ·by_cases e:k=b
  ·subst e;rw[hb']at hk;cases hk;exact ho
  ·obtain⟨q0,c,h1,rfl⟩:=hps.back e hk;have o:=h.pr k q0 h1;refine⟨o.A,o.B,o.P,o.st,o.pid,o.par,o.Ah,o.fds,o.fd,o.len,fun e=>⟨(o.off e).1,(o.off e).2.1,?_⟩⟩;rcases(hc.pl k _ hk).2 with h1|⟨_,_,_,h1⟩
   ·exact h1
   ·have:=(o.off e).2.1;simp only[this,Ap]at h1;simp at h1
 ·obtain⟨q0,h1,h2⟩:=back k q hk;rw[h2,fZ];exact h.pid k q0 h1
 ·obtain⟨q0,a1,a2⟩:=back k q h3;obtain⟨q1,b1,b2⟩:=back k' q' h4;rw[WO]at h1 h2;exact h.one k q0 k' q1 h1 h2 a1 b1 (by rw[<-a2,<-b2];exact h5)
 ·obtain⟨c,hc⟩:=hps.get h3 h2;exact .inl ⟨by rw[WO];exact h1,_,hc,⟨rfl,rfl,rfl,rfl,rfl,rfl,rfl,rfl⟩⟩
 ·by_cases e:k=b
  ·subst e;rw[hb'];simp
  ·cases h1:K.ps k with
   | none=>exact absurd h1 hk
   | some q=>obtain⟨c,hc⟩:=hps.get e h1;rw[hc];simp
 ·rw[hb]at hq;cases hq;exact⟨r',hb',NQ⟩
theorem MS {b i:Nat} {p q:Nat->Option PR} {l:List Nat} {r r':PR} (hN:l.Nodup) (hm:b∈l) (he:Hl b p q) (hb:p b=some r) (hb':q b=some r'):Bi q l i+r.fds.count (i:Int)=Bi p l i+r'.fds.count (i:Int):=by
 have:=JN (f:=GJ q i) (g:=GJ p i) hN hm fun k hk=>by
  obtain⟨c,hc⟩:=he k hk
  unfold GJ
  rw[hc];cases p k<;>rfl
 rw[Fw hb,Fw hb']at this;exact this
theorem OJ {b i:Nat} {p:Nat->Option PR} {l:List Nat} {r:PR} (hm:b∈l) (hb:p b=some r):r.fds.count (i:Int)<=Bi p l i:=by
 have:=Ng (f:=GJ p i) hm;rw[Fw hb]at this;exact this
theorem Lm.step {N x y b:Nat} {K K':KS} {r r':PR} (h:Lm N x K) (WO:K'.AJ=K.AJ) (hN:K.AJ.Nodup) (hm:b∈K.AJ) (hps:Hl b K.ps K'.ps) (hb:K.ps b=some r) (hb':K'.ps b=some r') (hso:Sound N K'.swap) (hn:r'.en=false->r'.sw+Ap r'.Ah.length<=N) (hsum:Dw K'.swap+Ap r'.Ah.length+y=Dw K.swap+Ap r.Ah.length+x):Lm N y K':=by
 refine⟨h.le,hso,?_,fun k q hk he=>?_⟩
 ·have:=JN (f:=Vk K'.ps) (g:=Vk K.ps) hN hm fun k hk=>by
   obtain⟨c,hc⟩:=hps k hk
   unfold Vk
   rw[hc];cases K.ps k<;>rfl
  rw[GX hb,GX hb']at this;have hs:=h.sum;rw[WO];omega
 ·by_cases e:k=b
  ·subst e;rw[hb']at hk;cases hk;exact hn he
  ·obtain⟨q0,c,h1,rfl⟩:=hps.back e hk;exact h.pl k q0 h1 he
theorem Bw.own {T T':Tag} {w w' Jl:World} {S:Nat->Prop} (h:Bw T T' w w') (hK:Ab S w' Jl) (hS:∀k,S k->w.heap.size<=k):Bw T T' w Jl:=by
 refine⟨h.keep.trans hK fun k hk e=>absurd (hS k e) (by omega),Ct.old h,Ct.new h,fun b hb=>Ct.lt h b (Nat.le_trans hK.size hb),Ct.fresh h⟩
theorem AQ.own {K:KS} {w w':World} {rb:Nat} (h:AQ K w) (hK:Ab (At rb) w w') (ht:K.T rb=(0,0)):AQ K w':=
 h.keep (hK.on fun k _ e=>by subst e;exact ht) fun b hb=>h.lt b (Nat.le_trans hK.size hb)
def Fg (r:PR) (st:Nat):PR:=⟨r.pid,r.par,st,0,0,0,0,true,-1,.nilFunc,.slice none 0 0,.slice none 0 0,[],[]⟩
theorem rq {r:PR} {st:Nat} (h:r.Ok) (hs:st<65536):(Fg r st).Ok:=by
 refine⟨?_,?_,?_,hs,h.pid,h.par,?_,?_,?_,?_,fun _=>⟨rfl,rfl,rfl⟩⟩<;>simp[Fg]
theorem af4 (w:World) (r:PR) (st:Nat):(Instr.build 128 #[(0,.int .i64 r.pid),(1,.int .i64 r.par),(2,.bool true),(3,.int .u16 st),(8,.int .i64 (-1))]).run prog w=.ok (.agg (Fg r st).arr) w:=by kernel_rfl
theorem bK {w:World} {b:Nat} {r r':PR} (h:w.heap[b]?=some r.obj) (h4:r'.bl.oneCell'=true) (h8:r'.im.oneCell'=true) (h9:r'.fd.oneCell'=true):∃w',(Instr.storeAt 128 (R_ b) (.agg r'.arr)).run prog w=.ok () w'/\Ab (At b) w w'/\w'.heap[b]?=some r'.obj:=by
 have e:(Instr.storeAt 128 (R_ b) (.agg r'.arr)).run prog w=(stores b 0 r'.arr.toList (.pure ())).run prog w:=by kernel_rfl
 obtain⟨w',h1,h2,h3⟩:=Hr (P:=prog) (k:=Sem.pure ()) r'.arr.toList 0 _ w h (by show 0+12<=12;omega) (by simp[PR.arr,Value.oneCell']at *;simp[h4,h8,h9]);refine⟨w',?_,h2,?_⟩
 ·rw[e,h1];rfl
 ·rw[h3];simp[RD,PR.arr,PR.obj]
theorem AQ.dead {K:KS} {w w':World} {b st:Nat} {r:PR} (h:AQ K w) (hb:K.ps b=some r) (hK:Ab (At b) w w') (ho:w'.heap[b]?=some (Fg r st).obj):AQ (K.Cg b (Fg r st)) w'/\Bw K.T K.T w w':=by
 have hp:=h.ps b r hb;have M:Ct K.T K.T (fun t=>t=(6,b)\/t=(7,b)\/t=(8,b)\/t=(9,b)) (fun t=>t=(6,b)\/t=(7,b)\/t=(8,b)\/t=(9,b)) w w':=Ct.of (hK.on fun k _ e=>by subst e;exact .inl hp.t) h.lt;exact⟨h.WJ M ⟨hp.t,ho,fun e=>by simp[Fg]at e,fun e=>by simp[Fg]at e,.inl rfl,fun _=>⟨rfl,rfl,rfl,rfl⟩⟩,M.Qb (by rintro t (rfl|rfl|rfl|rfl)<;>simp)⟩
structure I9 (K K':KS):Prop where
 eq:K'={ K with desc:=K'.desc,ef:=K'.ef,op:=K'.op,nl:=K'.nl }
theorem I9.refl (K:KS):I9 K K:=⟨rfl⟩
theorem I9.drop {K K':KS} (h:I9 K K') (i:Nat):I9 K (K'.drop i):=by
 have e:=h.eq;refine⟨?_⟩;unfold KS.drop;split
 ·split
  ·rw[e]
  ·rw[e]
 ·rw[e]
theorem I9.ps {K K':KS} (h:I9 K K'):K'.ps=K.ps:=by rw[h.eq]
theorem I9.AJ {K K':KS} (h:I9 K K'):K'.AJ=K.AJ:=by rw[h.eq]
theorem I9.T {K K':KS} (h:I9 K K'):K'.T=K.T:=by rw[h.eq]
theorem I9.kb {K K':KS} (h:I9 K K'):K'.kb=K.kb:=by rw[h.eq]
theorem I9.core {K K':KS} (h:I9 K K') {N x:Nat} (hc:Cc N x K):Cc N x K':=by
 have e1:=h.ps;have e2:=h.AJ;have e3:K'.core=K.core:=by rw[h.eq]
 exact⟨hc.le,by rw[e3];exact hc.so,by rw[e1,e2,e3];exact hc.sum,by rw[e1];exact hc.pl⟩
theorem Hz {l:List Int} {k:Nat} {n:Int} {i:Nat} (h:l[k]?=some n):(l.take (k+1)).count (i:Int)=(l.take k).count (i:Int)+(if n=i then 1 else 0):=by
 rw[List.take_add_one,h,List.count_append];simp[List.count_singleton]
theorem count_le {l:List Int} {k i:Nat}:(l.take k).count (i:Int)<=l.count (i:Int):=(List.take_sublist k l).count_le _
def aq3 (K:KS) (w:World) (fds:List Int) (k:Nat) (wr:World):Prop:=∃K1,AQ K1 wr/\I9 K K1/\Bw K.T K.T w wr/\Dx (fun i=>Bi K.ps K.AJ i-(fds.take k).count (i:Int)) K1
theorem DZ.end_ {NC NS b st g c:Nat} {K K1 K2:KS} {r:PR} (h:DZ NC NS K) (hm:b∈K.AJ) (hb:K.ps b=some r) (hn:r.en=false) (BH:st<65536) (h1:I9 K K1) (ht:Dx (fun i=>Bi K.ps K.AJ i-r.fds.count (i:Int)) K1) (h2:Ci K1 K2) (hc:Cc NC 0 K2) (FZ:K2.ps b=some { r with co:=-1 }):
  DZ NC NS ((K2.swap' (Cn K2.swap r.sw (Ap r.Ah.length)) g c).Cg b (Fg { r with co:=-1 } st))/\Rel b K ((K2.swap' (Cn K2.swap r.sw (Ap r.Ah.length)) g c).Cg b (Fg { r with co:=-1 } st)):=by
 have ePs:((K2.swap' (Cn K2.swap r.sw (Ap r.Ah.length)) g c).Cg b (Fg { r with co:=-1 } st)).ps=Cu K2.ps b (Fg { r with co:=-1 } st):=rfl;have e2:K2.AJ=K.AJ:=h2.AJ.trans h1.AJ;have e3:K2.swap=K.swap:=by rw[h2.eq,h1.eq]
 have hE:Hl b K.ps (Cu K2.ps b (Fg { r with co:=-1 } st)):=(by rw[<-h1.ps];exact h2.else b:Hl b K.ps K2.ps).trans Hl.set;have o:=h.pr b r hb;obtain⟨kk,G8,Kn,_⟩:=o.len hn;have n1:1<=Ap r.Ah.length:=by unfold Ap;omega
 have hpl:=h.sw.pl b r hb hn;have gs:=MU (a:=r.sw) (n:=Ap r.Ah.length) h.sw.so n1 hpl;refine h.step (b:=b) (r:=r) (r':=Fg { r with co:=-1 } st) e2 (by show K2.BM=K.BM;rw[h2.eq,h1.eq]) (by show K2.kb=K.kb;rw[h2.eq,h1.eq]) hE hb Al (rq (r:={ r with co:=-1 }) ⟨o.A,o.B,o.P,o.st,o.pid,o.par,o.Ah,o.fds,o.fd,o.len,fun e=>absurd e (by simp[hn])⟩ BH) rfl ?_ ?_ ?_
 ·refine⟨hc.le,hc.so,?_,fun k q hk=>?_⟩
  ·show Dw K2.core+CS (Mf (Cu K2.ps b _)) K2.AJ+0=NC;rw[CV (g:=Mf K2.ps) fun k _=>?_]
   ·exact hc.sum
   ·by_cases e:k=b
    ·subst e;rw[DV Al,DV FZ];simp[Fg]
    ·unfold Mf;rw[BI e]
  ·have hk:Cu K2.ps b _ k=some q:=hk;by_cases e:k=b
   ·subst e;rw[Al]at hk;cases hk;exact⟨by simp[Fg],.inl rfl⟩
   ·rw[BI e]at hk;exact hc.pl k q hk
 ·refine h.sw.step (x:=0) (b:=b) e2 h.nd hm hE hb Al ?_ (fun e=>by simp[Fg]at e) ?_
  ·show Sound NS (Cn K2.swap r.sw (Ap r.Ah.length));rw[e3];exact gs.1
  ·show Dw (Cn K2.swap r.sw (Ap r.Ah.length))+Ap ([]:List Nat).length+0=_;rw[e3,gs.2];simp[Ap]
 ·have ht2:Dx (fun i=>Bi K.ps K.AJ i-r.fds.count (i:Int)) ((K2.swap' (Cn K2.swap r.sw (Ap r.Ah.length)) g c).Cg b (Fg { r with co:=-1 } st)):=by
   have d1:K2.desc=K1.desc:=by rw[h2.eq]
   have d2:K2.op=K1.op:=by rw[h2.eq]
   have d3:K2.ef=K1.ef:=by rw[h2.eq]
   have d4:K2.nl=K1.nl:=by rw[h2.eq]
   have d5:K2.nm=K1.nm:=by rw[h2.eq]
   refine⟨?_,ht.le,?_,?_,?_,?_,?_⟩
   ·show ∀i,i<20->K2.desc i=_;rw[d1];exact ht.ho
   ·show ∀f,K2.op f=Dj K2.desc K2.ef f;rw[d1,d2,d3];exact ht.op
   ·show K2.nl.Nodup;rw[d4];exact ht.nd
   ·show ∀f∈K2.nl,1<=K2.op f;rw[d4,d2];exact ht.nz
   ·show ∀i j f,i<16->j<16->K2.nm i=some f->K2.nm j=some f->i=j;rw[d5];exact ht.nm
   ·show ∀i f,i<16->K2.nm i=some f->f ∉ K2.nl;rw[d5,d4];exact ht.dj
  refine ht2.congr fun i _=>?_
  have:=MS (i:=i) h.nd hm hE hb Al;show Bi (Cu K2.ps b _) K2.AJ i=_;rw[e2];have z:(Fg { r with co:=-1 } st).fds.count (i:Int)=0:=rfl;omega
section
variable (m:Nat) (w:World)
theorem oO (K:KS) (NC NS b st:Nat) (r:PR) (h:AQ K w) (hO:DZ NC NS K) (hm:b∈K.AJ) (hb:K.ps b=some r) (hn:r.en=false) (BH:st<65536):
  CallsIn NF m prog 100 #[R_ K.kb,R_ b,.int .u16 (st:Nat)] w fun e w'=>e=.returned (.agg #[.int .u16 st,.int .u16 0,.nilFunc])/\∃K',AQ K' w'/\DZ NC NS K'/\Rel b K K'/\Bw K.T K'.T w w'/\∃r',K'.ps b=some r'/\r'.en=true:=by
 have o:=hO.pr b r hb;have hlen:r.fds.length<=6:=by rw[o.fds hn];omega
 obtain⟨n1,hL⟩:1<=Ap r.Ah.length/\r.Ah.length<=128:=by
  obtain⟨kk,G8,Kn,hk3⟩:=o.len hn
  unfold Ap;omega
 obtain⟨K0,rb,BA⟩:=FU w;have h0:=h.no K0;have E8:K.T w.heap.size=(0,0):=h.lt _ (Nat.le_refl _);obtain⟨g,c,q9,hR,tg,Zn⟩:=h0.WH hb hn;gi_enter func100,ntmps100;gi_wp2;generalize hw0:w.alloc V_=w0 at*;gi_loopw [14] (fun i wr=>∃k:Nat,k<=r.fds.length/\i=.int .i64 k/\aq3 K w0 r.fds k wr) (fun i _=>r.fds.length-(intOf i).toNat)
 case atStart=>exact⟨0,by omega,rfl,K,h0,I9.refl K,Bw.no (Ab.refl _ _) h0.lt,hO.CY.congr fun i _=>by simp⟩
 case round=>
  obtain⟨k,hk,rfl,K1,h1,hT1,hv1,ht1⟩:=hrel
  have Jv:K1.ps b=some r:=by rw[hT1.ps];exact hb
  obtain⟨g1,c1,p9,fG,tg1,hfd1⟩:=h1.WH Jv hn
  have lX:=hT1.kb
  obtain⟨rfl,rfl⟩:g1=g/\c1=c:=by rw[Zn]at hfd1;simp at hfd1;exact⟨hfd1.1.symm,hfd1.2.symm⟩
  by_cases BC:k<r.fds.length
  ·have hg:r.fds[k]?=some r.fds[k]:=HZ BC;generalize r.fds[k]=n at hg;have d:=fG.JH rfl hg;rcases o.fd n (List.mem_of_getElem? hg)with rfl|⟨i,rfl,hi⟩
   ·gi_wp2;go_roundw
    case rel=>
     refine⟨k+1,by omega,by go_num,K1,h1,hT1,hv1,ht1.congr fun i _=>?_⟩
     rw[Hz hg,if_neg (by omega)];rfl
    case measure=>simp[intOf];omega
   ·have hge:=OJ (p:=K.ps) (i:=i) hm hb;have hcl:=count_le (l:=r.fds) (k:=k+1) (i:=i);have hct:=Hz (i:=i) hg;rw[if_pos rfl]at hct;have hH:0<Bi K.ps K.AJ i-(r.fds.take k).count (i:Int):=(by omega);have hd1:0<K1.desc i:=(by rw[ht1.ho i hi];exact hH);have cd:=fun m=>iE m wr K1 i h1 hi hd1 (by rw[ht1.ho i hi];exact ht1.le i hi) (by have:=ht1.nl;omega) (fun f hf=>ht1.eff hi hd1 hf)
    rw[lX]at cd;have f1:((i:Int) !=-1)=true:=(by simp);gi_wp2_with (gi_at_call 155;refine(cd _).mono ?_;rintro e w2 ⟨rfl,h2,M2⟩);go_roundw
    case rel=>
     rw[hT1.T]at M2
     refine⟨k+1,by omega,by go_num,K1.drop i,h2,hT1.drop i,hv1.trans M2,(ht1.drop hi hH).congr fun j _=>?_⟩
     unfold Az
     split
     ·rename_i e;subst e;rw[hct];omega
     ·rename_i e;rw[Hz hg,if_neg (by omega)];rfl
    case measure=>simp[intOf];omega
  ·obtain rfl:k=r.fds.length:=(by omega);rw[List.take_length]at ht1;have ct:=fun m=>Nr m wr K1 b NC 0 r h1 Jv (by rw[hT1.AJ];exact hm) (by rw[hT1.AJ];exact hO.nd) (hT1.core hO.co)
   rw[lX]at ct;gi_wp2_with (gi_at_call 52;refine(ct _).mono ?_;rintro e w2 ⟨rfl,K2,h2,hM2,hC2,hv2,FZ,_⟩);have Zy:K2.kb=K.kb:=hM2.kb.trans lX;obtain⟨a8,c8,q8⟩:=h2.im8 FZ;have rW:=h2.FH FZ 10;simp[PR.arr]at q8 rW;have hV2:=hv1.trans (hT1.T ▸ hv2);refine AA (P:=prog) No _ rfl rfl (by kernel_rfl) 9 58 [0,1,2,3,4,5,6,7,8] [] (by kernel_rfl) (by rfl) (fun _ _ _=>True) (fun _ _ _ _ _ h _=>h) _ _ rfl rfl ?_;gi_wp2_with (gi_at_call 58;refine(El _ w2.drew b _ _ _ q8 (by omega)).mono ?_;rintro e w1 ⟨rfl,rfl⟩);refine⟨rfl,by kernel_rfl,?_,(fun i hi=>absurd hi (by simp)),?_⟩
   ·intro W hK;have d10:=hK.has (w:=w2.drew) rW;have d8:=hK.has (w:=w2.drew) q8
    repeat' (refine Ao ?_ ?_)
    all_goals first|exact trivial|gi_wp2_with (gi_at_call 58;refine(El _ W b _ _ _ d8 (by omega)).mono ?_;rintro e w1 ⟨rfl,rfl⟩)
   ·intro u W hK _;simp only[C9];have KW:Ab No w2 W:=(Ab.refl No w2).drew.then hK;have h2W:=h2.no KW;have eS:K2.swap=K.swap:=(by rw[hM2.eq,hT1.eq]);have hpl:=hO.sw.pl b r hb hn;have hsl:K2.swap.length+1<=NS:=by
     rw[eS]
     have a1:=hO.sw.so.len
     have a2:=hO.sw.sum
     have a3:=Ng (f:=Vk K.ps) hm
     rw[GX hb]at a3
     omega
    have cg:=fun m=>oL m W K2 r.sw (Ap r.Ah.length) NS h2W (by rw[eS];exact hO.sw.fit) (by have:=hO.sw.le;omega) hpl hsl
    rw[Zy]at cg;have xz:=hV2.then KW;gi_wp2_with fail;refine(cg _).mono ?_;rintro e w3 ⟨rfl,g3,c3,h3,M3⟩;have hb3:(K2.swap' (Cn K2.swap r.sw (Ap r.Ah.length)) g3 c3).ps b=some { r with co:=-1 }:=FZ;have I1:Bw K.T (A8 K2.T g3 (3,0)) w0 w3:=xz.trans M3;have hE:=hO.end_ (g:=g3) (c:=c3) hm hb hn BH hT1 ht1 hM2 hC2 FZ;have tK3:(K2.swap' (Cn K2.swap r.sw (Ap r.Ah.length)) g3 c3).T=A8 K2.T g3 (3,0):=rfl;rw[<-tK3]at I1;clear cg xz hV2 h2W KW hK q8 rW ct h2 hv2 M3 h1 hv1 fG p9 tK3;generalize K2.swap' (Cn K2.swap r.sw (Ap r.Ah.length)) g3 c3=K3 at*;have c0:=h3.FH hb3 0;have c1:=h3.FH hb3 1;simp[PR.arr]at c0 c1;gi_wp2;refine AA (P:=prog) No _ rfl rfl (by kernel_rfl) 11 58 [0,1,2,3,4,5,6,7,8,9,10] [] (by kernel_rfl) (by rfl) (fun _ _ _=>True) (fun _ _ _ _ _ h _=>h) _ _ rfl rfl ?_;gi_wp2;refine⟨rfl,by kernel_rfl,?_,(fun i hi=>absurd hi (by simp)),?_⟩
    ·intro W hK;have d0:=hK.has (w:=w3.drew) c0;have d1:=hK.has (w:=w3.drew) c1
     repeat' (refine Ao ?_ ?_)
     all_goals first|exact trivial|gi_wp2
    ·intro u W hK _;simp only[C9];have KW:Ab No w3 W:=(Ab.refl No w3).drew.then hK;have h3W:=h3.no KW;obtain⟨w5,Zu,K5,p5⟩:=bK (r':=Fg { r with co:=-1 } st) (h3W.ps b _ hb3).o rfl rfl rfl;simp only[Fg,PR.arr]at Zu;obtain⟨h4,M4⟩:=h3W.dead hb3 K5 p5;have hV5:Bw K.T K3.T w0 w5:=(I1.then KW).trans M4;have eT:(K3.Cg b (Fg { r with co:=-1 } st)).T=K3.T:=rfl;have hb4:(K3.Cg b (Fg { r with co:=-1 } st)).ps b=some (Fg { r with co:=-1 } st):=Al;rw[<-eT]at hV5;clear I1 KW hK h3W M4 K5 p5 c0 c1 h3 hb3 eT;generalize K3.Cg b (Fg { r with co:=-1 } st)=K4 at*;obtain⟨hO4,lN⟩:=hE;have ai7:K4.kb=K.kb:=lN.kb;have co:=fun m=>jY m w5 K4 b _ h4 hO4.th hb4 (by have:=hO4.len;omega)
     rw[ai7]at co;gi_wp2_with (first|(gi_at_call 157;refine(co _).mono ?_;rintro e w6 ⟨rfl,K6,h6,hF6,hv6,hp6⟩)|refine Ae rfl (.tmp 50) (.tmp 49) 128 rfl rfl rfl Zu ?_);have lT:=hO4.ai4 hF6 hp6;have bc5:K6.kb=K.kb:=(by rw[hF6.eq];exact ai7);have cb:=fun m=>iL m w6 K6 h6 lT.th (by have:=lT.len;omega)
     rw[bc5]at cb;obtain⟨bi4,hb6⟩:=hF6.get hb4;gi_wp2_with (first|(gi_at_call 158;refine(cb _).mono ?_;rintro e w7 ⟨rfl,h7,M7⟩;have hV7:Bw K.T K6.T w0 w7:=(hV5.trans hv6).trans M7;obtain⟨w8,Ar,K8,b8⟩:=UQ (x:=st) (y:=0) (hV7.old rb E8))|refine Ae rfl (.tmp 6) (.tmp 57) 206 rfl rfl rfl Ar ?_);have t7:K6.T w.heap.size=(0,0):=(Ct.fresh hV7 _ BA).trans E8;have jd:w8.cell? (S_ w.heap.size)=some (.int .u16 st):=bce b8 rfl;have jc:w8.cell? (T_ w.heap.size 1)=some (.int .u16 0):=bce b8 rfl;have ja:w8.cell? (T_ w.heap.size 2)=some .nilFunc:=bce b8 rfl;refine TR st 0 (by simp[results,results100,go_sem,jd,jc,ja]) rfl ?_;refine⟨rfl,K6.Ru,h7.own K8 t7,lT.Ru,((lN.trans (hF6.rel b) (by rw[hb];simp) hO.th).trans (Xx K6 b) (by rw[hb];simp) hO.th),((Bw.no K0 h.lt).trans hV7).own K8 (fun k e=>by rw[show k=w.heap.size from e];exact Nat.le_refl _),_,hb6,rfl⟩
end
section
variable (m:Nat) (w:World)
theorem AL (x:Nat):CallsIn NF m prog 140 #[.int .u16 x] w fun e w'=>e=.returned (.agg #[.int .u16 0,.int .u16 x,.nilFunc])/\Ab No w w':=by
 gi_enter func140,ntmps140;gi_wp2;refine TR 0 x (by simp[results,results140,go_sem]) rfl ?_;exact⟨rfl,by repeat (first|exact Ab.refl _ _|refine Ab.drew ?_|refine Ab.alloc ?_ _)⟩
theorem Cr (x:Nat) (hx:x<65536):CallsIn NF m prog 152 #[.int .i64 x] w fun e w'=>e=.returned (.agg #[.int .u16 x,.int .u16 0,.nilFunc])/\Ab No w w':=by
 gi_enter func152,ntmps152;gi_wp2;refine TR x 0 (by simp[results,results152,go_sem]) rfl ?_;exact⟨rfl,by repeat (first|exact Ab.refl _ _|refine Ab.drew ?_|refine Ab.alloc ?_ _)⟩
theorem ad3 {ad:Addr} {n c:Nat}:(binOp .eql 116 (.slice (some ad) n c) (.slice none 0 0)).run prog w=.ok (.bool false) w:=by kernel_rfl
theorem ad2:(binOp .eql 116 (.slice none 0 0) (.slice none 0 0)).run prog w=.ok (.bool true) w:=by kernel_rfl
theorem Qx:CallsIn NF m prog 141 #[.slice none 0 0] w fun e w'=>e=.returned (.slice none 0 0)/\Ab No w w':=by
 have hq:=ad2 w;gi_enter func141,ntmps141;gi_wp2;go_ret;exact⟨by simp,Ab.refl _ _⟩
theorem O7:(prog.info? 123).map (fun i=>(i.zero,i.size,i.bytes))=some (some (.int .u16 0),1,2):=by kernel_rfl
theorem Gi {w w':World} {row:Option Nat} {S:Nat->Prop} (h:w.grownBy w' row) (hr:∀k,row=some k->k<w.heap.size->S k):Ab S w w':=⟨h.os,h.output,h.size,fun k hk hn=>h.block k hk fun e=>hn (hr k e.symm hk)⟩
theorem SY {w:World} {e:TypeId} {size:Nat}:(w.alloc (.cells #[] e)).ownsRow w.heap.size e size (.slice (some (S_ w.heap.size)) 0 0) 0 []:=
 ⟨by simp,.inr ⟨w.heap.size,0,#[],rfl,Nat.le_refl _,heap_alloc_new rfl,Nat.le_refl _,Nat.zero_le _,by simp,by simp⟩⟩
theorem Qr {w:World} {base base':Nat} {e:TypeId} {size:Nat} {v:Value} {n:Nat} {xs:U_} (h:w.ownsRow base e size v n xs) (hb:base'<=base):w.ownsRow base' e size v n xs:=by
 obtain⟨h1,h2⟩:=h;refine⟨h1,?_⟩;rcases h2 with h2|⟨g,cap,cur,a,b,c⟩
 ·exact .inl h2
 ·exact .inr ⟨g,cap,cur,a,Nat.le_trans hb b,c⟩
theorem II (ad:Addr) (n c:Nat) (xs:U_) (hl:xs.length=n) (hc:∀j u,xs[j]?=some u->w.cell? (ad.add j)=some u) (h1:∀u∈xs,u.oneCell'=true) (hn:n<=1000):CallsIn NF m prog 141 #[.slice (some ad) n c] w fun e w'=>Ab No w w'/\∃v,e=.returned v/\w'.ownsRow w.heap.size 123 1 v n xs:=by
 obtain⟨i0,hi,hz0,hz1,hz2⟩:=info_parts O7;have hq:=ad3 w (ad:=ad) (n:=n) (c:=c);gi_enter func141,ntmps141;gi_wp2_with (gi_at_builtin;refine wpListIn_append_own _ rfl (.tmp 5) (.tmp 6) 116 rfl w.heap.size 123 i0 (.int .u16 0) 1 2 underlying116 hi hz0 hz1 hz2 rfl (by decide) _ 0 [] rfl SY ad n c xs rfl (by omega) (fun j u hj=>((Ab.refl No w).alloc _).has (hc j u hj)) h1 (by unfold maxLen;omega) (by omega) (by simp) ?_;intro v' w1 FX Iq _);go_ret;refine⟨((Ab.refl No w).alloc (.cells #[] 123)).trans (Gi (S:=At w.heap.size) Iq (fun k h _=>(Option.some.inj (show some w.heap.size=some k from h)).symm)) (fun k hk h=>absurd hk (by rw[show k=w.heap.size from h];exact Nat.lt_irrefl _)),v',rfl,?_⟩;simpa using FX
theorem En (x:Nat):CallsIn NF m prog 273 #[.int .u16 x] w fun e w'=>e=.returned (.agg #[.int .u16 0,.int .u16 x,.nilFunc])/\Ab No w w':=by
 gi_enter func273,ntmps273;gi_wp2;refine TR 0 x (by simp[results,results273,go_sem]) rfl ?_;exact⟨rfl,by repeat (first|exact Ab.refl _ _|refine Ab.drew ?_|refine Ab.alloc ?_ _)⟩
theorem Cf (x:Nat) (hx:x<65536):CallsIn NF m prog 272 #[.int .i64 x] w fun e w'=>e=.returned (.agg #[.int .u16 x,.int .u16 0,.nilFunc])/\Ab No w w':=by
 gi_enter func272,ntmps272;gi_wp2;refine TR x 0 (by simp[results,results272,go_sem]) rfl ?_;exact⟨rfl,by repeat (first|exact Ab.refl _ _|refine Ab.drew ?_|refine Ab.alloc ?_ _)⟩
theorem info3:(prog.info? 3).map (fun i=>(i.zero,i.size,i.bytes))=some (some (.int .i64 0),1,8):=by kernel_rfl
theorem ao7 {ad:Addr} {n c:Nat}:(binOp .eql 22 (.slice (some ad) n c) (.slice none 0 0)).run prog w=.ok (.bool false) w:=by kernel_rfl
theorem ao6:(binOp .eql 22 (.slice none 0 0) (.slice none 0 0)).run prog w=.ok (.bool true) w:=by kernel_rfl
theorem eD:CallsIn NF m prog 102 #[.slice none 0 0] w fun e w'=>e=.returned (.slice none 0 0)/\Ab No w w':=by
 have hq:=ao6 w;gi_enter func102,ntmps102;gi_wp2;go_ret;exact⟨by simp,Ab.refl _ _⟩
theorem Tq (ad:Addr) (n c:Nat) (xs:U_) (hl:xs.length=n) (hc:∀j u,xs[j]?=some u->w.cell? (ad.add j)=some u) (h1:∀u∈xs,u.oneCell'=true) (hn:n<=1000):CallsIn NF m prog 102 #[.slice (some ad) n c] w fun e w'=>Ab No w w'/\∃v,e=.returned v/\w'.ownsRow w.heap.size 3 1 v n xs:=by
 obtain⟨i0,hi,hz0,hz1,hz2⟩:=info_parts info3;have hq:=ao7 w (ad:=ad) (n:=n) (c:=c);gi_enter func102,ntmps102;gi_wp2_with (gi_at_builtin;refine wpListIn_append_own _ rfl (.tmp 5) (.tmp 6) 22 rfl w.heap.size 3 i0 (.int .i64 0) 1 8 underlying22 hi hz0 hz1 hz2 rfl (by decide) _ 0 [] rfl SY ad n c xs rfl (by omega) (fun j u hj=>((Ab.refl No w).alloc _).has (hc j u hj)) h1 (by unfold maxLen;omega) (by omega) (by simp) ?_;intro v' w1 FX Iq _);go_ret;refine⟨((Ab.refl No w).alloc (.cells #[] 3)).trans (Gi (S:=At w.heap.size) Iq (fun k h _=>(Option.some.inj (show some w.heap.size=some k from h)).symm)) (fun k hk h=>absurd hk (by rw[show k=w.heap.size from h];exact Nat.lt_irrefl _)),v',rfl,?_⟩;simpa using FX
end
theorem IU.one {T:Tag} {w:World} {kb b:Nat} {f:Value} (h:IU T w kb b f):f.oneCell'=true:=by
 rcases h with rfl|⟨_,_,rfl,_⟩|⟨_,rfl|rfl,_⟩<;>rfl
theorem Af {w:World} {rb:Nat} {a b c f:Value} {x y:Int} (h:w.heap[rb]?=some (.cells #[a,b,c] 206 (0,0))) (hf:f.oneCell'=true):∃w',(Instr.storeAt 206 (R_ rb) (.agg #[.int .u16 x,.int .u16 y,f])).run prog w=.ok () w'/\Ab (At rb) w w'/\w'.heap[rb]?=some (.cells #[.int .u16 x,.int .u16 y,f] 206 (0,0)):=by
 have e:(Instr.storeAt 206 (R_ rb) (.agg #[.int .u16 x,.int .u16 y,f])).run prog w=(stores rb 0 [.int .u16 x,.int .u16 y,f] (.pure ())).run prog w:=by kernel_rfl
 obtain⟨w',h1,h2,h3⟩:=Hr (P:=prog) (k:=Sem.pure ()) [.int .u16 x,.int .u16 y,f] 0 _ w h (by simp) (by simp[hf];exact⟨rfl,rfl⟩);refine⟨w',?_,h2,?_⟩
 ·rw[e,h1];rfl
 ·rw[h3];simp[RD]
def ED (NC NS b:Nat) (K:KS) (w:World) (e:Ending) (w':World):Prop:=∃(K':KS) (x y:Nat) (f:Value),e=.returned (.agg #[.int .u16 x,.int .u16 y,f])/\x<65536/\y<65536/\IU K'.T w' K'.kb b f/\AQ K' w'/\DZ NC NS K'/\Rel b K K'/\Bw K.T K'.T w w'/\∃r',K'.ps b=some r'/\(r'.en=false->b∈K'.AJ)
theorem AV {NC NS b x y:Nat} {K K':KS} {w w0 w7 w8:World} {f:Value} {r':PR} (BC:∀k,w.heap.size<=k->K.T k=(0,0)) (K0:Ab No w w0) (BA:w.heap.size<w0.heap.size) (hV:Bw K.T K'.T w0 w7) (h7:AQ K' w7) (K8:Ab (At w.heap.size) w7 w8) (hx:x<65536) (hy:y<65536) (hf:IU K'.T w7 K'.kb b f) (hO:DZ NC NS K') (hR:Rel b K K') (hr:K'.ps b=some r') (FW:r'.en=false->b∈K'.AJ):ED NC NS b K w (.returned (.agg #[.int .u16 x,.int .u16 y,f])) w8:=by
 have t7:K'.T w.heap.size=(0,0):=(Ct.fresh hV _ BA).trans (BC _ (Nat.le_refl _));have K9:Ab (On K'.T fun t=>t=(0,0)) w7 w8:=K8.on fun k _ e=>by rw[show k=w.heap.size from e];exact t7
 exact⟨K',x,y,f,rfl,hx,hy,hf.keep K9 (by simp),h7.own K8 t7,hO,hR,((Bw.no K0 BC).trans hV).own K8 (fun k e=>by rw[show k=w.heap.size from e];exact Nat.le_refl _),r',hr,FW⟩
structure NZ (K K':KS):Prop where
 eq:K'={ K with desc:=K'.desc,ef:=K'.ef,op:=K'.op,nl:=K'.nl,nm:=K'.nm,T:=K'.T }
theorem I9.tt {K K':KS} (h:I9 K K'):NZ K K':=⟨by rw[h.eq]⟩
theorem NZ.refl (K:KS):NZ K K:=⟨rfl⟩
theorem DZ.fds {NC NS b:Nat} {K K1:KS} {r r':PR} {H:Nat->Nat} (h:DZ NC NS K) (hT:NZ K K1) (hm:b∈K.AJ) (hb:K.ps b=some r) (hp:r'.pid=r.pid) (he:r'.en=r.en) (GA:r'.co=r.co) (hsw:r'.sw=r.sw) (hi:r'.Ah.length=r.Ah.length) (ho:r'.Ok) (ht:Dx H K1) (hH:∀i,i<20->H i+r.fds.count (i:Int)=Bi K.ps K.AJ i+r'.fds.count (i:Int)):DZ NC NS (K1.Cg b r')/\Rel b K (K1.Cg b r'):=by
 have e1:K1.ps=K.ps:=by rw[hT.eq]
 have e2:K1.AJ=K.AJ:=by rw[hT.eq]
 have e3:K1.core=K.core:=by rw[hT.eq]
 have e4:K1.swap=K.swap:=by rw[hT.eq]
 have hE:Hl b K.ps (Cu K1.ps b r'):=by rw[e1];exact Hl.set
 refine h.step (b:=b) (r:=r) (r':=r') e2 (by show K1.BM=K.BM;rw[hT.eq]) (by show K1.kb=K.kb;rw[hT.eq]) hE hb Al ho hp ?_ ?_ ?_
 ·refine⟨h.co.le,by show Sound NC K1.core;rw[e3];exact h.co.so,?_,fun k q hk=>?_⟩
  ·show Dw K1.core+CS (Mf (Cu K1.ps b r')) K1.AJ+0=NC;rw[e1,e2,e3,CV (g:=Mf K.ps) fun k _=>?_]
   ·exact h.co.sum
   ·by_cases e:k=b
    ·subst e;rw[DV Al,DV hb,GA,hi]
    ·unfold Mf;rw[BI e]
  ·have hk:Cu K1.ps b _ k=some q:=hk;by_cases e:k=b
   ·subst e;rw[Al]at hk;cases hk;rw[hi,GA];exact h.co.pl _ r hb
   ·rw[BI e,e1]at hk;exact h.co.pl k q hk
 ·refine h.sw.step (x:=0) (b:=b) e2 h.nd hm hE hb Al ?_ (fun e=>?_) ?_
  ·show Sound NS K1.swap;rw[e4];exact h.sw.so
  ·rw[hsw,hi];exact h.sw.pl b r hb (by rw[<-he];exact e)
  ·show Dw K1.swap+Ap r'.Ah.length+0=_;rw[e4,hi]
 ·have ht2:Dx H (K1.Cg b r'):=⟨ht.ho,ht.le,ht.op,ht.nd,ht.nz,ht.nm,ht.dj⟩;refine ht2.congr fun i hi=>?_
  have:=MS (i:=i) h.nd hm hE hb Al;show Bi (Cu K1.ps b r') K1.AJ i=_;rw[e2];have:=hH i hi;omega
theorem Ke {l:List Int} {k:Nat} {n m a:Int} (h:l[k]?=some n):(l.set k m).count a+(if n=a then 1 else 0)=l.count a+(if m=a then 1 else 0):=by
 have hk:=(KH.1 h).1;have c:=Vx h;have e:l.set k m=l.take k++m::l.drop (k+1):=List.set_eq_take_append_cons_drop.trans (if_pos hk);rw[e]
 conv=>rhs;rw[c]
 simp only[List.count_append,List.count_cons];simp only[beq_iff_eq];omega
theorem Br {NC NS b x y:Nat} {K:KS} {r:PR} {w w0 w7 w8:World} (h:AQ K w) (hO:DZ NC NS K) (hm:b∈K.AJ) (hb:K.ps b=some r) (K0:Ab No w w0) (BA:w.heap.size<w0.heap.size) (hK:Ab No w0 w7) (K8:Ab (At w.heap.size) w7 w8) (hx:x<65536) (hy:y<65536):ED NC NS b K w (.returned (.agg #[.int .u16 x,.int .u16 y,.nilFunc])) w8:=
 AV (K':=K) (x:=x) (y:=y) h.lt K0 BA (Bw.no hK (h.no K0).lt) ((h.no K0).no hK) K8 hx hy (.inl rfl) hO (Rel.refl b K) hb (fun _=>hm)
theorem RP {r:PR} {l:List Int} (o:r.Ok) (h6:r.en=false->l.length=6) (h:∀n∈l,n=-1\/∃i:Nat,n=i/\i<20) (hn:r.en=false):PR.Ok { r with fds:=l }:=⟨o.A,o.B,o.P,o.st,o.pid,o.par,o.Ah,h6,h,o.len,fun e=>absurd e (by simp[hn])⟩
theorem Ou {l:List Int} {k:Nat} {x:Int} (h:∀n∈l,n=-1\/∃i:Nat,n=i/\i<20) (hx:x=-1\/∃i:Nat,x=i/\i<20):∀n∈l.set k x,n=-1\/∃i:Nat,n=i/\i<20:=fun n hn=>by
 rcases List.mem_or_eq_of_mem_set hn with h1|rfl
 ·exact h n h1
 ·exact hx
theorem DZ.close {NC NS b i k:Nat} {K:KS} {r:PR} (h:DZ NC NS K) (hm:b∈K.AJ) (hb:K.ps b=some r) (hn:r.en=false) (hi:i<20) (hg:r.fds[k]?=some (i:Int)):0<K.desc i/\DZ NC NS ((K.drop i).Cg b { r with fds:=r.fds.set k (-1) })/\Rel b K ((K.drop i).Cg b { r with fds:=r.fds.set k (-1) }):=by
 have o:=h.pr b r hb;have hc:0<r.fds.count (i:Int):=List.count_pos_iff.2 (List.mem_of_getElem? hg);have hH:0<Bi K.ps K.AJ i:=Nat.lt_of_lt_of_le hc (OJ hm hb);refine⟨by rw[h.CY.ho i hi];exact hH,h.fds ((I9.refl K).drop i).tt hm hb rfl rfl rfl rfl rfl (RP o (fun e=>by simp[o.fds e]) (Ou o.fd (.inl rfl)) hn) (h.CY.drop hi hH) fun j _=>?_⟩;have:=Ke (m:=-1) (a:=(j:Int)) hg;rw[if_neg (c:=(-1:Int)=(j:Int)) (by omega)]at this;simp only[Az];split
 ·rename_i e;subst e;rw[if_pos rfl]at this;omega
 ·rename_i e;rw[if_neg (by omega)]at this;omega
theorem Dx.share {H:Nat->Nat} {K:KS} (h:Dx H K) {i:Nat} (hd:0<K.desc i) (hle:∀j,j<20->Az H i (H i+1) j<=1000) (hi:i<20):Dx (Az H i (H i+1)) { K with desc:=Az K.desc i (K.desc i+1) }:=by
 refine⟨fun j hj=>?_,hle,fun f=>?_,h.nd,h.nz,h.nm,h.dj⟩
 ·show Az K.desc i (K.desc i+1) j=_;unfold Az;split
  ·rw[h.ho i hi]
  ·exact h.ho j hj
 ·rw[h.op f];unfold Dj;refine CV fun j _=>?_
  show _=if 0<Az K.desc i (K.desc i+1) j/\K.ef j=some f then 1 else 0
  unfold Az;by_cases e:j=i
  ·subst e;simp[hd]
  ·simp[e]
theorem SG {f:Nat->Nat} {c:Nat}:∀{l:List Nat},(∀b∈l,f b<=c)->CS f l<=c*l.length
 | [],_=>by simp[CS]
 | b::l,h=>by
  have h1:=h b (by simp)
  have h2:=SG (f:=f) (l:=l) fun x hx=>h x (by simp[hx])
  simp only[CS,List.length_cons,Nat.mul_add];omega
theorem DZ.Tk {NC NS:Nat} {K:KS} (h:DZ NC NS K) (i:Nat):Bi K.ps K.AJ i<=72:=by
 have:=SG (f:=GJ K.ps i) (c:=6) (l:=K.AJ) fun b _=>by
  unfold GJ
  cases hb:K.ps b with
  | none=>simp
  | some r=>
   have o:=h.pr b r hb
   have h1:r.fds.count (i:Int)<=r.fds.length:=List.count_le_length
   cases he:r.en with
   | false=>rw[o.fds he]at h1;exact h1
   | true=>rw[(o.off he).1]at h1;simp at h1;simp[(o.off he).1]
 have:=h.len;unfold Bi;omega
theorem DZ.dup {NC NS b i k:Nat} {K:KS} {r:PR} (h:DZ NC NS K) (hm:b∈K.AJ) (hb:K.ps b=some r) (hn:r.en=false) (hi:i<20) (hd:0<K.desc i) (hg:r.fds[k]?=some (-1)):DZ NC NS (KS.Cg { K with desc:=Az K.desc i (K.desc i+1) } b { r with fds:=r.fds.set k (i:Int) })/\Rel b K (KS.Cg { K with desc:=Az K.desc i (K.desc i+1) } b { r with fds:=r.fds.set k (i:Int) }):=by
 have o:=h.pr b r hb;have hle:=h.Tk;refine h.fds (K1:={ K with desc:=Az K.desc i (K.desc i+1) }) ⟨rfl⟩ hm hb rfl rfl rfl rfl rfl (RP o (fun e=>by simp[o.fds e]) (Ou o.fd (.inr ⟨i,rfl,hi⟩)) hn) (h.CY.share hd (fun j hj=>by unfold Az;split;have:=hle i;omega;have:=hle j;omega) hi) fun j _=>?_
 have:=Ke (m:=(i:Int)) (a:=(j:Int)) hg;rw[if_neg (c:=(-1:Int)=(j:Int)) (by omega)]at this;simp only[Az];split
 ·rename_i e;subst e;rw[if_pos rfl]at this;omega
 ·rename_i e;rw[if_neg (by omega)]at this;omega
section
variable (m:Nat) (w:World)
theorem ry (K:KS) (NC NS b fd:Nat) (r:PR) (h:AQ K w) (hO:DZ NC NS K) (hm:b∈K.AJ) (hb:K.ps b=some r) (hn:r.en=false) (Zn:fd<65536):
  CallsIn NF m prog 148 #[R_ K.kb,R_ b,.int .u16 (fd:Nat)] w (ED NC NS b K w):=by
 have o:=hO.pr b r hb;obtain⟨K0,rb,BA⟩:=FU w;have h0:=h.no K0;have E8:K.T w.heap.size=(0,0):=h.lt _ (Nat.le_refl _);have ch:=fun m=>RU m _ K b fd r h0 hb hn Zn
 gi_enter func148,ntmps148;gi_wp2_with (gi_at_call 202;refine(ch _).mono ?_;rintro e w1 ⟨K1,x,rfl,hx⟩;generalize hw0:w.alloc V_=w0 at *;cases x)
 ·skip
  gi_wp2_with (first|(gi_at_call 140;refine(AL _ _ 2).mono ?_;rintro e wz ⟨rfl,Kz⟩;obtain⟨w8,Ar,K8,b8⟩:=Af (x:=0) (y:=2) (f:=.nilFunc) (Kz.old (K1.old rb id) id) rfl)|refine Ae rfl _ _ _ rfl rfl rfl Ar ?_);refine TR 0 2 (by simp[results,results148,go_sem,Dz b8]) rfl ?_;exact Br h hO hm hb K0 BA (K1.then Kz) K8 (by decide) (by decide)
 ·obtain⟨n,hg,BN⟩:=hx (by first|rfl|trivial);obtain⟨i,rfl,hi⟩:=(o.fd n (List.mem_of_getElem? hg)).resolve_left BN;obtain⟨hd,J5,Fb⟩:=hO.close hm hb hn hi hg;have h1:=h0.no K1;obtain⟨g,c,q9,iX,tg,jo⟩:=h1.WH hb hn;have hfl:=(KH.1 hg).1;have f1:(fd:Int)<(r.fds.length:Int):=by omega
  have d:=iX.JH rfl hg;gi_wp2;refine AA (P:=prog) No _ rfl rfl (by kernel_rfl) 10 30 [0,1,2,3,4,5,6,7,8,9] [] (by kernel_rfl) (by rfl) (fun _ _ _=>True) (fun _ _ _ _ _ h _=>h) _ _ rfl rfl ?_;gi_wp2;refine⟨rfl,by kernel_rfl,?_,(fun i hi=>absurd hi (by simp)),?_⟩
  ·intro W hK;have d9:=hK.has (w:=w1.drew) q9;have dd:=hK.has (w:=w1.drew) d
   repeat' (refine Ao ?_ ?_)
   all_goals first|exact trivial|gi_wp2
  ·intro u W hK _;simp only[C9];have KW:Ab No w1 W:=(Ab.refl No w1).drew.then hK;have hW:=h1.no KW;have cd:=fun m=>iE m W K i hW hi hd (by have:=hO.CY.le i hi;rw[hO.CY.ho i hi];exact this) (by have:=hO.CY.nl;omega) (fun f hf=>hO.CY.eff hi hd hf)
   have FZ:(K.drop i).ps b=some r:=(by rw[((I9.refl K).drop i).ps];exact hb);gi_wp2_with (gi_at_call 155;refine(cd _).mono ?_;rintro e w2 ⟨rfl,h2,M2⟩;obtain⟨g2,c2,p9,I7,tg2,ag8⟩:=h2.WH FZ hn;have d2:=I7.JH rfl hg;have fz2:=I7.fz fd);have s3:=h2.xV (i:=fd) (x:=-1) FZ hn ag8 I7 tg2;have eT:(K.drop i).T=K.T:=((I9.refl K).drop i).T;have xz:Bw K.T (K.drop i).T w0 _:=((Bw.no (K1.then KW) h0.lt).trans (by rw[eT];exact M2)).trans s3.2;gi_wp2_with (first|(gi_at_call 152;refine(Cr _ _ 0 (by omega)).mono ?_;rintro e wz ⟨rfl,Kz⟩;obtain⟨w8,Ar,K8,b8⟩:=Af (x:=0) (y:=0) (f:=.nilFunc) (Kz.old (xz.old rb E8) id) rfl)|refine Ae rfl _ _ _ rfl rfl rfl Ar ?_);refine TR 0 0 (by simp[results,results148,go_sem,Dz b8]) rfl ?_;exact AV (K':=(K.drop i).Cg b { r with fds:=r.fds.set fd (-1) }) (x:=0) (y:=0) h.lt K0 BA ((xz).then Kz) ((s3.1).no Kz) K8 (by omega) (by omega) (.inl rfl) (J5) (Fb) Al (fun _=>by show b∈(K.drop i).AJ;rw[((I9.refl K).drop i).AJ];exact hm)
end
end Go.Fxa
