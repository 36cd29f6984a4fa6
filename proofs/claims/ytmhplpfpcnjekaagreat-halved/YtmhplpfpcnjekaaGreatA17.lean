/- A kernel of many -/
import Derived.Test.YtmhplpfpcnjekaaGreatA16
namespace Go.Fxa
open Conc Proofs RowKit Proofs.Tryz
set_option maxRecDepth 1000000
set_option maxHeartbeats 0
variable {K1:KS}{N j:Nat}
def tA (o:d_ Nat):n_:=b_ (o.getD 0:Nat)
def tB (o:d_ Nat):n_:=.bool o.isSome
theorem U9 (o:d_ Nat):UH o=.tuple #[tA o,tB o]:=by cases o<;>rfl
def bq1 (K:KS)(n:Nat)(w1:o_)(v:n_)(W:o_):Prop:=v=.tuple #[tA (Aq K.core n).1,tB (Aq K.core n).1]/\AY {K with core:=(Aq K.core n).2} W/\BQ K.T K.T w1 W
section
variable (m:Nat)(w:o_)
def mV (K:KS)(j:Nat):Prop:=∀i b q,i<j->K.Ar[i]?=some b->K.ps b=some q->q.co=-1
def QD (K:KS)(n:Nat):Nat->KS->Prop
 |0,K'=>K'=K
 |j+1,K'=>∃K1 b,QD K n j K1/\(Aq K1.core n).1=none/\K.Ar[j]?=some b/\XG b K1 K'
def lH (b:Nat)(K K':KS):Prop:=∃r,K.ps b=some r/\((r.co≠-1/\K'=K)\/(r.co=-1/\∃j Kj,QD K (Aj r.Af.length) j Kj/\(((Aq Kj.core (Aj r.Af.length)).1=none/\j=K.Ar.length/\K'={Kj with core:=(Aq Kj.core (Aj r.Af.length)).2})\/∃a:Nat,(Aq Kj.core (Aj r.Af.length)).1=some a/\K'=KS.Bj {Kj with core:=(Aq Kj.core (Aj r.Af.length)).2} b {r with co:=a})))
def Tv (K:KS)(w:o_)(b N:Nat)(r:PR)(o:d_ Nat)(j:Nat)(wr:o_):Prop:=∃K1,AY K1 wr/\BZ K K1/\BQ K.T K1.T w wr/\K1.ps b=some r/\Cb N (match o with|none=>(0,0)|some a=>(a,Aj r.Af.length)) K1/\(∀a,o=some a->a+Aj r.Af.length<=N/\1<=Aj r.Af.length)/\(o=none->(Aq K1.core (Aj r.Af.length)).1=none/\mV K1 j)/\Yp (∃Kj,QD K (Aj r.Af.length) j Kj/\o=(Aq Kj.core (Aj r.Af.length)).1/\K1={Kj with core:=(Aq Kj.core (Aj r.Af.length)).2})
theorem Tv.of {K:KS}{w wr W:o_}{b:Nat}{r:PR}(f:BZ K K1)(i:BQ K.T K1.T w wr)(hb:K1.ps b=some r)(hC:Cb N (0,0) K1)(d:AY {K1 with core:=(Aq K1.core (Aj r.Af.length)).2} W)(c:BQ K1.T K1.T wr W)(g:mV K1 j)(h:QD K (Aj r.Af.length) j K1):Tv K w b N r (Aq K1.core (Aj r.Af.length)).1 j W:=by
 have t:=hC.take (n:=Aj r.Af.length);refine⟨_,d,f.trans BZ.take,i.trans c,hb,?_,λa e=>(t.2 a e).2,λe=>⟨?_,g⟩,K1,h,rfl,rfl⟩
 .cases e:(Aq K1.core (Aj r.Af.length)).1 with
  |none=>exact t.1 e
  |some a=>exact(t.2 a e).1
 .show(Aq (Aq K1.core (Aj r.Af.length)).2 (Aj r.Af.length)).1=none;rw[(Jk hC.so).2.1 e,e]
theorem Tv.never {n:Nat}(hC:Cb N (0,0) K1)(g:(Aq K1.core n).1=none)(f:mV K1 j)(k:K1.Ar.length<=j)(d:16<=N)(c:1<=n)(h:n<=16):False:=by
 refine hC.room (λb hb r a=>?_) c wB g;obtain⟨i,hi,e⟩:=List.mem_iff_getElem.1 hb;exact f i b r wB (by rw[List.getElem?_eq_getElem hi,e]) a
def YN (N b:Nat)(r:PR)(K:KS):Prop:=16<=N->1<=Aj r.Af.length->∃q,K.ps b=some q/\q.co≠-1
theorem ZX (K:KS)(b N:Nat)(r:PR)(h:AY K w)(hT:K.ED)(hb:K.ps b=some r)(hm:b∈K.Ar)(hN:K.Ar.Nodup)(hC:Cb N (0,0) K)(hl:K.Ar.length<=100):
  (O_ m 53 #[Q_ K.kb,Q_ b] w λe w'=>e=.returned (.tuple #[])/\∃K',AY K' w'/\BZ K K'/\Cb N (0,0) K'/\BQ K.T K'.T w w'/\YN N b r K'/\lH b K K')/\∀u,CallsDIn NF m prog 53 #[Q_ K.kb,Q_ b] u w λe u' w'=>u'=u/\(e=.returned (.tuple #[])/\∃K',AY K' w'/\BZ K K'/\Cb N (0,0) K'/\BQ K.T K'.T w w'/\YN N b r K'/\lH b K K'):=by
 refine⟨?_,λu=>?_⟩
 all_goals
  have q:=h.Iu hb 11
  simp[PR.arr]at q
  have hP:=hC.pl b r hb
  have hle:=hC.le.2
  by_cases s:r.co=-1
  .rw[s]at q;obtain⟨a8,c8,q8⟩:=h.im8 hb
   first|gi_enter func53,ntmps53|gi_enter_d func53,ntmps53
   gi_wp2;have h0:AY K w.drew:=h.no (Aa.refl No w).drew;have bk:b≠K.kb:=λe=>by have:=(h.ps b r hb).t;rw[e,h.tk]at this;simp at this
   have bc:b≠K.cg:=λe=>by have:=(h.ps b r hb).t;rw[e,h.tc]at this;simp at this
   refine Dx (P:=prog) _ rfl rfl sU 10 57 [0,1,2,3,4] [5,6,7,8,9] sU (by rfl)
    (Oi (yQ K.kb K.cg) w.drew 5 (bq1 K (Aj r.Af.length) w.drew) [(6,.tuple #[tA (Aq K.core (Aj r.Af.length)).1,tB (Aq K.core (Aj r.Af.length)).1]),(7,tA (Aq K.core (Aj r.Af.length)).1),(8,tB (Aq K.core (Aj r.Af.length)).1),(9,tA (Aq K.core (Aj r.Af.length)).1)]) (Gj sJ sJ) _ _ rfl rfl ?_;gi_wp2_with (gi_at_call 58;refine(Fe _ w.drew b _ _ _ q8 wB).mono ?_;rintro e w1 ⟨rfl,rfl⟩);refine⟨rfl,sU,Et,?_,?_,?_⟩
   .intro O u W hI;have d8:=(hI.1.cell (w:=w.drew) (p:=(S_ b 8)) (h.plt hb) (by rintro(h|h)<;>contradiction)).trans q8
    repeat' (refine AA ?_ ?_)
    all_goals first|exact dE|gi_wp2_with (gi_at_call 58;refine(Fe _ W b _ _ _ d8 wB).mono ?_;rintro e w1 ⟨rfl,rfl⟩)
   .intro i hi O u W hI F y;obtain rfl|rfl|rfl|rfl|rfl:=(by simpa using hi:i=5\/i=6\/i=7\/i=8\/i=9)
    .obtain rfl:=hI.2.1 F;refine BI rfl λKK Ol=>?_
     show wpListIn NF m prog _ _ _ (Act.put (Act.put (Act.put (Act.put (Act.put _ (some 18) (u 5)) (some 12) (u 6)) (some 19) (u 7)) (some 20) (u 8)) (some 4) (u 9)) _;gi_wp2_with fail;refine(bn5 _ w.drew K (Aj r.Af.length) N h0 hC.fit wB (by unfold Aj;omega)).mono ?_;rintro e w1 ⟨rfl,f,J,j⟩;rw[U9];gi_wp2;exact⟨_,rfl,Gl hI sJ j ⟨rfl,f,J⟩⟩
    .have v:=(hI.2.2.1 (y 5 sJ sN)).1;exact mg rfl rfl rfl ⟨_,rfl,FY hI sN v sJ⟩
    .have g:=hI.2.2.2 (6,.tuple #[tA (Aq K.core (Aj r.Af.length)).1,tB (Aq K.core (Aj r.Af.length)).1]) sJ (y 6 sJ sN);exact Tj rfl rfl rfl g rfl ⟨_,rfl,Gs hI sN sJ⟩
    .have g:=hI.2.2.2 (6,.tuple #[tA (Aq K.core (Aj r.Af.length)).1,tB (Aq K.core (Aj r.Af.length)).1]) sJ (y 6 sJ sN);exact Tj rfl rfl rfl g rfl ⟨_,rfl,Gs hI sN sJ⟩
    .have n:=hI.2.2.2 (7,tA (Aq K.core (Aj r.Af.length)).1) sJ (y 7 sJ sN);exact mi rfl rfl rfl ⟨_,rfl,FY hI sN n sJ⟩
   .intro O u W hI hL;obtain⟨v,f,J⟩:=hI.2.2.1 (hL 5 sJ);have B:=hI.2.2.2 (8,tB (Aq K.core (Aj r.Af.length)).1) sJ (hL 8 sJ);have C:=hI.2.2.2 (9,tA (Aq K.core (Aj r.Af.length)).1) sJ (hL 9 sJ);have g:=hI.2.2.2 (6,.tuple #[tA (Aq K.core (Aj r.Af.length)).1,tB (Aq K.core (Aj r.Af.length)).1]) sJ (hL 6 sJ);have n:=hI.2.2.2 (7,tA (Aq K.core (Aj r.Af.length)).1) sJ (hL 7 sJ);simp only at g n B C;show wpListIn NF m prog _ _ _ (Act.put (Act.put (Act.put (Act.put (Act.put _ (some 18) (u 5)) (some 12) (u 6)) (some 19) (u 7)) (some 20) (u 8)) (some 4) (u 9)) _;rw[v,g,n,B,C];have s0:Tv K w b N r (Aq K.core (Aj r.Af.length)).1 0 W:=Tv.of (BZ.refl K) (BQ.no (Aa.refl No w).drew h.lt) hb hC f J (λi _ _ hi=>qx hi wB) rfl;clear hI v g n B C f J hL;generalize (Aq K.core (Aj r.Af.length)).1=o at s0;gi_wp2;gi_loopw [4,5,6] (λa5 a6 i wr=>∃(o:d_ Nat) (k:Nat),a5=tA o/\a6=tB o/\i=b_ k/\k<=K.Ar.length/\Tv K w b N r o k wr) (λ_ _ i _=>K.Ar.length-(intOf i).toNat)
    case atStart=>exact⟨o,0,rfl,rfl,rfl,wB,s0⟩
    case round=>
     obtain⟨o,k,rfl,rfl,rfl,hk,j,f,G,hv,z,l,ho,hz,hX⟩:=hrel
     have q2:=f.kc2
     have D:j.kb=K.kb:=G.kb
     have L:j.Ar=K.Ar:=G.Ar
     rw[D,L]at q2
     have c11:=f.Iu z 11
     simp[PR.arr,s]at c11
     have f11:=f.lF z 11
     cases o with
     |some a=>
      obtain⟨ha,I⟩:=ho a rfl
      simp only[tA,tB,Option.getD_some,Option.isSome_some]
      gi_wp2
      go_end0
      refine⟨sJ,j.Bj b {r with co:=a},f.GR (r':={r with co:=a}) z ⟨rfl,rfl,rfl,rfl,rfl⟩ rfl (f.ps b r z).bl,G.trans (BZ.set z a),?_,hv.trans (f.EG z),λ_ _=>⟨_,Ag,by show((a:Nat):Int)≠-1;omega⟩,r,hb,.inr ⟨s,?_⟩⟩
      rotate_left
      .obtain⟨A,x1,Y,Z⟩:=hX.out;exact⟨k,A,x1,.inr ⟨a,Y.symm,by rw[Z]⟩⟩
      exact Cb.in l z (by rw[L];exact hm) (by rw[L];exact hN) s rfl I ha
     |none=>
      have l:Cb N (0,0) j:=l
      obtain⟨V,X⟩:=hz rfl
      simp only[tA,tB,Option.getD_none,Option.isSome_none]
      by_cases BL:k<K.Ar.length
      .have hg:K.Ar[k]?=some K.Ar[k]:=JM BL;generalize K.Ar[k]=b' at hg;have x:j.Ar[k]?=some b':=(by rw[L];exact hg);obtain⟨r',G9⟩:=AY.mem (G.there hT) x;have d0:=f.mf x;simp only[ptr]at d0;have ct:=λm=>RP m wr j b' N (0,0) r' f G9 (t_ x) (by rw[L];exact hN) l
       rw[D]at ct;gi_wp2_with (gi_at_call 52;refine(ct _).mono ?_;rintro e w2 ⟨rfl,d,E,H,Q,hv2,hbk,XU,R⟩);have hz3:mV d (k+1):=λi c q hi S hq=>by
        rw[H.Ar]at S
        by_cases e:i=k
        .subst e;rw[x]at S;cases S;rw[hbk]at hq;cases hq;rfl
        .obtain⟨q1,U⟩:=AY.mem (G.there hT) S;have:=X i c q1 wB S U;rw[XU c q1 U this]at hq;cases hq;exact this
       have M:=XU b r z s;have hSk:QD K (Aj r.Af.length) (k+1) d:=by
        obtain⟨A,x1,Y,Z⟩:=hX.out
        have e0:(Aq A.core (Aj r.Af.length)).2=A.core:=Zv Y.symm
        have e1:j=A:=by rw[Z,e0]
        exact⟨j,b',by rw[e1];exact x1,V,hg,R⟩
       clear hX R;have sV:d.kb=K.kb:=H.kb.trans D;obtain⟨b8,c8',p8⟩:=E.im8 M;have h20:AY d w2.drew:=E.no (Aa.refl No w2).drew;have bk2:b≠d.kb:=λe=>by have:=(E.ps b r M).t;rw[e,E.tk]at this;simp at this
       have bc2:b≠d.cg:=λe=>by have:=(E.ps b r M).t;rw[e,E.tc]at this;simp at this
       refine Dx (P:=prog) _ rfl rfl sU 10 57 [0,1,2,3,4] [5,6,7,8,9] sU (by rfl)
        (Oi (yQ d.kb d.cg) w2.drew 5 (bq1 d (Aj r.Af.length) w2.drew) [(6,.tuple #[tA (Aq d.core (Aj r.Af.length)).1,tB (Aq d.core (Aj r.Af.length)).1]),(7,tA (Aq d.core (Aj r.Af.length)).1),(8,tB (Aq d.core (Aj r.Af.length)).1),(9,tA (Aq d.core (Aj r.Af.length)).1)]) (Gj sJ sJ) _ _ rfl rfl ?_;gi_wp2_with (gi_at_call 58;refine(Fe _ w2.drew b _ _ _ p8 wB).mono ?_;rintro e w1 ⟨rfl,rfl⟩);refine⟨rfl,sU,Et,?_,?_,?_⟩
       .intro O u W hI;have d8:=(hI.1.cell (w:=w2.drew) (p:=(S_ b 8)) (E.plt M) (by rintro(h|h)<;>contradiction)).trans p8
        repeat' (refine AA ?_ ?_)
        all_goals first|exact dE|gi_wp2_with (gi_at_call 58;refine(Fe _ W b _ _ _ d8 wB).mono ?_;rintro e w1 ⟨rfl,rfl⟩)
       .intro i hi O u W hI F y;obtain rfl|rfl|rfl|rfl|rfl:=(by simpa using hi:i=5\/i=6\/i=7\/i=8\/i=9)
        .obtain rfl:=hI.2.1 F;refine BI rfl λKK Ol=>?_
         show wpListIn NF m prog _ _ _ (Act.put (Act.put (Act.put (Act.put (Act.put _ (some 49) (u 5)) (some 43) (u 6)) (some 50) (u 7)) (some 51) (u 8)) (some 4) (u 9)) _;have tk:=λm=>bn5 m w2.drew d (Aj r.Af.length) N h20 Q.fit wB (by unfold Aj;omega)
         rw[sV]at tk;gi_wp2_with fail;refine(tk _).mono ?_;rintro e w1 ⟨rfl,f,J,j⟩;rw[<-sV]at f j;rw[U9];gi_wp2;exact⟨_,rfl,Gl hI sJ j ⟨rfl,f,J⟩⟩
        .have v:=(hI.2.2.1 (y 5 sJ sN)).1;exact mg rfl rfl rfl ⟨_,rfl,FY hI sN v sJ⟩
        .have g:=hI.2.2.2 (6,.tuple #[tA (Aq d.core (Aj r.Af.length)).1,tB (Aq d.core (Aj r.Af.length)).1]) sJ (y 6 sJ sN);exact Tj rfl rfl rfl g rfl ⟨_,rfl,Gs hI sN sJ⟩
        .have g:=hI.2.2.2 (6,.tuple #[tA (Aq d.core (Aj r.Af.length)).1,tB (Aq d.core (Aj r.Af.length)).1]) sJ (y 6 sJ sN);exact Tj rfl rfl rfl g rfl ⟨_,rfl,Gs hI sN sJ⟩
        .have n:=hI.2.2.2 (7,tA (Aq d.core (Aj r.Af.length)).1) sJ (y 7 sJ sN);exact mi rfl rfl rfl ⟨_,rfl,FY hI sN n sJ⟩
       .intro O u W hI hL;obtain⟨v,h3,M3⟩:=hI.2.2.1 (hL 5 sJ);have B:=hI.2.2.2 (8,tB (Aq d.core (Aj r.Af.length)).1) sJ (hL 8 sJ);have C:=hI.2.2.2 (9,tA (Aq d.core (Aj r.Af.length)).1) sJ (hL 9 sJ);have g:=hI.2.2.2 (6,.tuple #[tA (Aq d.core (Aj r.Af.length)).1,tB (Aq d.core (Aj r.Af.length)).1]) sJ (hL 6 sJ);have n:=hI.2.2.2 (7,tA (Aq d.core (Aj r.Af.length)).1) sJ (hL 7 sJ);simp only at g n B C;show wpListIn NF m prog _ _ _ (Act.put (Act.put (Act.put (Act.put (Act.put _ (some 49) (u 5)) (some 43) (u 6)) (some 50) (u 7)) (some 51) (u 8)) (some 4) (u 9)) _;rw[v,g,n,B,C];have s1:Tv K w b N r (Aq d.core (Aj r.Af.length)).1 (k+1) W:=Tv.of (G.trans H) ((hv.trans hv2).then (Aa.refl No w2).drew) M Q h3 M3 hz3 hSk;clear hI v g n B C h3 M3 hL;generalize (Aq d.core (Aj r.Af.length)).1=o at s1;gi_wp2;go_roundw
        case rel=>exact⟨o,k+1,rfl,rfl,by go_num,wB,s1⟩
        case measure=>simp[intOf];omega
      .have hlt':¬(k:Int)<(K.Ar.length:Int):=wB;gi_wp2;go_end0;exact⟨sJ,j,f,G,l,hv,λh16 I=>(Tv.never l V X (by rw[L];omega) h16 I (by unfold Aj;omega)).elim,r,hb,.inr ⟨s,by
        obtain⟨A,x1,Y,Z⟩:=hX.out
        exact⟨k,A,x1,.inl ⟨Y.symm,wB,Z⟩⟩⟩⟩
  .have CX:(r.co !=-1)=true:=by simpa using s
   first|gi_enter func53,ntmps53|gi_enter_d func53,ntmps53
   gi_wp2;refine bodyPost_ret (results_none rfl _ _ _) rfl ?_;exact⟨sJ,K,h,BZ.refl K,hC,BQ.no (Aa.refl _ _) h.lt,λ_ _=>⟨r,hb,s⟩,r,hb,.inl ⟨s,rfl⟩⟩
theorem gV (K:KS)(b N:Nat)(r:PR)(h:AY K w)(hT:K.ED)(hb:K.ps b=some r)(c:b∈K.Ar)(hN:K.Ar.Nodup)(hC:Cb N (0,0) K)(a:K.Ar.length<=100):
  O_ m 53 #[Q_ K.kb,Q_ b] w λe w'=>e=.returned (.tuple #[])/\∃K',AY K' w'/\BZ K K'/\Cb N (0,0) K'/\BQ K.T K'.T w w'/\YN N b r K'/\lH b K K':=(ZX m w K b N r h hT hb c hN hC a).1
end
def rP (K:KS)(pid s:Int):Prop:=(s=2/\∀b∈K.Ar,∀r,K.ps b=some r->(r.pid:Int)≠pid)\/∃b r,b∈K.Ar/\K.ps b=some r/\(r.pid:Int)=pid/\r.en=true/\s=3
def LyB (K:KS)(pid:Int)(b:Nat)(r:PR):Prop:=b∈K.Ar/\K.ps b=some r/\(r.pid:Int)=pid/\r.en=false
section
variable (m:Nat)(w:o_)
theorem bk4 (K:KS)(pid:Int)(h:AY K w)(hT:K.ED)(g:K.Ar.length<=100):O_ m 54 #[Q_ K.kb,b_ pid] w λe w'=>((∃b r,e=.returned (Q_ b)/\b∈K.Ar/\K.ps b=some r/\(r.pid:Int)=pid/\w'.cell? (S_ b 2)=some (.bool r.en))\/(e=.returned (.pointer none)/\∀b∈K.Ar,∀r,K.ps b=some r->(r.pid:Int)≠pid))/\Aa No w w':=by
 refine(TQ m w K pid h hT g).mono ?_;rintro e w' ⟨a,v,rfl,⟨b,r,rfl,c,hb,d⟩|⟨rfl,f⟩⟩
 .have q:=(h.no a).Iu hb 2;simp[PR.arr]at q;exact⟨.inl ⟨b,r,rfl,c,hb,d,q⟩,a⟩
 .exact⟨.inr ⟨rfl,f⟩,a⟩
theorem UT (K:KS)(pid:Int)(h:AY K w)(hT:K.ED)(g:K.Ar.length<=100):
  O_ m 51 #[Q_ K.kb,b_ pid] w λe w'=>Aa No w w'/\((∃s:Int,e=.returned (.tuple #[.pointer none,b_ s])/\(s !=0)=true/\rP K pid s)\/∃b r,e=.returned (.tuple #[Q_ b,b_ 0])/\LyB K pid b r):=by
 have c:=λm=>bk4 m w K pid h hT g
 gi_enter func51,ntmps51;gi_wp2_with (gi_at_call 54;refine(c _).mono ?_;rintro e w1 ⟨⟨b,r,rfl,f,hb,a,d2⟩|⟨rfl,a⟩,d⟩<;>have a:=Nonempty.intro (PLift.up a)<;>try (cases hn:r.en<;>rw[hn]at d2))
 .go_ret2;obtain⟨⟨a⟩⟩:=a;exact⟨d,.inr ⟨b,r,sJ,f,hb,a,hn⟩⟩
 .go_ret2;obtain⟨⟨a⟩⟩:=a;exact⟨d,.inl ⟨3,sJ,sN,.inr ⟨b,r,f,hb,a,hn,rfl⟩⟩⟩
 .go_ret2;obtain⟨⟨a⟩⟩:=a;exact⟨d,.inl ⟨2,sJ,sN,.inl ⟨rfl,a⟩⟩⟩
theorem ag2 (K:KS)(N:Nat)(pid:Int)(h:AY K w)(hT:K.ED)(hN:K.Ar.Nodup)(hC:Cb N (0,0) K)(n:K.Ar.length<=100):
  O_ m 17 #[Q_ K.kb,b_ pid] w λe w'=>∃s:Int,e=.returned (b_ s)/\∃K',AY K' w'/\BZ K K'/\Cb N (0,0) K'/\BQ K.T K'.T w w'/\((rP K pid s/\K'=K)\/(s=0/\∃b r,LyB K pid b r/\(∃q,K'.ps b=some q/\q.co=-1)/\XG b K K')):=by
 have c:=λm=>UT m w K pid h hT n
 gi_enter func17,ntmps17;gi_wp2_with (gi_at_call 51;refine(c _).mono ?_;rintro e w1 ⟨d,⟨s,rfl,l,a⟩|⟨b,r,rfl,a⟩⟩<;>try have g:=λm=>RP m w1 K b N (0,0) r (h.no d) a.2.1 a.1 hN hC)
 .go_ret;exact⟨s,sJ,K,h.no d,BZ.refl K,hC,BQ.no d h.lt,.inl ⟨a,rfl⟩⟩
 .gi_wp2_with (gi_at_call 52;refine(g _).mono ?_;rintro e w2 ⟨rfl,K',i,j,f,k,hq,_,hX⟩);go_ret;exact⟨0,sJ,K',i,j,f,(BQ.no d h.lt).trans k,.inr ⟨rfl,b,r,a,⟨_,hq,rfl⟩,hX⟩⟩
theorem br2 (K:KS)(N:Nat)(pid:Int)(h:AY K w)(hT:K.ED)(hN:K.Ar.Nodup)(hC:Cb N (0,0) K)(n:K.Ar.length<=100):
  O_ m 18 #[Q_ K.kb,b_ pid] w λe w'=>∃s:Int,e=.returned (b_ s)/\∃K',AY K' w'/\BZ K K'/\Cb N (0,0) K'/\BQ K.T K'.T w w'/\((rP K pid s/\K'=K)\/(s=0/\∃b r,LyB K pid b r/\YN N b r K'/\lH b K K')):=by
 have c:=λm=>UT m w K pid h hT n
 gi_enter func18,ntmps18;gi_wp2_with (gi_at_call 51;refine(c _).mono ?_;rintro e w1 ⟨d,⟨s,rfl,l,a⟩|⟨b,r,rfl,a⟩⟩<;>try have g:=λm=>gV m w1 K b N r (h.no d) hT a.2.1 a.1 hN hC n)
 .go_ret;exact⟨s,sJ,K,h.no d,BZ.refl K,hC,BQ.no d h.lt,.inl ⟨a,rfl⟩⟩
 .gi_wp2_with (gi_at_call 53;refine(g _).mono ?_;rintro e w2 ⟨rfl,K',i,j,f,k,hq⟩);go_ret;exact⟨0,sJ,K',i,j,f,(BQ.no d h.lt).trans k,.inr ⟨rfl,b,r,a,hq⟩⟩
end
end Go.Fxa
