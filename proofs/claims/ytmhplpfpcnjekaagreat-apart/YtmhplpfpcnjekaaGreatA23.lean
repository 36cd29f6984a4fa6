/- A kernel of many processes: on -/
import Derived.Test.YtmhplpfpcnjekaaGreatA21
namespace Go.Fxa
open Conc Proofs RowKit Proofs.Tryz
set_option maxRecDepth 1000000
set_option maxHeartbeats 0
def tA (o:Option Nat):Value:=.int .i64 (o.getD 0:Nat)
def tB (o:Option Nat):Value:=.bool o.isSome
theorem Pq (o:Option Nat):J6 o=.tuple #[tA o,tB o]:=by cases o<;>rfl
def yz (K:KS) (n:Nat) (w1:World) (v:Value) (W:World):Prop:=v=.tuple #[tA (Aw K.core n).1,tB (Aw K.core n).1]/\AQ { K with core:=(Aw K.core n).2 } W/\Bw K.T K.T w1 W
section
variable (m:Nat) (w:World)
def RL (K:KS) (w:World) (b N:Nat) (r:PR) (o:Option Nat) (wr:World):Prop:=∃K1,AQ K1 wr/\Ci K K1/\Bw K.T K1.T w wr/\K1.ps b=some r/\Cc N (if o=none then 0 else Ap r.Ah.length) K1/\∀a,o=some a->a+Ap r.Ah.length<=N/\1<=Ap r.Ah.length
theorem RL.of {K K1:KS} {w wr W:World} {b N:Nat} {r:PR} (hM:Ci K K1) (hv:Bw K.T K1.T w wr) (hb:K1.ps b=some r) (hC:Cc N 0 K1) (h1:AQ { K1 with core:=(Aw K1.core (Ap r.Ah.length)).2 } W) (hv1:Bw K1.T K1.T wr W):RL K w b N r (Aw K1.core (Ap r.Ah.length)).1 W:=by
 have t:=hC.take (n:=Ap r.Ah.length);refine⟨_,h1,hM.trans Ci.take,hv.trans hv1,hb,?_,fun a e=>(t.2 a e).2⟩;cases e:(Aw K1.core (Ap r.Ah.length)).1 with
 | none=>simpa using t.1 e
 | some a=>simpa using(t.2 a e).1
theorem Tu (K:KS) (b N:Nat) (r:PR) (h:AQ K w) (hT:K.DF) (hb:K.ps b=some r) (hm:b∈K.AJ) (hN:K.AJ.Nodup) (hC:Cc N 0 K) (hl:K.AJ.length<=100):
  (CallsIn NF m prog 53 #[R_ K.kb,R_ b] w fun e w'=>e=.returned (.tuple #[])/\∃K',AQ K' w'/\Ci K K'/\Cc N 0 K'/\Bw K.T K'.T w w')/\∀u,CallsDIn NF m prog 53 #[R_ K.kb,R_ b] u w fun e u' w'=>u'=u/\(e=.returned (.tuple #[])/\∃K',AQ K' w'/\Ci K K'/\Cc N 0 K'/\Bw K.T K'.T w w'):=by
 refine⟨?_,fun u=>?_⟩
 all_goals
  have q:=h.FH hb 11
  simp[PR.arr]at q
  have hP:=hC.pl b r hb
  have hle:=hC.le
  by_cases GA:r.co=-1
  ·rw[GA]at q;obtain⟨a8,c8,q8⟩:=h.im8 hb
   first|gi_enter func53,ntmps53|gi_enter_d func53,ntmps53
   gi_wp2;have h0:AQ K w.drew:=h.no (Ab.refl No w).drew;have bk:b≠K.kb:=fun e=>by have:=(h.ps b r hb).t;rw[e,h.tk]at this;simp at this
   have bc:b≠K.cg:=fun e=>by have:=(h.ps b r hb).t;rw[e,h.tc]at this;simp at this
   refine BZ (P:=prog) _ rfl rfl (by kernel_rfl) 10 57 [0,1,2,3,4] [5,6,7,8,9] (by kernel_rfl) (by rfl)
    (J2 (TM K.kb K.cg) w.drew 5 (yz K (Ap r.Ah.length) w.drew) [(6,.tuple #[tA (Aw K.core (Ap r.Ah.length)).1,tB (Aw K.core (Ap r.Ah.length)).1]),(7,tA (Aw K.core (Ap r.Ah.length)).1),(8,tB (Aw K.core (Ap r.Ah.length)).1),(9,tA (Aw K.core (Ap r.Ah.length)).1)]) (EF (by simp) (by simp)) _ _ rfl rfl ?_;gi_wp2_with (gi_at_call 58;refine(El _ w.drew b _ _ _ q8 (by omega)).mono ?_;rintro e w1 ⟨rfl,rfl⟩);refine⟨rfl,by kernel_rfl,Dg,?_,?_,?_⟩
   ·intro L' u W hI;have d8:=(hI.1.cell (w:=w.drew) (p:=(T_ b 8)) (h.plt hb) (by rintro(h|h)<;>contradiction)).trans q8
    repeat' (refine Ao ?_ ?_)
    all_goals first|exact trivial|gi_wp2_with (gi_at_call 58;refine(El _ W b _ _ _ d8 (by omega)).mono ?_;rintro e w1 ⟨rfl,rfl⟩)
   ·intro i hi L' u W hI Nf hu;rcases(by simpa using hi:i=5\/i=6\/i=7\/i=8\/i=9)with rfl|rfl|rfl|rfl|rfl
    ·obtain rfl:=hI.2.1 Nf;refine Bh rfl fun KK Ko=>?_
     show wpListIn NF m prog _ _ _ (Act.put (Act.put (Act.put (Act.put (Act.put _ (some 18) (u 5)) (some 12) (u 6)) (some 19) (u 7)) (some 20) (u 8)) (some 4) (u 9)) _;gi_wp2_with fail;refine(xP _ w.drew K (Ap r.Ah.length) N h0 hC.fit (by omega) (by unfold Ap;omega)).mono ?_;rintro e w1 ⟨rfl,h1,M1,K1⟩;rw[Pq];gi_wp2;exact⟨_,rfl,EG hI (by simp) K1 ⟨rfl,h1,M1⟩⟩
    ·have e5:=(hI.2.2.1 (hu 5 (by simp) (by decide))).1;exact Xe rfl rfl rfl ⟨_,rfl,Es hI (by decide) e5 (by simp)⟩
    ·have e6:=hI.2.2.2 (6,.tuple #[tA (Aw K.core (Ap r.Ah.length)).1,tB (Aw K.core (Ap r.Ah.length)).1]) (by simp) (hu 6 (by simp) (by decide));exact NV rfl rfl rfl e6 rfl ⟨_,rfl,EK hI (by decide) (by simp)⟩
    ·have e6:=hI.2.2.2 (6,.tuple #[tA (Aw K.core (Ap r.Ah.length)).1,tB (Aw K.core (Ap r.Ah.length)).1]) (by simp) (hu 6 (by simp) (by decide));exact NV rfl rfl rfl e6 rfl ⟨_,rfl,EK hI (by decide) (by simp)⟩
    ·have e7:=hI.2.2.2 (7,tA (Aw K.core (Ap r.Ah.length)).1) (by simp) (hu 7 (by simp) (by decide));exact Xf rfl rfl rfl ⟨_,rfl,Es hI (by decide) e7 (by simp)⟩
   ·intro L' u W hI hL;obtain⟨e5,h1,M1⟩:=hI.2.2.1 (hL 5 (by simp));have e8:=hI.2.2.2 (8,tB (Aw K.core (Ap r.Ah.length)).1) (by simp) (hL 8 (by simp));have e9:=hI.2.2.2 (9,tA (Aw K.core (Ap r.Ah.length)).1) (by simp) (hL 9 (by simp));have e6:=hI.2.2.2 (6,.tuple #[tA (Aw K.core (Ap r.Ah.length)).1,tB (Aw K.core (Ap r.Ah.length)).1]) (by simp) (hL 6 (by simp));have e7:=hI.2.2.2 (7,tA (Aw K.core (Ap r.Ah.length)).1) (by simp) (hL 7 (by simp));simp only at e6 e7 e8 e9;show wpListIn NF m prog _ _ _ (Act.put (Act.put (Act.put (Act.put (Act.put _ (some 18) (u 5)) (some 12) (u 6)) (some 19) (u 7)) (some 20) (u 8)) (some 4) (u 9)) _;rw[e5,e6,e7,e8,e9];have s0:RL K w b N r (Aw K.core (Ap r.Ah.length)).1 W:=RL.of (Ci.refl K) (Bw.no (Ab.refl No w).drew h.lt) hb hC h1 M1;clear hI e5 e6 e7 e8 e9 h1 M1 hL;generalize (Aw K.core (Ap r.Ah.length)).1=o at s0;gi_wp2;gi_loopw [4,5,6] (fun a5 a6 i wr=>∃(o:Option Nat) (k:Nat),a5=tA o/\a6=tB o/\i=.int .i64 k/\k<=K.AJ.length/\RL K w b N r o wr) (fun _ _ i _=>K.AJ.length-(intOf i).toNat)
    case atStart=>exact⟨o,0,rfl,rfl,rfl,by omega,s0⟩
    case round=>
     obtain⟨o,k,rfl,rfl,rfl,hk,K1,h1,hM,hv,Jv,xG,ho⟩:=hrel
     have q2:=h1.xy
     have lX:K1.kb=K.kb:=hM.kb
     have Zx:K1.AJ=K.AJ:=hM.AJ
     rw[lX,Zx]at q2
     have c11:=h1.FH Jv 11
     simp[PR.arr,GA]at c11
     have f11:=h1.WA Jv 11
     cases o with
     | some a=>
      obtain⟨ha,hn1⟩:=ho a rfl
      simp only[tA,tB,Option.getD_some,Option.isSome_some]
      gi_wp2
      go_end0
      refine⟨by simp,K1.Cg b { r with co:=a },h1.like (r':={ r with co:=a }) Jv ⟨rfl,rfl,rfl,rfl,rfl⟩ rfl (h1.ps b r Jv).bl,hM.trans (Ci.set Jv a),?_,hv.trans (h1.C8 Jv)⟩
      exact Cc.in (by simpa using xG) Jv (by rw[Zx];exact hm) (by rw[Zx];exact hN) GA rfl hn1 ha
     | none=>
      simp only[if_true]at xG
      simp only[tA,tB,Option.getD_none,Option.isSome_none]
      by_cases BC:k<K.AJ.length
      ·have hg:K.AJ[k]?=some K.AJ[k]:=HZ BC;generalize K.AJ[k]=b' at hg;have hg1:K1.AJ[k]?=some b':=(by rw[Zx];exact hg);obtain⟨r',FW⟩:=AQ.mem (hM.there hT) hg1;have d0:=h1.Xd hg1;simp only[ptr]at d0;have ct:=fun m=>Nr m wr K1 b' N 0 r' h1 FW (List.mem_of_getElem? hg1) (by rw[Zx];exact hN) xG
       rw[lX]at ct;gi_wp2_with (gi_at_call 52;refine(ct _).mono ?_;rintro e w2 ⟨rfl,K2,h2,hM2,hC2,hv2,_,Kn⟩);have FZ:=Kn b r Jv GA;have Zy:K2.kb=K.kb:=hM2.kb.trans lX;obtain⟨b8,xJ,p8⟩:=h2.im8 FZ;have h20:AQ K2 w2.drew:=h2.no (Ab.refl No w2).drew;have bk2:b≠K2.kb:=fun e=>by have:=(h2.ps b r FZ).t;rw[e,h2.tk]at this;simp at this
       have bc2:b≠K2.cg:=fun e=>by have:=(h2.ps b r FZ).t;rw[e,h2.tc]at this;simp at this
       refine BZ (P:=prog) _ rfl rfl (by kernel_rfl) 10 57 [0,1,2,3,4] [5,6,7,8,9] (by kernel_rfl) (by rfl)
        (J2 (TM K2.kb K2.cg) w2.drew 5 (yz K2 (Ap r.Ah.length) w2.drew) [(6,.tuple #[tA (Aw K2.core (Ap r.Ah.length)).1,tB (Aw K2.core (Ap r.Ah.length)).1]),(7,tA (Aw K2.core (Ap r.Ah.length)).1),(8,tB (Aw K2.core (Ap r.Ah.length)).1),(9,tA (Aw K2.core (Ap r.Ah.length)).1)]) (EF (by simp) (by simp)) _ _ rfl rfl ?_;gi_wp2_with (gi_at_call 58;refine(El _ w2.drew b _ _ _ p8 (by omega)).mono ?_;rintro e w1 ⟨rfl,rfl⟩);refine⟨rfl,by kernel_rfl,Dg,?_,?_,?_⟩
       ·intro L' u W hI;have d8:=(hI.1.cell (w:=w2.drew) (p:=(T_ b 8)) (h2.plt FZ) (by rintro(h|h)<;>contradiction)).trans p8
        repeat' (refine Ao ?_ ?_)
        all_goals first|exact trivial|gi_wp2_with (gi_at_call 58;refine(El _ W b _ _ _ d8 (by omega)).mono ?_;rintro e w1 ⟨rfl,rfl⟩)
       ·intro i hi L' u W hI Nf hu;rcases(by simpa using hi:i=5\/i=6\/i=7\/i=8\/i=9)with rfl|rfl|rfl|rfl|rfl
        ·obtain rfl:=hI.2.1 Nf;refine Bh rfl fun KK Ko=>?_
         show wpListIn NF m prog _ _ _ (Act.put (Act.put (Act.put (Act.put (Act.put _ (some 49) (u 5)) (some 43) (u 6)) (some 50) (u 7)) (some 51) (u 8)) (some 4) (u 9)) _;have tk:=fun m=>xP m w2.drew K2 (Ap r.Ah.length) N h20 hC2.fit (by omega) (by unfold Ap;omega)
         rw[Zy]at tk;gi_wp2_with fail;refine(tk _).mono ?_;rintro e w1 ⟨rfl,h1,M1,K1⟩;rw[<-Zy]at h1 K1;rw[Pq];gi_wp2;exact⟨_,rfl,EG hI (by simp) K1 ⟨rfl,h1,M1⟩⟩
        ·have e5:=(hI.2.2.1 (hu 5 (by simp) (by decide))).1;exact Xe rfl rfl rfl ⟨_,rfl,Es hI (by decide) e5 (by simp)⟩
        ·have e6:=hI.2.2.2 (6,.tuple #[tA (Aw K2.core (Ap r.Ah.length)).1,tB (Aw K2.core (Ap r.Ah.length)).1]) (by simp) (hu 6 (by simp) (by decide));exact NV rfl rfl rfl e6 rfl ⟨_,rfl,EK hI (by decide) (by simp)⟩
        ·have e6:=hI.2.2.2 (6,.tuple #[tA (Aw K2.core (Ap r.Ah.length)).1,tB (Aw K2.core (Ap r.Ah.length)).1]) (by simp) (hu 6 (by simp) (by decide));exact NV rfl rfl rfl e6 rfl ⟨_,rfl,EK hI (by decide) (by simp)⟩
        ·have e7:=hI.2.2.2 (7,tA (Aw K2.core (Ap r.Ah.length)).1) (by simp) (hu 7 (by simp) (by decide));exact Xf rfl rfl rfl ⟨_,rfl,Es hI (by decide) e7 (by simp)⟩
       ·intro L' u W hI hL;obtain⟨e5,h3,M3⟩:=hI.2.2.1 (hL 5 (by simp));have e8:=hI.2.2.2 (8,tB (Aw K2.core (Ap r.Ah.length)).1) (by simp) (hL 8 (by simp));have e9:=hI.2.2.2 (9,tA (Aw K2.core (Ap r.Ah.length)).1) (by simp) (hL 9 (by simp));have e6:=hI.2.2.2 (6,.tuple #[tA (Aw K2.core (Ap r.Ah.length)).1,tB (Aw K2.core (Ap r.Ah.length)).1]) (by simp) (hL 6 (by simp));have e7:=hI.2.2.2 (7,tA (Aw K2.core (Ap r.Ah.length)).1) (by simp) (hL 7 (by simp));simp only at e6 e7 e8 e9;show wpListIn NF m prog _ _ _ (Act.put (Act.put (Act.put (Act.put (Act.put _ (some 49) (u 5)) (some 43) (u 6)) (some 50) (u 7)) (some 51) (u 8)) (some 4) (u 9)) _;rw[e5,e6,e7,e8,e9];have s1:RL K w b N r (Aw K2.core (Ap r.Ah.length)).1 W:=RL.of (hM.trans hM2) ((hv.trans hv2).then (Ab.refl No w2).drew) FZ hC2 h3 M3;clear hI e5 e6 e7 e8 e9 h3 M3 hL;generalize (Aw K2.core (Ap r.Ah.length)).1=o at s1;gi_wp2;go_roundw
        case rel=>exact⟨o,k+1,rfl,rfl,by go_num,by omega,s1⟩
        case measure=>simp[intOf];omega
      ·have hlt':¬(k:Int)<(K.AJ.length:Int):=(by omega);gi_wp2;go_end0;exact⟨by simp,K1,h1,hM,xG,hv⟩
  ·have BN:(r.co !=-1)=true:=by simpa using GA
   first|gi_enter func53,ntmps53|gi_enter_d func53,ntmps53
   gi_wp2;refine bodyPost_ret (results_none rfl _ _ _) rfl ?_;exact⟨by simp,K,h,Ci.refl K,hC,Bw.no (Ab.refl _ _) h.lt⟩
theorem Vh (K:KS) (b N:Nat) (r:PR) (h:AQ K w) (hT:K.DF) (hb:K.ps b=some r) (hm:b∈K.AJ) (hN:K.AJ.Nodup) (hC:Cc N 0 K) (hl:K.AJ.length<=100):
  CallsIn NF m prog 53 #[R_ K.kb,R_ b] w fun e w'=>e=.returned (.tuple #[])/\∃K',AQ K' w'/\Ci K K'/\Cc N 0 K'/\Bw K.T K'.T w w':=(Tu m w K b N r h hT hb hm hN hC hl).1
end
section
variable (m:Nat) (w:World)
theorem vL (K:KS) (pid:Int) (h:AQ K w) (hT:K.DF) (hl:K.AJ.length<=100):CallsIn NF m prog 54 #[R_ K.kb,.int .i64 pid] w fun e w'=>((∃b r,e=.returned (R_ b)/\b∈K.AJ/\K.ps b=some r/\(r.pid:Int)=pid/\w'.cell? (T_ b 2)=some (.bool r.en))\/(e=.returned (.pointer none)/\∀b∈K.AJ,∀r,K.ps b=some r->(r.pid:Int)≠pid))/\Ab No w w':=by
 refine(Vw m w K pid h hT hl).mono ?_;rintro e w' ⟨hK,v,rfl,⟨b,r,rfl,hm,hb,hp⟩|⟨rfl,hv⟩⟩
 ·have q:=(h.no hK).FH hb 2;simp[PR.arr]at q;exact⟨.inl ⟨b,r,rfl,hm,hb,hp,q⟩,hK⟩
 ·exact⟨.inr ⟨rfl,hv⟩,hK⟩
theorem iy (K:KS) (pid:Int) (h:AQ K w) (hT:K.DF) (hl:K.AJ.length<=100):
  CallsIn NF m prog 51 #[R_ K.kb,.int .i64 pid] w fun e w'=>Ab No w w'/\((∃s:Int,e=.returned (.tuple #[.pointer none,.int .i64 s])/\(s !=0)=true)\/∃b r,e=.returned (.tuple #[R_ b,.int .i64 0])/\b∈K.AJ/\K.ps b=some r/\r.en=false):=by
 have c:=fun m=>vL m w K pid h hT hl
 gi_enter func51,ntmps51;gi_wp2_with (gi_at_call 54;refine(c _).mono ?_;rintro e w1 ⟨⟨b,r,rfl,hm,hb,_,d2⟩|⟨rfl,_⟩,hK⟩<;>try (cases hn:r.en<;>rw[hn]at d2))
 ·go_ret2;exact⟨hK,.inr ⟨b,r,by simp,hm,hb,hn⟩⟩
 ·go_ret2;exact⟨hK,.inl ⟨3,by simp,by decide⟩⟩
 ·go_ret2;exact⟨hK,.inl ⟨2,by simp,by decide⟩⟩
theorem am6 (K:KS) (N:Nat) (pid:Int) (h:AQ K w) (hT:K.DF) (hN:K.AJ.Nodup) (hC:Cc N 0 K) (hl:K.AJ.length<=100):
  CallsIn NF m prog 17 #[R_ K.kb,.int .i64 pid] w fun e w'=>(∃s:Int,e=.returned (.int .i64 s))/\∃K',AQ K' w'/\Ci K K'/\Cc N 0 K'/\Bw K.T K'.T w w':=by
 have c:=fun m=>iy m w K pid h hT hl
 gi_enter func17,ntmps17;gi_wp2_with (gi_at_call 51;refine(c _).mono ?_;rintro e w1 ⟨hK,⟨s,rfl,hs⟩|⟨b,r,rfl,hm,hb,hn⟩⟩<;>try have c':=fun m=>Nr m w1 K b N 0 r (h.no hK) hb hm hN hC)
 ·go_ret;exact⟨⟨s,by simp⟩,K,h.no hK,Ci.refl K,hC,Bw.no hK h.lt⟩
 ·gi_wp2_with (gi_at_call 52;refine(c' _).mono ?_;rintro e w2 ⟨rfl,K',h2,hM,hC2,hv,_⟩);go_ret;exact⟨⟨0,by simp⟩,K',h2,hM,hC2,(Bw.no hK h.lt).trans hv⟩
theorem ay1 (K:KS) (N:Nat) (pid:Int) (h:AQ K w) (hT:K.DF) (hN:K.AJ.Nodup) (hC:Cc N 0 K) (hl:K.AJ.length<=100):
  CallsIn NF m prog 18 #[R_ K.kb,.int .i64 pid] w fun e w'=>(∃s:Int,e=.returned (.int .i64 s))/\∃K',AQ K' w'/\Ci K K'/\Cc N 0 K'/\Bw K.T K'.T w w':=by
 have c:=fun m=>iy m w K pid h hT hl
 gi_enter func18,ntmps18;gi_wp2_with (gi_at_call 51;refine(c _).mono ?_;rintro e w1 ⟨hK,⟨s,rfl,hs⟩|⟨b,r,rfl,hm,hb,hn⟩⟩<;>try have c':=fun m=>Vh m w1 K b N r (h.no hK) hT hb hm hN hC hl)
 ·go_ret;exact⟨⟨s,by simp⟩,K,h.no hK,Ci.refl K,hC,Bw.no hK h.lt⟩
 ·gi_wp2_with (gi_at_call 53;refine(c' _).mono ?_;rintro e w2 ⟨rfl,K',h2,hM,hC2,hv⟩);go_ret;exact⟨⟨0,by simp⟩,K',h2,hM,hC2,(Bw.no hK h.lt).trans hv⟩
end
section
variable (m:Nat) (w:World)
theorem eX (u:FrameMode) (K:KS) (b N:Nat) (r:PR) (h:AQ K w) (hT:K.DF) (hb:K.ps b=some r) (hm:b∈K.AJ) (hN:K.AJ.Nodup) (hC:Cc N 0 K) (hl:K.AJ.length<=100):
  CallsDIn NF m prog 53 #[R_ K.kb,R_ b] u w fun e u' w'=>u'=u/\(e=.returned (.tuple #[])/\∃K',AQ K' w'/\Ci K K'/\Cc N 0 K'/\Bw K.T K'.T w w'):=(Tu m w K b N r h hT hb hm hN hC hl).2 u
end
end Go.Fxa
