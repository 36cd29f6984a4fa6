/- The answer goes to the child; the rounds, whole. The rounds, whole. goOn, from its call to its return, beside leavers. All that is reckoned, at this program. Instructions and builtins: tame. -/
import Derived.Test.YtmhplpfpcnjekaaGreatK12
namespace Go.Fxa
open Go.Conc
open Go.ConcN (sumTo upd sumTo_upd upd_ne upd_same)
section
variable {P:Program} {L:FuncId→Prop} {p:Oper→Bool} {N:Fence} {m:Nat} {host:FuncId} {Z:Nat→Prop} {Shun:Loc→Prop} {s:Sit} {c:Nat} {kv:Value} {pa:Addr} {c0:Frame} {cs:List Frame}
theorem gOf_run (x:Frame×List Frame):(gOf x).status=.running:=rfl
theorem seat_of {x:Frame×List Frame} {told:Value} (K:KerFacts P) (hb:ae2 x=(56,todoK P,dsK s.r,.run,.normal,none,c0::cs)) (hc:ad0 x [0,1,7,8,25,27]=[kv,pv pa,told,pr s.r,chn s.q0,chn s.q2]) (hd:x.1.tmps.size=76):
  ∃f,Told f (slK kv pa told s.r s.q0 s.q2)∧gOf x=gK P s f (c0::cs)∧casesAt P x=some (cKer s.q0 s.q2):=by
 have e:=at_toldN (l:=slK kv pa told s.r s.q0 s.q2) hb hc hd
 refine⟨ups (slot x) (slK kv pa told s.r s.q0 s.q2),?_,?_,?_⟩
 ·intro q hq
  simp only[slK,List.mem_cons,List.not_mem_nil,or_false]at hq
  rcases hq with h|h|h|h|h|h<;>subst h<;>rfl
 ·exact congrArg gOf e
 ·have h1:=K.k1 (ups (slot x) (slK kv pa told s.r s.q0 s.q2)) (c0::cs) s.r s.q0 s.q2
  rw[show ups (ups (slot x) (slK kv pa told s.r s.q0 s.q2)) [(25,chn s.q0),(27,chn s.q2)]=ups (slot x) (slK kv pa told s.r s.q0 s.q2)from Told.eq fun q hq=>by
   simp only[List.mem_cons,List.not_mem_nil,or_false]at hq
   rcases hq with h|h<;>subst h<;>rfl]at h1
  rw[e]
  exact h1
theorem answer_phase {Od:Old} (A:AllFacts P) (W:Ways P L p N host) (M:Makes P N m) (E:Env Z Shun s c) (S:Story P N m kv pa s.n) {i:Int} {told x:Value} {bA:Nat} {f fc:Nat→Value} {gs:Array Goroutine} {w:World} {sl:Option (Nat×Nat)} {t:Trace}
  (H:Holds Od P Z Shun s.Still (MemOf c) (fun g=>g=c) 0 c (ByC P s c (gC P s fc i x)) (fun g v=>g=gOf (f56 (ups f (slF kv pa told s.r bA)) (c0::cs) (T16 P) (dsK s.r))∧S.E i told bA v) gs w t):
  ComesTo P gs w sl t fun gs' w' t'=>∃f' An,Told f' (slK kv pa told s.r s.q0 s.q2)∧Holds Od P Z Shun s.Still (MemOf c) (fun g=>g=0) c 0 (ByK P s c (gK P s f' (c0::cs))) (fun g v=>g=Conc.served (gC P s fc i x) (commResult (an1 s.q1 s.q3) .select 0 An true)∧S.An i told An v) gs' w' t':=by
 have O:=byC_ok (P:=P) (gC:=gC P s fc i x) E
 have hst:=under_still E.zOwn
 have hj:∀n b w t,ByC P s c (gC P s fc i x) n b w t→∀d,(fun _=>True:World→Prop) (w.at d):=fun _ _ _ _ _ _=>trivial
 have rd:∀{y:Frame×List Frame},ag1 P y (chn s.q1)=some ([⟨s.r,1,none⟩],chn s.q1)→RW P (0==0) s.KW s.Still 1 (gOf y) (gOf (did y (chn s.q1))):=fun h=>RW.at h (fun w h=>let ⟨_,_,hr⟩:=h.1;(run_cell hr).2.1) (readOk (s:=s)).t1
 have walk:∀{gs:Array Goroutine} {w:World} {sl:Option (Nat×Nat)} {t:Trace} {J:World→Prop} {k:Nat} {a a':Goroutine},Holds Od P Z Shun s.Still (MemOf c) (fun g=>g=c) 0 c (ByC P s c (gC P s fc i x)) (fun g v=>g=a∧J v) gs w t→RW P (0==0) s.KW s.Still k a a'→ComesTo P gs w sl t (Holds Od P Z Shun s.Still (MemOf c) (fun g=>g=c) 0 c (ByC P s c (gC P s fc i x)) (fun g v=>g=a'∧J v)):=
  fun H hw=>H.walk byC_k (fun w a h hs=>still_lt h hs) E.ss O hw
 refine(H.sil (sl:=sl) (K:=fun _=>True) hj O (sil_logs (A.ker.x18a _ _ _ _ _ _ _))).bind fun gs1 w1 sl1 t1 _ H1=>?_
 obtain⟨⟨s0,s1,s2⟩,H1⟩:=(H1.mono (C':=fun g v=>∃y:Value×Value×Value,g=gOf (x18 P kv pa told f (c0::cs) s.r bA)∧Cells v [⟨bA,0,none⟩,⟨bA,1,none⟩,⟨bA,2,none⟩] [y.1,y.2.1,y.2.2]∧S.An i told (.agg #[y.1,y.2.1,y.2.2]) v) fun g v ⟨hg,h⟩=>by
  obtain⟨s0,s1,s2,h1,h2⟩:=S.answer i told bA v h
  exact⟨(s0,s1,s2),hg,h1,h2⟩).pick
 refine(Holds.reads (sl:=sl1) E.under O (A.ker.x18b _ _ _ _ _ _ _ s0 s1 s2) (fun v h=>h.1) H1).bind fun gs2 w2 sl2 t2 _ H2=>?_
 refine(H2.sil (sl:=sl2) (K:=fun _=>True) hj O (sil_logs (A.ker.x19a _ _ _ _ _ _ _ _))).bind fun gs3 w3 sl3 t3 _ H3=>?_
 rw[show run P 2 (did (x18 P kv pa told f (c0::cs) s.r bA) (.agg #[s0,s1,s2]))=x19 P kv pa told f (c0::cs) s.r bA (.agg #[s0,s1,s2])from rfl,at_toldN (l:=[(0,pr s.r),(1,.agg #[s0,s1,s2])]) (A.ker.x19b _ _ _ _ _ _ _ _) (A.ker.x19c _ _ _ _ _ _ _ _) (A.ker.x19d _ _ _ _ _ _ _ _)]at H3
 refine(Holds.part (sl:=sl3) (Q:=fun tm w'=>∃g' bB,tm=TN 9 (ups g' (sl97 s.r (.agg #[s0,s1,s2]) bB))∧S.An i told (.agg #[s0,s1,s2]) w'∧Cells w' [⟨bB,0,none⟩,⟨bB,1,none⟩,⟨bB,2,none⟩] [s0,s1,s2]) W E.under hst O (.inr (.inr (.inl rfl))) rfl (by simp)
  (fun v hv τ d=>wpIn_mono (M.box s.r s0 s1 s2 v _ τ d) fun e a w' ⟨k1,k2,g',bB,k3,k4,k5⟩=>⟨k1,k2,g',bB,k3,S.grow _ _ _ _ _ hv.2 k4,k5⟩) (fun tm v τ d ⟨g',bB,e,h,h'⟩=>⟨g',bB,e,S.tA _ _ _ v τ d h,h'⟩) H3).bind fun gs4 w4 sl4 t4 _ H4=>?_
 obtain⟨⟨g4,bB⟩,H4⟩:=(H4.mono (C':=fun g v=>∃y:(Nat→Value)×Nat,g=gOf (f97 (ups y.1 (sl97 s.r (.agg #[s0,s1,s2]) y.2)) (Y18 P kv pa told f (c0::cs) s.r bA (.agg #[s0,s1,s2])) (V97 P))∧S.An i told (.agg #[s0,s1,s2]) v∧Cells v [⟨y.2,0,none⟩,⟨y.2,1,none⟩,⟨y.2,2,none⟩] [s0,s1,s2]) fun g v ⟨tm,hg,g',bB,e,h⟩=>⟨(g',bB),by rw[hg,e];rfl,h⟩).pick
 refine(Holds.draws (sl:=sl4) A.mixed O (A.ker.dr _ _) A.ker.dl H4).bind fun gs5 w5 sl5 t5 _ H5=>?_
 have H6:ComesTo P gs5 w5 sl5 t5 (Holds Od P Z Shun s.Still (MemOf c) (fun g=>g=c) 0 c (ByC P s c (gC P s fc i x)) (fun g v=>g=gOf (xs P g4 (Y18 P kv pa told f (c0::cs) s.r bA (.agg #[s0,s1,s2])) s.r s.q1 bB (.agg #[s0,s1,s2]))∧S.An i told (.agg #[s0,s1,s2]) v∧Cells v [⟨bB,0,none⟩,⟨bB,1,none⟩,⟨bB,2,none⟩] [s0,s1,s2])):=by
  obtain⟨⟨l,hl⟩,H5⟩:=(H5.mono (C':=fun g v=>∃y:{ l:List Nat // l∈[[0,1,2,3,4,5],[0,1,2,4,3,5],[0,1,4,2,3,5],[0,4,1,2,3,5],[4,0,1,2,3,5]] },g=gOf (lin P g4 (Y18 P kv pa told f (c0::cs) s.r bA (.agg #[s0,s1,s2])) s.r bB (.agg #[s0,s1,s2]) y.1)∧S.An i told (.agg #[s0,s1,s2]) v∧Cells v [⟨bB,0,none⟩,⟨bB,1,none⟩,⟨bB,2,none⟩] [s0,s1,s2]) fun g v ⟨⟨l,hl,hg⟩,h⟩=>⟨⟨l,hl⟩,hg,h⟩).pick
  simp only[List.mem_cons,List.not_mem_nil,or_false]at hl
  rcases hl with rfl|rfl|rfl|rfl|rfl
  ·refine(walk H5 (RW.logs (A.ker.l1a _ _ _ _ _))).bind fun _ _ sla _ _ Ha=>(walk Ha (rd (A.ker.l1b _ _ _ _ s.q1 _))).bind fun _ _ slb _ _ Hb=>?_
   have:=Holds.reads (sl:=slb) E.under O (A.ker.l1c _ _ _ _ s.q1 _ s0 s1 s2) (fun v h=>h.2) Hb
   rwa [A.ker.l1d]at this
  ·refine(walk H5 (RW.logs (A.ker.l2a _ _ _ _ _))).bind fun _ _ sla _ _ Ha=>(Holds.reads (sl:=sla) E.under O (A.ker.l2b _ _ _ _ _ s0 s1 s2) (fun v h=>h.2) Ha).bind fun _ _ slb _ _ Hb=>?_
   have:=walk (sl:=slb) Hb (rd (A.ker.l2c _ _ _ _ s.q1 _))
   rwa [A.ker.l2d]at this
  ·refine(walk H5 (RW.logs (A.ker.l3a _ _ _ _ _))).bind fun _ _ sla _ _ Ha=>(Holds.reads (sl:=sla) E.under O (A.ker.l3b _ _ _ _ _ s0 s1 s2) (fun v h=>h.2) Ha).bind fun _ _ slb _ _ Hb=>(walk Hb (RW.logs (A.ker.l3c _ _ _ _ _))).bind fun _ _ slc _ _ Hc=>?_
   have:=walk (sl:=slc) Hc (rd (A.ker.l3d _ _ _ _ s.q1 _))
   rwa [A.ker.l3e]at this
  ·refine(walk H5 (RW.logs (A.ker.l4a _ _ _ _ _))).bind fun _ _ sla _ _ Ha=>(Holds.reads (sl:=sla) E.under O (A.ker.l4b _ _ _ _ _ s0 s1 s2) (fun v h=>h.2) Ha).bind fun _ _ slb _ _ Hb=>(walk Hb (RW.logs (A.ker.l4c _ _ _ _ _))).bind fun _ _ slc _ _ Hc=>?_
   have:=walk (sl:=slc) Hc (rd (A.ker.l4d _ _ _ _ s.q1 _))
   rwa [A.ker.l4e]at this
  ·refine(walk H5 (RW.logs (A.ker.l5a _ _ _ _ _))).bind fun _ _ sla _ _ Ha=>(Holds.reads (sl:=sla) E.under O (A.ker.l5b _ _ _ _ _ s0 s1 s2) (fun v h=>h.2) Ha).bind fun _ _ slb _ _ Hb=>(walk Hb (RW.logs (A.ker.l5c _ _ _ _ _))).bind fun _ _ slc _ _ Hc=>?_
   have:=walk (sl:=slc) Hc (rd (A.ker.l5d _ _ _ _ s.q1 _))
   rwa [A.ker.l5e]at this
 refine H6.bind fun gs7 w7 sl7 t7 _ H7=>?_
 obtain⟨f7,hT7,hg7,hc7⟩:=seat_of (s:=s) A.ker (A.ker.v3b kv pa told f g4 (c0::cs) s.r s.q0 s.q1 s.q2 bA bB (.agg #[s0,s1,s2])) (A.ker.v3c _ _ _ _ _ _ _ _ _ _ _ _ _) (A.ker.v3d _ _ _ _ _ _ _ _ _ _ _ _ _)
 have hw:RW P (0==0) s.KW s.Still 48 (gOf (v0 P kv pa told f g4 (c0::cs) s.r s.q1 bA bB (.agg #[s0,s1,s2]))) (gOf (v3 P kv pa told f g4 (c0::cs) s.r s.q0 s.q1 s.q2 bA bB (.agg #[s0,s1,s2]))):=
  ((((RW.logs (A.ker.v1a _ _ _ _ _ _ _ _ _ _ _)).trans (RW.at (A.ker.v1b _ _ _ _ _ _ _ s.q0 _ _ _ _) (readOk (s:=s)).r0 (readOk (s:=s)).t0)).trans (RW.logs (A.ker.v2a _ _ _ _ _ _ _ _ _ _ _ _))).trans (RW.at (A.ker.v2b _ _ _ _ _ _ _ _ _ s.q2 _ _ _) (readOk (s:=s)).r2 (readOk (s:=s)).t2)).trans (RW.logs (A.ker.v3a _ _ _ _ _ _ _ _ _ _ _ _ _))
 have hseat:=RW.seat (k:=0) (home:=(·=gK P s f7 (c0::cs))) (cases:=cKer s.q0 s.q2) (shape:=.select) (gOf_run _) ⟨_,#[],hg7,gOf_run _,by simp,fun w _=>al6 hc7 w⟩ hw
 have e8:gOf (v0 P kv pa told f g4 (c0::cs) s.r s.q1 bA bB (.agg #[s0,s1,s2]))=Conc.served (gOf (xs P g4 (Y18 P kv pa told f (c0::cs) s.r bA (.agg #[s0,s1,s2])) s.r s.q1 bB (.agg #[s0,s1,s2]))) (commResult (cAns s.q1 (.agg #[s0,s1,s2])) .send ((0:Nat):Int) undef false):=by
  unfold v0
  rw[served_gOf]
  rfl
 rw[e8]at hseat
 refine(Holds.give (sl:=sl7) (gives_answer E (.agg #[s0,s1,s2])) (fun w h=>openKer h) rfl (fun w=>comm_step (A.ker.xs _ _ _ _ _ _) w) hseat (H7.mono fun g v h=>⟨h.1,h.2.1⟩)).mono fun gs' w' t' H8=>⟨f7,_,hT7,H8⟩
end
section
variable {P:Program} {L:FuncId→Prop} {p:Oper→Bool} {N:Fence} {m:Nat} {host:FuncId} {Z:Nat→Prop} {Shun:Loc→Prop} {s:Sit} {c:Nat} {kv:Value} {pa:Addr} {c0:Frame} {cs:List Frame}
theorem stepOk (S:Story P N m kv pa s.n) (hsv:s.sv=svOf pa) (told:Value):StepOk P N m s.r s.sv s.n (fun i=>S.I i told) (fun i x=>S.Cd i told x) (S.Bd told) where
 wp:=fun i v f hv h0 hi τ d=>by rw[hsv];exact S.step s.r i told v f hv h0 hi τ d
 tI:=fun i=>S.tI i told
 tC:=fun i x=>S.tC i told x
 tB:=S.tB told
theorem slS_of {f:Nat→Value} {told:Value} (hT:Told f (slK kv pa told s.r s.q0 s.q2)):ups f (slS kv pa told s.r)=f:=
 Told.eq fun q hq=>hT q (by simp only[slS,slK,List.mem_cons,List.not_mem_nil,or_false]at hq ⊢;rcases hq with h|h|h|h<;>simp[h])
theorem bad_phase {Od:Old} (A:AllFacts P) (W:Ways P L p N host) (E:Env Z Shun s c) (S:Story P N m kv pa s.n) {told:Value} {f:Nat→Value} (hT:Told f (slK kv pa told s.r s.q0 s.q2)) {kq:Nat} {gs:Array Goroutine} {w:World} {sl:Option (Nat×Nat)} {t:Trace}
  (H:Holds Od P Z Shun s.Still (fun g=>g=0) (fun g=>g=c) 0 c (ByT P s c kq) (fun g v=>g=Conc.served (gK P s f (c0::cs)) (commResult (cKer s.q0 s.q2) .select 1 (.int .i64 2) true)∧S.Bd told v) gs w t):
  ComesTo P gs w sl t (Back Od P Shun Z S.Fin c0 cs):=by
 have O:=byT_ok (P:=P) (k:=kq) A.done E
 have hj:∀n b w t,ByT P s c kq n b w t→∀d,(fun _=>True:World→Prop) (w.at d):=fun _ _ _ _ _ _=>trivial
 have e0:Conc.served (gK P s f (c0::cs)) (commResult (cKer s.q0 s.q2) .select 1 (.int .i64 2) true)=gOf (n0 P kv pa told f (c0::cs) s.r s.q0 s.q2 2):=by
  unfold n0
  rw[slS_of hT]
  rfl
 rw[e0]at H
 refine(H.sil (sl:=sl) (K:=fun _=>True) hj O (sil_logs (A.ker.n1a _ _ _ _ _ _ _ _))).bind fun gs1 w1 sl1 t1 _ H1=>?_
 rw[at_toldN (l:=slS kv pa told s.r) (A.ker.n1b _ _ _ _ _ _ _ _) (A.ker.n1c _ _ _ _ _ _ _ _) (A.ker.n1d _ _ _ _ _ _ _ _)]at H1
 refine(Holds.part (sl:=sl1) W E.under (under_still E.zOwn) O (.inl rfl) rfl (by simp) (fun v hv=>S.bad s.r told v _ hv) (fun tm v τ d ⟨f',told',e,h⟩=>⟨f',told',e,S.tF _ v τ d h⟩) H1).bind fun gs2 w2 sl2 t2 _ H2=>?_
 obtain⟨⟨f2,told'⟩,H2⟩:=(H2.mono (C':=fun g v=>∃y:(Nat→Value)×Value,g=gOf (f56 (ups y.1 [(7,y.2)]) (c0::cs) (T21 P) (dsK s.r))∧S.Fin y.2 v) fun g v ⟨tm,hg,f',told',e,h⟩=>⟨(f',told'),by rw[hg,e];rfl,h⟩).pick
 refine(H2.sil (sl:=sl2) (K:=fun _=>True) hj O (sil_logs (A.ker.w3a _ _ _ _))).bind fun gsa wa sla ta _ Ha=>?_
 obtain⟨fe,e⟩:=to_stop (s:=s) (c0:=c0) (cs:=cs) A.ker (A.ker.w3b told' _ _ s.r) (A.ker.w3c told' _ _ s.r) (A.ker.w3d told' _ _ s.r) (A.ker.w3e told' _ _ s.r) (A.ker.w3f told' f2 (c0::cs) s.r)
 rw[show gOf (run P 12 (f56 (ups f2 [(7,told')]) (c0::cs) (T21 P) (dsK s.r)))=gOf (Fxa.w3 P told' f2 (c0::cs) s.r)from rfl,e]at Ha
 exact(finish_tail (sl:=sla) A E Ha).mono fun gs' w' t' ⟨v,B,k1,k2,k3⟩=>⟨told',v,B,k1,k2,k3⟩
theorem spent_phase {Od:Old} (A:AllFacts P) (E:Env Z Shun s c) (S:Story P N m kv pa s.n) {told:Value} {f:Nat→Value} (hT:Told f (slK kv pa told s.r s.q0 s.q2)) {kq:Nat} {gs:Array Goroutine} {w:World} {sl:Option (Nat×Nat)} {t:Trace}
  (H:Holds Od P Z Shun s.Still (fun g=>g=0) (fun g=>g=c) 0 c (ByT P s c kq) (fun g v=>g=Conc.served (gK P s f (c0::cs)) (commResult (cKer s.q0 s.q2) .select 1 (.int .i64 0) true)∧S.I s.n told v) gs w t):
  ComesTo P gs w sl t (Back Od P Shun Z S.Fin c0 cs):=by
 have O:=byT_ok (P:=P) (k:=kq) A.done E
 have hj:∀n b w t,ByT P s c kq n b w t→∀d,(fun _=>True:World→Prop) (w.at d):=fun _ _ _ _ _ _=>trivial
 have e0:Conc.served (gK P s f (c0::cs)) (commResult (cKer s.q0 s.q2) .select 1 (.int .i64 0) true)=gOf (n0 P kv pa told f (c0::cs) s.r s.q0 s.q2 0):=by
  unfold n0
  rw[slS_of hT]
  rfl
 rw[e0]at H
 refine(H.sil (sl:=sl) (K:=fun _=>True) hj O (sil_logs (A.ker.w2a _ _ _ _ _ _ _ _))).bind fun gsa wa sla ta _ Ha=>?_
 obtain⟨fe,e⟩:=to_stop (s:=s) (c0:=c0) (cs:=cs) A.ker (A.ker.w2b kv pa told _ _ s.r s.q0 s.q2) (A.ker.w2c kv pa told _ _ s.r s.q0 s.q2) (A.ker.w2d kv pa told _ _ s.r s.q0 s.q2) (A.ker.w2e kv pa told _ _ s.r s.q0 s.q2) (A.ker.w2f kv pa told f (c0::cs) s.r s.q0 s.q2)
 rw[show gOf (run P 32 (n0 P kv pa told f (c0::cs) s.r s.q0 s.q2 0))=gOf (Fxa.w2 P kv pa told f (c0::cs) s.r s.q0 s.q2)from rfl,e]at Ha
 exact(finish_tail (sl:=sla) A E Ha).mono fun gs' w' t' ⟨v,B,k1,k2,k3⟩=>⟨told,v,B,S.spent _ _ k1,k2,k3⟩
theorem loop_phase {Od:Old} (A:AllFacts P) (W:Ways P L p N host) (M:Makes P N m) (E:Env Z Shun s c) (S:Story P N m kv pa s.n) (hn:s.n≤1000) (hsv:s.sv=svOf pa):
  ∀(k:Nat) (i:Int) (told:Value) (f fK:Nat→Value) (gs:Array Goroutine) (w:World) (sl:Option (Nat×Nat)) (t:Trace),(s.n-i).toNat≤k→0≤i→i≤s.n→Told fK (slK kv pa told s.r s.q0 s.q2)→
  Holds Od P Z Shun s.Still (MemOf c) (fun g=>g=0) c 0 (ByK P s c (gK P s fK (c0::cs))) (fun g v=>g=gOf (LH P (ups f (sl4 s.r s.sv s.n i)) (Ych P s.b5 s.b2 s.b3 s.r s.sv s.n))∧S.I i told v) gs w t→
  ComesTo P gs w sl t (Back Od P Shun Z S.Fin c0 cs):=by
 intro k
 induction k using Nat.strongRecOn with
 | _ k ih=>
  intro i told f fK gs w sl t hk h0 hle hT H
  have F:=A.child s.b5 s.b2 s.b3 s.r s.q0 s.q1 s.q2 s.q3 s.sv s.n
  have OK:=byK_ok (P:=P) (gS:=gK P s fK (c0::cs)) E
  refine(child_loop F readOk (stepOk S hsv told) hn W.fenced E.under (under_still E.zOwn) byK_k (fun w a h hs=>still_lt h hs) E.ss OK W.hosted (W.seen 136 (by simp)) (W.ops _ (by simp)) h0 k i f gs w sl t hk (Int.le_refl _) hle H).bind fun gs1 w1 sl1 t1 _ H1=>?_
  rcases H1.or with H1|H1
  ·
   obtain⟨⟨i1,f1,x⟩,H1⟩:=(H1.mono (C':=fun g v=>∃y:Int×(Nat→Value)×Value,(i≤y.1∧y.1<s.n)∧g=gOf (k3 P s.q0 s.q3 (ups y.2.1 (sl6 s.r s.sv s.n y.1 1 y.2.2)) (Ych P s.b5 s.b2 s.b3 s.r s.sv s.n))∧S.Cd y.1 told y.2.2 v) fun g v ⟨i1,f1,x,k1,k2,k3,k4⟩=>⟨(i1,f1,x),⟨k1,k2⟩,k3,k4⟩).pick
   obtain⟨⟨hi0,hi1⟩,H1⟩:=H1.fact
   refine(Holds.give (sl:=sl1) (gives_call E x) (fun w h=>openSeat h) (gOf_run _) (fun w=>al6 (F.s16 f1 _ i1 x) w) (child_seat F readOk f1 _ i1 x) H1).bind fun gs2 w2 sl2 t2 _ H2=>?_
   refine(serve_phase (sl:=sl2) A W E S hT H2).bind fun gs3 w3 sl3 t3 _ H3=>?_
   rcases H3 with H3|⟨f3,told',bA,H3⟩
   ·exact .now H3
   refine(answer_phase (sl:=sl3) A W M E S H3).bind fun gs4 w4 sl4 t4 _ H4=>?_
   obtain⟨f4,An,hT4,H4⟩:=H4
   have O4:=byK_ok (P:=P) (gS:=gK P s f4 (c0::cs)) E
   obtain⟨f5,hw5⟩:=child_answered (main:=c==0) (K:=s.KW) (Still:=s.Still) (A.ans s.r s.q0 s.q1 s.q3 s.sv s.n) f1 (Ych P s.b5 s.b2 s.b3 s.r s.sv s.n) i1 x An
   refine(H4.walk (sl:=sl4) byK_k (fun w a h hs=>still_lt h hs) E.ss O4 hw5).bind fun gs5 w5 sl5 t5 _ H5=>?_
   refine(Holds.out (sl:=sl5) (Q:=fun tm w'=>∃g,tm=TN 49 (ups g [(6,.bool true)])∧S.I (i1+1) told' w') W E.under (under_still E.zOwn) O4 (by simp) rfl (by simp) (fun v hv=>by rw[hsv];exact S.answered s.q1 s.q3 i1 told' An v f5 hv (by omega) hi1) (fun tm v τ d ⟨g,e,h⟩=>⟨g,e,S.tI _ _ v τ d h⟩) H5).bind fun gs6 w6 sl6 t6 _ H6=>?_
   obtain⟨⟨g6,td⟩,H6⟩:=(H6.mono (C':=fun g v=>∃y:(Nat→Value)×List Item,g=gOf (a2 P s.q0 s.q1 s.q3 x (ups f1 (Fxa.sl6 s.r s.sv s.n i1 1 x)) y.1 (Ych P s.b5 s.b2 s.b3 s.r s.sv s.n) y.2)∧S.I (i1+1) told' v) fun g v ⟨tm,todo,hg,g6,e,h⟩=>⟨(g6,todo),by rw[hg,e];rfl,h⟩).pick
   obtain⟨f7,hw7⟩:=child_again (main:=c==0) (K:=s.KW) (Still:=s.Still) (A.ans s.r s.q0 s.q1 s.q3 s.sv s.n) f1 g6 (Ych P s.b5 s.b2 s.b3 s.r s.sv s.n) td i1 x
   rw[show IntKind.i64.wrap (i1+1)=i1+1 by simp[IntKind.wrap,IntKind.bits,IntKind.signed];omega]at hw7
   refine(H6.walk (sl:=sl6) byK_k (fun w a h hs=>still_lt h hs) E.ss O4 hw7).bind fun gs7 w7 sl7 t7 _ H7=>?_
   exact ih (s.n-(i1+1)).toNat (by omega) (i1+1) told' f7 f4 gs7 w7 sl7 t7 (Nat.le_refl _) (by omega) (by omega) hT4 H7
  ·rcases H1.or with H1|H1
   ·
    obtain⟨⟨i1,f1,x⟩,H1⟩:=(H1.mono (C':=fun g v=>∃y:Int×(Nat→Value)×Value,g=gOf (e3 P s.q2 s.q3 (ups y.2.1 (sl6 s.r s.sv s.n y.1 2 y.2.2)) (Ych P s.b5 s.b2 s.b3 s.r s.sv s.n))∧S.Bd told v) fun g v ⟨i1,f1,x,k1,k2⟩=>⟨(i1,f1,x),k1,k2⟩).pick
    refine(Holds.last (sl:=sl1) 2 E (gOf_run _) (fun w=>al6 (F.e16 f1 _ i1 x) w) (child_badOut F f1 i1 x) H1).bind fun gs2 w2 sl2 t2 _ ⟨kq,H2⟩=>?_
    exact bad_phase (sl:=sl2) A W E S hT H2
   ·
    obtain⟨f1,H1⟩:=H1.pick
    refine(Holds.last (sl:=sl1) 0 E (gOf_run _) (fun w=>al6 (F.d16 f1 _ s.n) w) (child_spentOut F f1 s.n) H1).bind fun gs2 w2 sl2 t2 _ ⟨kq,H2⟩=>?_
    exact spent_phase (sl:=sl2) A E S hT H2
end
structure Starts (P:Program) (N:Fence) (m:Nat):Prop where
 boxes:∀(sa:Addr) (n:Int) (v:World) (g:Nat→Value),∀τ d,(S0 P).wpIn N m P (Ends fun tm w'=>∃g' b2 b3,tm=TN 18 (ups g' [(2,pr b2),(3,pr b3)])∧Grows v w'∧v.heap.size≤b2∧v.heap.size≤b3∧b2<w'.heap.size∧b3<w'.heap.size∧b2≠b3∧w'.cell? ⟨b2,0,none⟩=some (.pointer (some sa))∧w'.cell? ⟨b3,0,none⟩=some (.int .i64 n)) ⟨TN 18 (ups g [(0,.pointer (some sa)),(1,.int .i64 n)]),[]⟩ (v.re τ d)
 makes:∀(b2 b3:Nat) (v:World) (g:Nat→Value),∀τ d,(S1 P).wpIn N m P (Ends fun tm w'=>∃g' b5 r q0 q1 q2 q3,tm=TN 18 (ups g' (sl18 b2 b3 b5))∧Grows v w'∧(∀x∈[b5,r,q0,q1,q2,q3],v.heap.size≤x)∧[b5,r,q0,q1,q2,q3].Nodup∧RunAt r #[chn q0,chn q1,chn q2,chn q3] 257 w' 0 0∧w'.cell? ⟨b5,0,none⟩=some (pr r)∧∀q∈[q0,q1,q2,q3],w'.heap[q]?=some (.chan 0 #[] false 0 0 false)) ⟨TN 18 (ups g [(2,pr b2),(3,pr b3)]),[]⟩ (v.re τ d)
structure Opening {P:Program} {N:Fence} {m:Nat} {kv:Value} {pa:Addr} {n:Int} (S:Story P N m kv pa n) where
 B0:World→Prop
 B2:World→Prop
 B3:World→Prop
 t2:Tapeless B2
 t3:Tapeless B3
 bring:∀(v:World) (f:Nat→Value),B0 v→∀τ d,(R2 P).wpIn N m P (Ends fun tm w'=>∃f',tm=TN 76 (ups f' (sk4 kv pa n ag0))∧B2 w') ⟨TN 76 (ups f (sk4 kv pa n ag0)),[]⟩ (v.re τ d)
 clear:∀(v:World) (f:Nat→Value),B2 v→∀τ d,(R3 P).wpIn N m P (Ends fun tm w'=>∃f',tm=TN 76 (ups f' (sk4 kv pa n ag0))∧B3 w') ⟨TN 76 (ups f (sk4 kv pa n ag0)),[]⟩ (v.re τ d)
 start:∀v v',B3 v→Grows v v'→S.I 0 ag0 v'
section
variable {P:Program} {L:FuncId→Prop} {p:Oper→Bool} {N:Fence} {m:Nat} {host:FuncId} {Z:Nat→Prop} {Shun:Loc→Prop} {gs:Array Goroutine} {w:World} {sl:Option (Nat×Nat)} {t:Trace}
theorem Beside.part {Od:Old} {fnR:FuncId} {kd:CallKind} {k:List Item} {ds:List Deferred} {Q:Array Value→World→Prop} {c:Code} {tmps:Array Value} {cs:List Frame} {v:World} {B:Nat} (W:Ways P L p N host) (hu:Under Shun Z) (hf:fnR=56∨fnR=93∨fnR=97∨fnR=136∨fnR=187) (hkd:(kd==CallKind.early)=false)
  (hc:c∈[R2 P,R3 P,S0 P,S1 P,R10 P,R11 P,R15 P,R16 P,A0 P,R21 P,reg2 P,ansC P]) (hw:∀τ d,c.wpIn N m P (Ends Q) ⟨tmps,[]⟩ (v.re τ d)) (hQ:∀tm,Tapeless (Q tm)) (Bs:Beside Od P Shun Z B v gs w t) (h0:gs[0]?=some (G (Frame.mk fnR tmps (.code c::k) ds .run kd none) cs)):
  ComesTo P gs w sl t fun gs' w' t'=>∃tm v' B',gs'[0]?=some (G (Frame.mk fnR tm k ds .run kd none) cs)∧Q tm v'∧Beside Od P Shun Z B' v' gs' w' t':=by
 refine(piece_beside W.fenced hu W.hosted (W.seen fnR hf) hkd (W.ops c hc) ends_ok hw Bs h0).mono fun gs' w' t' ⟨g,v',B',h1,⟨tm,τ,d,hb⟩,_,_,h2⟩=>?_
 rcases hb with⟨rfl,_,_,hq⟩|⟨_,_,he,_⟩
 ·exact⟨tm,v',B',h1,(hQ tm).back hq,h2⟩
 ·cases he
theorem Grows.trans {a b c:World} (h:Grows a b) (h':Grows b c):Grows a c:=
 ⟨Nat.le_trans h.1 h'.1,fun x hx=>(h'.2.1 x (Nat.lt_of_lt_of_le hx h.1)).trans (h.2.1 x hx),h'.2.2.1.trans h.2.2.1,h'.2.2.2.trans h.2.2.2⟩
theorem goOn_beside {Od:Old} (A:AllFacts P) (W:Ways P L p N host) (M:Makes P N m) (ST:Starts P N m) {kv:Value} {pa:Addr} {n:Int} {c0:Frame} {cs:List Frame} (hn:n≤1000) (hn0:0≤n) (S:Story P N m kv pa n) (U:Opening S) (hu:Under Shun Z) {v:World} {B:Nat} (hB0:U.B0 v) (Bs:Beside Od P Shun Z B v gs w t)
  (h0:gs[0]?=some (gOf (z0 P kv pa n (c0::cs)))):
  Leads P gs w sl t fun gs' w' t'=>∃Z' Shun',(∀x,Z x→Z' x)∧Under Shun' Z'∧Back Od P Shun' Z' S.Fin c0 cs gs' w' t':=by
 have K:=A.ker
 refine(Bs.sil h0 (sil_logs (K.z1a _ _ _ _))).then fun gs1 w1 sl1 t1 _ ⟨h1,Bs1,_⟩=>?_
 rw[show run P 9 (z0 P kv pa n (c0::cs))=z1 P kv pa n (c0::cs)from rfl,at_toldN (l:=sk4 kv pa n ag0) (K.z1b _ _ _ _) (K.z1c _ _ _ _) (K.z1d _ _ _ _)]at h1
 refine(Beside.part W hu (.inl rfl) rfl (by simp) (U.bring v _ hB0) (fun tm v τ d ⟨f',e,h⟩=>⟨f',e,U.t2 v τ d h⟩) Bs1 h1).then fun gs2 w2 sl2 t2 _ ⟨tm2,v2,B2,h2,⟨f2,e2,hB2⟩,Bs2⟩=>?_
 subst e2
 refine(Bs2.sil h2 (sil_hush0 (K.z3 (ups f2 (sk4 kv pa n ag0)) (c0::cs)))).then fun gs3 w3 sl3 t3 _ ⟨h3,Bs3,_⟩=>?_
 refine(Beside.part W hu (.inl rfl) rfl (by simp) (U.clear v2 f2 hB2) (fun tm v τ d ⟨f',e,h⟩=>⟨f',e,U.t3 v τ d h⟩) Bs3 h3).then fun gs4 w4 sl4 t4 _ ⟨tm4,v4,B4,h4,⟨f4,e4,hB4⟩,Bs4⟩=>?_
 subst e4
 refine(Bs4.sil h4 (sil_logs (K.z5a kv pa n ag0 f4 (c0::cs)))).then fun gs5 w5 sl5 t5 _ ⟨h5,Bs5,_⟩=>?_
 rw[show run P 8 (f56 (ups f4 (sk4 kv pa n ag0)) (c0::cs) (T3 P) [])=z5 P kv pa n ag0 f4 (c0::cs)from rfl,at_toldN (l:=[(0,svOf pa),(1,.int .i64 n)]) (K.z5b _ _ _ _ _ _) (K.z5c _ _ _ _ _ _) (K.z5d _ _ _ _ _ _)]at h5
 refine(Beside.part W hu (.inr (.inl rfl)) rfl (by simp) (ST.boxes (pa.add 5) n v4 _) (fun tm v τ d h=>h) Bs5 h5).then fun gs6 w6 sl6 t6 _ ⟨tm6,v6,B6,h6,⟨g6,b2,b3,e6,gr6,k2,k3,l2,l3,k23,c2,c3⟩,Bs6⟩=>?_
 subst e6
 refine(Bs6.sil h6 (sil_hush0 (K.y1 (ups g6 [(2,pr b2),(3,pr b3)]) (Y4 P kv pa n ag0 f4 (c0::cs))))).then fun gs7 w7 sl7 t7 _ ⟨h7,Bs7,_⟩=>?_
 refine(Beside.part W hu (.inr (.inl rfl)) rfl (by simp) (ST.makes b2 b3 v6 g6) (fun tm v τ d h=>h) Bs7 h7).then fun gs8 w8 sl8 t8 _ ⟨tm8,v8,B8,h8,⟨g8,b5,r,q0,q1,q2,q3,e8,gr8,kge,knd,kr,k5,kq⟩,Bs8⟩=>?_
 subst e8
 have hZ4:∀x,Z x→x<v4.heap.size:=Bs4.choose_spec.2.1
 have T4:Twin Od Z v4 w4:=Bs4.choose_spec.1
 obtain⟨q8,T8,hZ8,L8,P8,S8⟩:=Bs8
 have kge':v6.heap.size≤b5∧v6.heap.size≤r∧v6.heap.size≤q0∧v6.heap.size≤q1∧v6.heap.size≤q2∧v6.heap.size≤q3:=⟨kge _ (by simp),kge _ (by simp),kge _ (by simp),kge _ (by simp),kge _ (by simp),kge _ (by simp)⟩
 obtain⟨m5,mr,m0,m1,m2,m3⟩:=kge'
 simp only[List.nodup_cons,List.mem_cons,List.not_mem_nil,or_false,not_or,List.nodup_nil,and_true,not_false_eq_true]at knd
 obtain⟨⟨d5r,d50,d51,d52,d53⟩,⟨dr0,dr1,dr2,dr3⟩,⟨d01,d02,d03⟩,⟨d12,d13⟩,d23⟩:=knd
 have g46:=gr6.1
 have g68:=gr8.1
 let S9:Sit:=⟨b2,b3,b5,r,q0,q1,q2,q3,svOf pa,n⟩
 have hq8:∀q,S9.chs q→v8.heap[q]?=some (.chan 0 #[] false 0 0 false):=fun q h=>kq q (by rcases h with e|e|e|e<;>simp[e,S9])
 have hge:∀x,S9.own x→v4.heap.size≤x:=fun x hx=>by
  simp only[Sit.own,S9]at hx
  omega
 have hlt:∀x,S9.own x→x<v8.heap.size:=fun x hx=>by
  have hr:=kr.lt
  have h5:=cell_lt k5
  have e0:=(Array.getElem?_eq_some_iff.1 (hq8 q0 (.inl rfl))).1
  have e1:=(Array.getElem?_eq_some_iff.1 (hq8 q1 (.inr (.inl rfl)))).1
  have e2:=(Array.getElem?_eq_some_iff.1 (hq8 q2 (.inr (.inr (.inl rfl))))).1
  have e3:=(Array.getElem?_eq_some_iff.1 (hq8 q3 (.inr (.inr (.inr rfl))))).1
  simp only[Sit.own,S9]at hx
  simp only at h5
  omega
 have hnz:∀x,S9.own x→¬Z x:=fun x hx hz=>by have:=hge x hx;have:=hZ4 x hz;omega
 have OK:S9.Ok:=by
  refine⟨fun q hq=>?_,?_,?_⟩
  ·simp only[Sit.chs,S9]at hq
   simp only[S9]
   refine⟨by omega,by omega,?_,?_⟩<;>(rcases hq with e|e|e|e<;>subst e<;>first|exact Ne.symm d50|exact Ne.symm d51|exact Ne.symm d52|exact Ne.symm d53|exact Ne.symm dr0|exact Ne.symm dr1|exact Ne.symm dr2|exact Ne.symm dr3)
  ·simp only[S9]
   exact⟨by omega,by omega,d5r⟩
  ·exact⟨d01,d02,d03,d12,d13,d23⟩
 have hod:∀x,S9.own x→¬Od.dead x:=fun x hx ho=>by have:=hge x hx;have:=(Array.getElem?_eq_some_iff.1 (T4.odead x ho)).1;omega
 have hreal:∀x,S9.own x→w8.heap[x]?=v8.heap[x]?:=fun x hx=>(T8.same x (hnz x hx) (hod x hx)).symm
 have hrun:RunAt r S9.pre 257 w8 0 0:=by unfold RunAt;rw[hreal r (by simp[Sit.own,S9])];exact kr
 have hcells:S9.cells w8:=by
  refine⟨cell_keep k5 (hreal b5 (by simp[Sit.own,S9])),cell_keep (w:=v8) ?_ (hreal b2 (by simp[Sit.own,S9])),cell_keep (w:=v8) ?_ (hreal b3 (by simp[Sit.own,S9]))⟩
  ·exact cell_keep c2 (gr8.2.1 b2 l2)
  ·exact cell_keep c3 (gr8.2.1 b3 l3)
 have hchs:∀q,S9.chs q→w8.heap[q]?=some (.chan 0 #[] false 0 0 false):=fun q h=>by
  rw[hreal q (by rcases h with e|e|e|e<;>simp[Sit.own,e])];exact hq8 q h
 obtain⟨v9,T9,sz9,same9,os9,out9⟩:=T8.kill (Z':=fun x=>Z x∨S9.own x) (fun _ h=>.inl h) (fun x hx ho=>hx.elim (T8.dis x ho) fun h=>hod x h ho)
 have hg9:Grows v4 v9:=by
  refine⟨by omega,fun x hx=>?_,by rw[os9,gr8.2.2.1,gr6.2.2.1],by rw[out9,gr8.2.2.2,gr6.2.2.2]⟩
  by_cases hz:Z x
  ·rw[T9.dead x (.inl hz) (by omega),T4.dead x hz hx]
  ·have ho:¬S9.own x:=fun ho=>by have:=hge x ho;omega
   rw[same9 x (fun h=>h.elim hz ho),gr8.2.1 x (by omega),gr6.2.1 x hx]
 have hZ9:∀x,(Z x∨S9.own x)→x<v9.heap.size:=fun x hx=>by
  rw[sz9]
  exact hx.elim (hZ8 x) (hlt x)
 have hun:Under (fun l=>Shun l∨OfW S9.r S9.pre l) (fun x=>Z x∨S9.own x):=by
  refine⟨fun a h=>?_,fun x h=>?_⟩
  ·rcases h with h|h|h
   ·exact .inl (hu.1 a h)
   ·injection h with h;subst h;exact .inr (by simp[Sit.own,stA])
   ·injection h with h;subst h;exact .inr (by simp[Sit.own,smA])
  ·rcases h with h|h|h
   ·exact .inl (hu.2 x h)
   ·cases h
   ·cases h
 have hss:∀l,S9.Still l→¬(Shun l∨OfW S9.r S9.pre l):=fun l hl h=>by
  rcases h with h|h
  ·have:∃a,l=.cell a∧S9.own a.block:=by rcases hl with e|e|e|e|e|e|e<;>exact⟨_,e,by simp[Sit.own]⟩
   obtain⟨a,rfl,ha⟩:=this
   exact hnz _ ha (hu.1 a h)
  ·exact ofW_still h hl
 have Bs9:Beside Od P (fun l=>Shun l∨OfW S9.r S9.pre l) (fun x=>Z x∨S9.own x) B8 v9 gs8 w8 t8:=⟨q8,T9,hZ9,L8,Past.shun P8 (fun _ h=>.inl h),S8⟩
 refine(Bs9.sil h8 (sil_logs (K.y3a g8 (Y4 P kv pa n ag0 f4 (c0::cs)) b2 b3 b5))).then fun gsa wa sla ta _ ⟨ha,Ba,wa8⟩=>?_
 refine(Ba.read ha (K.y3b g8 _ b2 b3 b5 r) (cell_keep hcells.1 (by rw[wa8])) (hss _ (.inl rfl))).then fun gsb wb slb tb _ ⟨hb,Bb,wba⟩=>?_
 refine(Bb.sil hb (sil_logs (K.y4a g8 _ b2 b3 b5 r))).then fun gsc wc slc tc _ ⟨hc,Bc,wcb⟩=>?_
 have ec:wc.heap=w8.heap:=wcb.trans (wba.trans wa8)
 have hc':gsc[0]?=some (gOf (y4 P g8 (Y4 P kv pa n ag0 f4 (c0::cs)) b2 b3 b5 r)):=hc
 rw[K.y4b]at hc'
 obtain⟨qc,Tc,hZc,Lc,Pc,Sc⟩:=Bc
 refine(add_beside (Z:=fun x=>x=r) (add_ok (A.add _ _ _)) rfl hc' Lc Pc Sc (show RunAt r S9.pre 257 wc 0 0 by unfold RunAt;rw[ec];exact hrun)).then fun gsd wd sld td _ ⟨qd,hd,od,rd,Ld,Pd,Sd⟩=>?_
 have odZ:OffZ (fun x=>Z x∨S9.own x) wc wd:=⟨od.size,fun x hx=>od.same x (fun e=>hx (.inr (by simp[Sit.own,S9,e]))),od.os,od.output,od.tape⟩
 have Bd:Beside Od P (fun l=>Shun l∨OfW S9.r S9.pre l) (fun x=>Z x∨S9.own x) B8 v9 gsd wd td:=⟨qd,Tc.off odZ,hZc,Ld,Pd,Sd⟩
 have KSd:S9.KS wd:=by
  refine⟨rd,hcells.keep fun x hx=>?_,fun q hq=>⟨0,?_⟩⟩
  ·rw[od.same x (by rcases hx with e|e|e<;>subst e<;>first|exact OK.br.2.2|exact OK.br.1|exact OK.br.2.1),ec]
  ·rw[od.same q (OK.bq q hq).2.2.2,ec];exact hchs q hq
 refine(Bd.sil hd (sil_logs (K.y6a g8 (Y4 P kv pa n ag0 f4 (c0::cs)) b2 b3 b5 r))).then fun gse we sle te _ ⟨he,Be,eed⟩=>?_
 have KSe:S9.KS we:=(leansKS (s:=S9) (Z:=fun _=>True) (fun _ _=>trivial)).keep wd we (fun x _=>by rw[eed]) KSd
 obtain⟨qe,Te,hZe,Le,Pe,Se⟩:=Be
 have hpos:0<gse.size:=(Array.getElem?_eq_some_iff.1 he).1
 have EV:Env (fun x=>Z x∨S9.own x) (fun l=>Shun l∨OfW S9.r S9.pre l) S9 gse.size:=⟨fun _ h=>.inr h,hun,fun _ h=>.inr h,hss,OK,by omega⟩
 obtain⟨fK,hTK,hgK,hcK⟩:=seat_of (s:=S9) K (K.y10b kv pa n ag0 f4 g8 (c0::cs) b2 b3 b5 r q0 q2) (K.y10c kv pa n ag0 f4 g8 (c0::cs) b2 b3 b5 r q0 q2) (K.y10d kv pa n ag0 f4 g8 (c0::cs) b2 b3 b5 r q0 q2)
 have R:=readOk (s:=S9)
 have hw:RW P true S9.KW S9.Still 58 (gOf (did (y6 P g8 (Y4 P kv pa n ag0 f4 (c0::cs)) b2 b3 b5 r) undef)) (gOf (y10 P kv pa n ag0 f4 g8 (c0::cs) b2 b3 b5 r q0 q2)):=
  ((((((RW.logs (K.y7a _ _ _ _ _ _)).trans (RW.at (K.y7b _ _ _ _ _ _) R.c5 R.s5)).trans (RW.logs (K.y8a _ _ _ _ _ _ _ _ _ _ _))).trans (RW.at (K.y8b _ _ _ _ _ _ _ _ _ _ _ q0) R.r0 R.t0)).trans (RW.logs (K.y9a _ _ _ _ _ _ _ _ _ _ _ _))).trans (RW.at (K.y9b _ _ _ _ _ _ _ _ _ _ _ _ q2) R.r2 R.t2)).trans (RW.logs (K.y10a _ _ _ _ _ _ _ _ _ _ _ _ _))
 have hseat:=RW.seat (k:=0) (home:=(·=gK P S9 fK (c0::cs))) (cases:=cKer S9.q0 S9.q2) (shape:=.select) (gOf_run _) ⟨_,#[],hgK,gOf_run _,by simp,fun w _=>al6 hcK w⟩ hw
 obtain⟨N1,gsf,df,slf,tf,qf,hrf,hzf,hcf,Df⟩:=hire_duo (K:=S9.KW) (K1:=S9.KS) (TT:=NoPl gse.size S9.r S9.pre) (sl:=sle) (leansKS (s:=S9) EV.zOwn) (fun l hl=>by rcases hl with e|e|e|e|e|e|e<;>subst e<;>rfl) hss he (gOf_run _) Le Pe Se (fun d=>spawn_step (K.y6b g8 _ b2 b3 b5 r) (we.at d)) (by simp) KSe
  (fun t' hp i a ha ho hk=>by
   have hmem:a.loc.isMemory=true:=by rcases ho with e|e<;>rw[e]<;>rfl
   rcases hp.known i a ha hmem with h|⟨_,h,_⟩|⟨_,h,_⟩
   ·exact h
   ·exact(ofW_still ho h).elim
   ·rw[hk]at h;cases h) (openKer KSe) (gOf_run _) hseat
 have Hf:Holds Od P (fun x=>Z x∨S9.own x) (fun l=>Shun l∨OfW S9.r S9.pre l) S9.Still (MemOf gse.size) (fun g=>g=0) gse.size 0 (ByK P S9 gse.size (gK P S9 fK (c0::cs))) (fun g v=>g=gOf (ch0 P b5 b2 b3)∧S.I 0 ag0 v) gsf (we.at df) tf:=
  ⟨qf,_,B8,_,v9,hcf,⟨rfl,U.start v4 v9 hB4 hg9⟩,Te.off (OffZ.at we df),hZe,Df⟩
 obtain⟨fb,hbirth⟩:=child_birth (main:=gse.size==0) (A.child b5 b2 b3 r q0 q1 q2 q3 (svOf pa) n) R
 have step2:Leads P gsf (we.at df) slf tf (Back Od P (fun l=>Shun l∨OfW S9.r S9.pre l) (fun x=>Z x∨S9.own x) S.Fin c0 cs):=
  (Hf.walk (sl:=slf) byK_k (fun w a h hs=>still_lt h hs) hss (byK_ok EV) hbirth).then fun gsg wg slg tg _ Hg=>
   (loop_phase (s:=S9) A W M EV S hn rfl n.toNat 0 ag0 fb fK gsg wg slg tg (by show(n-0).toNat≤n.toNat;omega) (Int.le_refl _) hn0 hTK Hg).leads
 obtain⟨N2,gs2',w2',sl2',t2',hr2,hq2⟩:=step2
 exact⟨N1+N2,gs2',w2',sl2',t2',by rw[runNT_add,hrf];exact hr2,_,_,fun _ h=>.inl h,hun,hq2⟩
end
end Go.Fxa
namespace Go.Fxa
open Go.Conc
open Go.Proofs
theorem all_facts:AllFacts Tryz.prog where
 ker:=ker_facts
 child:=fun _ _ _ _ _ _ _ _ _ _=>child_facts
 ans:=fun _ _ _ _ _ _=>ans_facts
 done:=fun r tm td=>done_facts r tm td
 add:=fun r c Y=>add_facts r c Y
 wait:=fun r c Y=>wait_facts r c Y
 mixed:=by kernel_rfl
end Go.Fxa
namespace Go.Fxa
open Go.Conc
end Go.Fxa
namespace Go
open Go.Fxa
open Go.Conc
def Sem.Easy (P:Program) {α:Type}:Sem α→Prop
 | .pure _=>True
 | .load _ _ k=>∀x,(k x).Easy P
 | .store _ _ _ k=>k.Easy P
 | .new o k=>o.plain=true∧∀r,(k r).Easy P
 | .shape _ k=>∀s,(k s).Easy P
 | .freeze _ _ k=>k.Easy P
 | .frozen _ k=>∀b,(k b).Easy P
 | .getObj _ k=>∀o,(k o).Easy P
 | .setObj _ o k=>o.plain=true∧k.Easy P
 | .choose _ k=>∀n,(k n).Easy P
 | .sys _ k=>∀r,(k r).Easy P
 | .program k=>(k P).Easy P
 | .mark _ k=>k.Easy P
 | .halt h=>h.hard=true
end Go
namespace Go.Fxa
open Go.Conc
theorem dead_easy {P:Program} {α β:Type} {e:Sem α} {f:α→Sem β} (h:e.Easy P) (hf:∀a,(f a).Dead P):(e>>= f).Dead P:=by
 show(e.bind f).Dead P
 induction e with
 | pure a=>exact hf a
 | load m a k ih=>exact fun x=>ih x (h x)
 | store m a v k ih=>exact ih h
 | new o k ih=>exact⟨h.1,fun x=>ih x (h.2 x)⟩
 | shape r k ih=>exact fun x=>ih x (h x)
 | freeze a n k ih=>exact ih h
 | frozen a k ih=>exact fun x=>ih x (h x)
 | getObj r k ih=>exact fun x=>ih x (h x)
 | setObj r o k ih=>exact⟨h.1,ih h.2⟩
 | choose q k ih=>exact fun x=>ih x (h x)
 | sys c k ih=>exact fun x=>ih x (h x)
 | program k ih=>exact ih P h
 | mark m k ih=>exact ih h
 | halt h'=>exact h
theorem easy_bind {P:Program} {α β:Type} {e:Sem α} {f:α→Sem β} (h:e.Easy P) (hf:∀a,(f a).Easy P):(e>>= f).Easy P:=by
 show(e.bind f).Easy P
 induction e with
 | pure a=>exact hf a
 | load m a k ih=>exact fun x=>ih x (h x)
 | store m a v k ih=>exact ih h
 | new o k ih=>exact⟨h.1,fun x=>ih x (h.2 x)⟩
 | shape r k ih=>exact fun x=>ih x (h x)
 | freeze a n k ih=>exact ih h
 | frozen a k ih=>exact fun x=>ih x (h x)
 | getObj r k ih=>exact fun x=>ih x (h x)
 | setObj r o k ih=>exact⟨h.1,ih h.2⟩
 | choose q k ih=>exact fun x=>ih x (h x)
 | sys c k ih=>exact fun x=>ih x (h x)
 | program k ih=>exact ih P h
 | mark m k ih=>exact ih h
 | halt h'=>exact h
section
variable {P:Program}
theorem easy_underlying {t:TypeId}:(underlying t).Easy P:=by
 show Sem.Easy P (Sem.program _)
 show Sem.Easy P (match P.underlying t with|some d=>_|none=>_)
 cases P.underlying t<;>first|trivial|rfl
theorem easy_elemOf {t:TypeId}:(elemOf t).Easy P:=by
 refine easy_bind easy_underlying fun d=>?_
 cases d<;>first|trivial|rfl
theorem dead_runtimePanic {e:RuntimeError} {α:Type}:(runtimePanic e:Sem α).Dead P:=by
 refine dead_easy (e:=program) trivial fun p=>?_
 cases e<;>first
  | exact dead_goPanic
  | exact dead_easy easy_elemOf fun _=>dead_easy (e:=newVar _ _) ⟨rfl,fun _=>trivial⟩ fun _=>dead_goPanic
theorem ah0 {t:TypeId} {α:Type} {f:TypeDesc→Sem α} {K:α→Prop} (h:∀d,P.underlying t=some d→(f d).Tame P K):(underlying t>>= f).Tame P K:=ae9 ab0 h
theorem tame_alloc {e:TypeId} {h:Bool} {old:Value}:(Instr.alloc e h old).Tame P fun _=>True:=by
 unfold Instr.alloc
 refine aa1 af9 fun z=>?_
 split
 ·exact aa1 tame_storeVar fun _=>aa5 trivial
 ·exact aa1 tame_newVar fun _=>aa5 trivial
theorem tame_box {e:TypeId} {v:Value}:(Instr.box e v).Tame P fun _=>True:=aa1 tame_newVar fun _=>aa5 trivial
theorem ae0 {t:TypeId}:(sizeOf t).Tame P fun _=>True:=ab8 tame_sizeOf
theorem ae5 {t:TypeId}:(typeInfo t).Tame P fun _=>True:=ab8 ak5
theorem tame_askRoom {n:Nat}:(askRoom n).Tame P fun _=>True:=by
 unfold askRoom
 exact ab1 (fun _=>.inl ⟨rfl,trivial⟩) fun _=>aa5 trivial
theorem tame_build {t:TypeId} {ps:Array (Nat×Value)}:(Instr.build t ps).Tame P fun _=>True:=by
 unfold Instr.build
 refine aa1 af9 fun z=>aa1 (ab8 ab0) fun d=>?_
 split
 ·refine aa1 (tame_mapMA (fun f=>aa1 ae0 fun _=>aa5 trivial) _) fun pl=>?_
  split
  ·exact aa5 trivial
  ·exact aa7
 ·refine aa1 ae0 fun n=>?_
  split
  ·exact aa5 trivial
  ·exact aa7
 ·exact aa7
theorem tame_buildSlice {t:TypeId} {n:Nat} {ps:Array (Nat×Value)}:(Instr.buildSlice t n ps).Tame P fun _=>True:=by
 unfold Instr.buildSlice
 refine aa1 (ab8 ab0) fun d=>?_
 split
 ·refine aa1 ae0 fun size=>?_
  extract_lets jp jp2
  have hj:∀z,(jp z).Tame P fun _=>True:=fun z=>by
   simp only[jp]
   split
   ·exact aa1 an6 fun _=>aa5 trivial
   ·exact aa7
  have hj2:∀z,(jp2 z).Tame P fun _=>True:=fun z=>by
   simp only[jp2]
   exact ab1 (fun _=>aa1 (aa5 trivial) fun _=>hj _) fun _=>aa1 af9 fun _=>aa1 (aa5 trivial) fun _=>hj _
  exact ab1 (fun _=>rfl) fun _=>hj2 ()
 ·exact aa7
theorem tame_makeSlice {t:TypeId} {l c:Value}:(Instr.makeSlice t l c).Tame P fun _=>True:=by
 unfold Instr.makeSlice
 refine aa1 (ab8 ab0) fun d=>?_
 split
 ·refine aa1 tame_asInt fun a=>aa1 tame_asInt fun b=>aa1 ae5 fun i=>?_
  extract_lets bytes tooLarge l' c' jp
  have hj:∀z,(jp z).Tame P fun _=>True:=fun z=>by
   simp only[jp]
   refine aa1 tame_askRoom fun _=>aa1 ae0 fun k=>?_
   exact ab1 (fun _=>aa1 (aa5 trivial) fun _=>aa1 an6 fun _=>aa5 trivial) fun _=>aa1 af9 fun _=>aa1 (aa5 trivial) fun _=>aa1 an6 fun _=>aa5 trivial
  refine ab1 (fun _=>ab1 (fun _=>aa1 ab6 fun u=>hj u) fun _=>ab1 (fun _=>aa1 ab6 fun u=>hj u) fun _=>aa1 ag6 fun _=>aa1 ab6 fun u=>hj u) fun _=>hj ()
 ·exact aa7
theorem ag4 {x:Value} {y:Nat} {c:BoundsCode}:(Instr.sliceBound x y c).Tame P fun _=>True:=by
 unfold Instr.sliceBound
 refine aa1 (ab8 tame_asIntOf) fun ki=>?_
 exact ab1 (fun _=>aa5 trivial) fun _=>ah2
theorem tame_makeFunc {f:Fn} {a b:Array Value}:(Instr.makeFunc f a b).Tame P fun _=>True:=aa5 trivial
theorem tame_makeInterface {t:TypeId} {x:Value}:(Instr.makeInterface t x).Tame P fun _=>True:=by
 unfold Instr.makeInterface
 refine aa1 (ab8 ab0) fun d=>?_
 split
 ·exact aa7
 ·exact aa5 trivial
theorem tame_extract {x:Value} {i:Nat}:(Instr.extract x i).Tame P fun _=>True:=by
 unfold Instr.extract
 split
 ·split
  ·exact aa5 trivial
  ·exact aa7
 ·exact aa7
theorem tame_field {t:TypeId} {x:Value} {i:Nat}:(Instr.field t x i).Tame P fun _=>True:=by
 unfold Instr.field
 refine aa1 (ab8 ab0) fun d=>?_
 split
 ·split
  ·exact aa1 tame_asAgg fun _=>am1
  ·exact aa7
 ·exact aa7
theorem tame_index {t:TypeId} {x i:Value}:(Instr.index t x i).Tame P fun _=>True:=by
 unfold Instr.index
 refine aa1 (ab8 tame_asIntOf) fun ki=>aa1 (ab8 ab0) fun d=>?_
 split
 ·exact ab1 (fun _=>aa1 ae0 fun _=>am1) fun _=>ah2
 ·split
  ·exact aa5 trivial
  ·exact ah2
 ·exact aa7
theorem tame_partAt {a:Addr} {c b:Nat}:(partAt a c b).Tame P fun _=>True:=aa1 tame_byteOf fun _=>aa1 tame_byteOf fun _=>aa5 trivial
theorem an9 {a:Addr} {f:Field}:(fieldPlace a f).Tame P fun _=>True:=by
 unfold fieldPlace
 exact aa1 ae0 fun _=>ab1 (fun _=>tame_partAt) fun _=>aa5 trivial
theorem tame_fieldAt {t:TypeId} {x:Value} {i:Nat}:(Instr.fieldAt t x i).Tame P fun _=>True:=by
 unfold Instr.fieldAt
 refine aa1 (ab8 ab0) fun d=>?_
 split
 ·split
  ·exact aa1 ak6 fun _=>aa1 an9 fun _=>aa5 trivial
  ·exact aa7
 ·exact aa7
theorem tame_loadAt {t:TypeId} {x:Value}:(Instr.loadAt t x).Tame P fun _=>True:=aa1 ak6 fun _=>aj8
theorem tame_storeAt {t:TypeId} {x y:Value}:(Instr.storeAt t x y).Tame P fun _=>True:=aa1 ak6 fun _=>tame_storeVar
theorem tame_panic {x:Value}:(Instr.panic x).Tame P fun _=>True:=by
 unfold Instr.panic
 split
 ·exact tame_goPanic
 ·have he:(Instr.panicnil).Easy P:=by
   unfold Instr.panicnil
   refine fun r=>?_
   cases r<;>first|exact rfl|exact trivial
  exact Sem.Dead.tame (dead_easy he fun n=>by split<;>first|exact dead_goPanic|exact dead_runtimePanic)
 ·exact aa7
theorem ah1 {b:Bool} {l c:Nat} {x y z:Option Value}:(Instr.sliceBounds b l c x y z).Tame P fun _=>True:=by
 unfold Instr.sliceBounds
 extract_lets j1
 have h1:∀k,(j1 k).Tame P fun _=>True:=fun k=>by
  cases y<;>cases z<;>cases x<;>simp only[j1]<;>first
   | exact aa1 ag4 fun _=>aa1 ag4 fun _=>aa5 trivial
   | exact aa1 ag4 fun _=>aa1 (aa5 trivial) fun _=>aa5 trivial
   | exact aa1 (aa5 trivial) fun _=>aa1 ag4 fun _=>aa5 trivial
   | exact aa1 (aa5 trivial) fun _=>aa1 (aa5 trivial) fun _=>aa5 trivial
   | exact aa1 aa7 fun _=>aa1 ag4 fun _=>aa5 trivial
   | exact aa1 aa7 fun _=>aa1 (aa5 trivial) fun _=>aa5 trivial
 clear_value j1
 split
 ·exact aa1 ag4 fun _=>h1 _
 ·exact aa1 (aa5 trivial) fun _=>h1 _
theorem tame_slice {t:TypeId} {x:Value} {a b c:Option Value}:(Instr.slice t x a b c).Tame P fun _=>True:=by
 unfold Instr.slice
 refine aa1 (ab8 ab0) fun d=>?_
 split
 ·exact ab1 (fun _=>aa1 aa7 fun _=>aa1 ah1 fun _=>aa5 trivial) fun _=>aa1 ah1 fun _=>aa5 trivial
 ·exact aa1 ah1 fun _=>aa1 ae0 fun _=>aa5 trivial
 ·refine aa1 ao0 fun _=>aa1 (ab8 ab0) fun d=>?_
  split
  ·exact aa1 ah1 fun _=>aa1 ae0 fun _=>aa5 trivial
  ·exact aa7
 ·exact aa7
theorem tame_sliceAt {t:TypeId} {x:Value} {a b c:Option Value}:(Instr.sliceAt t x a b c).Tame P fun _=>True:=by
 unfold Instr.sliceAt
 refine aa1 (ab8 ab0) fun d=>?_
 split
 ·exact aa1 ak6 fun _=>aa1 ah1 fun _=>aa1 ae0 fun _=>aa5 trivial
 ·exact tame_slice
theorem tame_indexAt {t:TypeId} {x i:Value}:(Instr.indexAt t x i).Tame P fun _=>True:=by
 unfold Instr.indexAt
 refine aa1 (ab8 tame_asIntOf) fun ki=>aa1 (ab8 ab0) fun d=>?_
 extract_lets jp
 have hj:∀z,(jp z).Tame P fun _=>True:=fun⟨base,len,elem⟩=>by
  simp only[jp]
  refine aa1 (ab8 ab0) fun d'=>?_
  cases base with
  | none=>exact ah2
  | some a=>exact ab1 (fun _=>aa1 ae0 fun _=>aa5 trivial) fun _=>ab1 (fun _=>rfl) fun _=>ah2
 clear_value jp
 split
 ·exact aa1 ak6 fun _=>aa1 (aa5 trivial) fun _=>hj _
 ·exact aa1 (aa5 trivial) fun _=>hj _
 ·exact aa1 aa7 fun _=>hj _
theorem tame_len {ts:Array TypeId} {t:TypeId} {a:Array Value}:(Builtin.len_ ts t a).Tame P fun _=>True:=by
 unfold Builtin.len_
 split
 ·refine aa1 (ab8 ab0) fun d=>?_
  split
  ·exact aa5 trivial
  ·exact aa5 trivial
  ·refine aa1 (ab8 ab0) fun d=>?_
   split
   ·exact aa5 trivial
   ·exact aa7
  ·exact aa5 trivial
  ·exact aa5 trivial
  ·exact aa5 trivial
  ·refine⟨fun o _=>?_,al3⟩
   cases o<;>first|exact aa7|exact aa5 trivial
  ·refine⟨fun o _=>?_,al3⟩
   cases o<;>first|exact aa7|exact aa5 trivial
  ·exact aa7
 ·exact aa7
theorem tame_cap {ts:Array TypeId} {t:TypeId} {a:Array Value}:(Builtin.cap_ ts t a).Tame P fun _=>True:=by
 unfold Builtin.cap_
 split
 ·refine aa1 (ab8 ab0) fun d=>?_
  split
  ·exact aa5 trivial
  ·refine aa1 (ab8 ab0) fun d=>?_
   split
   ·exact aa5 trivial
   ·exact aa7
  ·exact aa5 trivial
  ·exact aa5 trivial
  ·refine⟨fun o _=>?_,al3⟩
   cases o<;>first|exact aa7|exact aa5 trivial
  ·exact aa7
 ·exact aa7
theorem tame_lenOf {x:Value}:(Builtin.lenOf x).Tame P fun _=>True:=by
 unfold Builtin.lenOf
 split<;>first|exact aa5 trivial|exact aa7
theorem an8 {a b:Nat} {x:Value}:(Builtin.firstCells a b x).Tame P fun _=>True:=by
 unfold Builtin.firstCells
 split<;>first|exact tame_loadCells|exact aa5 trivial|exact aa7
theorem tame_copy {ts:Array TypeId} {t:TypeId} {a:Array Value}:(Builtin.copy_ ts t a).Tame P fun _=>True:=by
 unfold Builtin.copy_
 split
 ·refine aa1 (ab8 ab0) fun d=>?_
  split
  ·split
   ·refine aa1 tame_lenOf fun _=>aa1 ae0 fun _=>aa1 an8 fun _=>?_
    split
    ·exact aa1 ag3 fun _=>aa5 trivial
    ·exact aa5 trivial
   ·exact aa7
  ·exact aa7
 ·exact aa7
theorem tame_clear {ts:Array TypeId} {t:TypeId} {a:Array Value}:(Builtin.clear_ ts t a).Tame P fun _=>True:=by
 unfold Builtin.clear_
 split
 ·refine aa1 (ab8 ab0) fun d=>?_
  extract_lets jp
  have hj:∀z,(jp z).Tame P fun _=>True:=fun z=>aa5 trivial
  clear_value jp
  split
  ·exact hj ()
  ·exact hj ()
  ·exact hj ()
  ·refine⟨fun o ho=>?_,show NoOk P _ (stuck "clear: map expected">>= jp)from noOk_then al3⟩
   cases o<;>first|(cases ho;done)|exact(show Sem.Tame P (fun _=>True) (stuck "clear: map expected">>= jp)from aa1 aa7 fun u=>hj u)
  ·exact aa1 af9 fun _=>aa1 ag3 fun u=>hj u
  ·exact aa1 aa7 fun u=>hj u
 ·exact aa7
theorem easy_holdsCells {a:Addr} {n:Nat}:(Builtin.holdsCells a n).Easy P:=by
 refine fun s=>?_
 cases s<;>trivial
theorem easy_frozen {a:Addr}:(frozen a).Easy P:=fun _=>trivial
theorem easy_mayShare {a b c:Nat} {base:Option Addr} {x:Value}:(Builtin.mayShare a b c base x).Easy P:=by
 unfold Builtin.mayShare
 extract_lets jp
 have hj:∀z,(jp z).Easy P:=fun z=>by
  simp only[jp]
  split
  ·trivial
  ·split
   ·exact easy_bind easy_holdsCells fun _=>trivial
   ·trivial
 clear_value jp
 split
 ·exact hj _
 ·exact easy_bind easy_holdsCells fun _=>easy_bind easy_frozen fun _=>hj _
theorem tame_append {ts:Array TypeId} {t:TypeId} {a:Array Value}:(Builtin.append_ ts t a).Tame P fun _=>True:=by
 unfold Builtin.append_
 split
 ·refine aa1 (ab8 ab0) fun d=>?_
  split
  ·split
   ·refine aa1 ae0 fun size=>?_
    extract_lets ju jp1
    have hju:∀u,(ju u).Dead P:=fun u=>rfl
    clear_value ju
    have hj1:∀z,(jp1 z).Tame P fun _=>True:=fun zeros=>by
     dsimp -zeta only[jp1]
     extract_lets jp2
     have hj2:∀n,(jp2 n).Tame P fun _=>True:=fun n=>by
      dsimp -zeta only[jp2]
      extract_lets appended need jA j4 j3
      have ha:appended.Tame P fun _=>True:=by
       simp only[appended]
       exact ab1 (fun _=>an8) fun _=>ab1 (fun _=>aa5 trivial) fun _=>aa1 af9 fun _=>aa5 trivial
      have hA:∀u,(jA u).Tame P fun _=>True:=fun u=>aa5 trivial
      have hj4:∀u,(j4 u).Tame P fun _=>True:=fun u=>
       aa1 ag6 fun _=>aa1 ae5 fun _=>aa1 tame_askRoom fun _=>aa1 an8 fun _=>aa1 ha fun _=>aa1 af9 fun _=>aa1 an6 fun _=>aa5 trivial
      clear_value j4
      have hj3:∀u,(j3 u).Tame P fun _=>True:=fun u=>by
       refine aa1 ae5 fun i=>?_
       refine ab1 (fun _=>aa1 (ab1 (fun _=>ab6) fun _=>Sem.Dead.tame (dead_easy easy_mayShare fun b=>?_)) fun u=>hj4 u) fun _=>hj4 ()
       split
       ·exact dead_easy (e:=mark .noRoom) trivial fun u=>hju u
       ·exact hju ()
      clear_value appended jA j3
      refine ab1 (fun _=>aa1 ha fun new=>?_) fun _=>aa1 ae5 fun i=>ab1 (fun _=>aa1 ab6 fun u=>hj3 u) fun _=>hj3 ()
      split
      ·exact aa1 ag3 fun u=>hA u
      ·exact hA ()
     clear_value jp2
     refine ab1 (fun _=>aa1 tame_asInt fun a=>?_) fun _=>aa1 tame_lenOf fun n=>hj2 n
     extract_lets l jp6 jp5
     have hj6:∀u,(jp6 u).Tame P fun _=>True:=fun u=>aa1 (aa5 trivial) fun n=>hj2 n
     clear_value jp6
     have hj5:∀u,(jp5 u).Tame P fun _=>True:=fun u=>by
      dsimp -zeta only[jp5]
      refine aa1 ae5 fun i=>?_
      exact ab1 (fun _=>aa1 ag6 fun _=>aa1 ab6 fun u=>hj6 u) fun _=>hj6 ()
     clear_value jp5
     exact ab1 (fun _=>aa1 ab6 fun u=>hj5 u) fun _=>hj5 ()
    clear_value jp1
    split
    ·exact aa1 (ab8 ab0) fun _=>aa1 (aa5 trivial) fun z=>hj1 z
    ·exact aa1 (aa5 trivial) fun z=>hj1 z
   ·exact aa7
  ·exact aa7
 ·exact aa7
end
end Go.Fxa
