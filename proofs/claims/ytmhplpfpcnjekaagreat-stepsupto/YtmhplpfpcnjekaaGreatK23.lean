/- The document's answer: a call. The document's answer: a call, again. The document's answer: one step. -/
import Derived.Test.YtmhplpfpcnjekaaGreatK22
namespace Go.Fxa
open Go.Conc
open Go.Proofs
open Go.RowKit
set_option maxRecDepth 1000000
def QB.fp (b:QB) (k:Nat):Prop:=k=b.rb∨k=b.qb
section
variable (m:Nat) (w:World)
theorem build_ev (c r x:Nat):(Instr.build 59 #[(0,.int .i64 1),(1,.int .i64 c),(2,.int .i64 r),(3,.int .i64 x)]).run Tryz.prog w=.ok (.agg #[.int .i64 1,.int .i64 c,.int .i64 r,.int .i64 x]) w:=by kernel_rfl
def TellI (w1:World) (base:Nat) (told:Value) (evs:List (Nat×Nat×Nat)) (ev:Nat×Nat×Nat) (L:Nat→Bool) (u:Nat→Value) (W:World):Prop:=
 Keep (fun k=>told.ownBlock=some k) w1 W∧(L 14=false→Keep No w1 W∧ToldE base told W evs)∧(L 13=true→∃vb,u 13=.slice (some ⟨vb,0,none⟩) 1 1∧(L 14=false→W.heap[vb]?=some (.cells #[.int .i64 1,.int .i64 ev.1,.int .i64 ev.2.1,.int .i64 ev.2.2] 59 (0,0))))∧(L 14=true→ToldE base (u 14) W (evs++[ev]))
set_option maxHeartbeats 8000000 in
theorem rcalls_pid (b:QB) (ok:b.Ok) (base:Nat) (A B P:Nat) (told:Value) (ks qs:Array Value) (fc fs:Nat→Int) (evs:List (Nat×Nat×Nat)) (h:b.At w true false A B P 0 (.slice (some ⟨b.qi,0,none⟩) b.L b.ic) told ks qs fc fs) (ht:ToldE base told w evs) (hb:base≤w.heap.size) (hl:evs.length≤100000) (lo:∀k,b.foot k→k<base) (hP:P≤65536):
  CallsIn NF m Tryz.prog 117 #[.pointer (some ⟨b.rb,0,none⟩),.pointer (some ⟨b.qb,0,none⟩),.int .i64 12] w fun e w'=>e=.returned (.tuple #[])∧Keep (fun k=>b.fp k∨told.ownBlock=some k) w w'∧∃told' ks',ToldE base told' w' (evs++[(12,1,0)])∧b.At w' true false 1 0 (P+2) 0 (.slice (some ⟨b.qi,0,none⟩) b.L b.ic) told' ks' qs fc fs:=by
 have c2:w.cell? ⟨b.qb,2,none⟩=some (.bool false):=by rw[aa0 h.p];rfl
 have c7:w.cell? ⟨b.qb,7,none⟩=some (.int .i64 P):=by rw[aa0 h.p];rfl
 have c5:w.cell? ⟨b.qb,5,none⟩=some (.int .i64 A):=by rw[aa0 h.p];rfl
 have c8:w.cell? ⟨b.qb,8,none⟩=some (.slice (some ⟨b.qi,0,none⟩) b.L b.ic):=by rw[aa0 h.p];rfl
 obtain⟨i0,hi0,hz0,hz1,hz2⟩:=info_parts info157
 have ne:=h.ne
 gi_enter Tryz.func117,Tryz.ntmps117
 gi_wp2_with fail
 refine(blocked_pid _ w b.rb b.qb).mono ?_
 rintro e w1 ⟨rfl,K1⟩
 have A1:=h.keep K1 (fun _ _ x=>x)
 have c71:=K1.has c7
 have f7:=ab3 A1.p 7
 have hP2:(P:Int)+2<9223372036854775808:=by omega
 gi_wp2_with fail
 have K2:Keep (Go.Fxa.At b.qb) w1 (w1.setCell ⟨b.qb,7,none⟩ (.int .i64 ((P:Int)+2))):=Keep.set1 _
 have A2:b.At (w1.setCell ⟨b.qb,7,none⟩ (.int .i64 ((P:Int)+2))) true false A B (P+2) 0 (.slice (some ⟨b.qi,0,none⟩) b.L b.ic) told ks qs fc fs:=
  ⟨K2.old A1.k (fun e=>ne.2.1 e),A1.sz,A1.k0,A1.k1,A1.k2,A1.k7,K2.old A1.q (fun e=>ne.2.2 e),A1.q0,(aa2 A1.p _).trans rfl,A1.c.keep K2 (fun e=>ok.c3 e),A1.s.keep K2 (fun e=>ok.s3 e)⟩
 have KK2:Keep b.fp w (w1.setCell ⟨b.qb,7,none⟩ (.int .i64 ((P:Int)+2))):=K1.no.trans K2 (fun k _ e=>.inr e)
 have t2:ToldE base told (w1.setCell ⟨b.qb,7,none⟩ (.int .i64 ((P:Int)+2))) evs:=ad1 (ht.more K1) K2 (fun g hg e=>by have e:g=b.qb:=e;have:=lo b.qb (by simp[QB.foot]);omega)
 generalize w1.setCell ⟨b.qb,7,none⟩ (.int .i64 ((P:Int)+2))=w2 at*
 have hb2:base≤w2.heap.size:=Nat.le_trans hb KK2.size
 clear A1 K1 K2 c71 f7 c2 c7 h ht c5 c8
 have c5:w2.cell? ⟨b.qb,5,none⟩=some (.int .i64 A):=by rw[aa0 A2.p];rfl
 have c8:w2.cell? ⟨b.qb,8,none⟩=some (.slice (some ⟨b.qi,0,none⟩) b.L b.ic):=by rw[aa0 A2.p];rfl
 refine(asked_pid _ w2 b.qb).mono ?_
 rintro e w3 ⟨rfl,K3⟩
 have A3:=A2.keep K3 (fun _ _ x=>x)
 have KK3:Keep b.fp w w3:=KK2.then K3.no
 have t3:=t2.more K3
 have K3':Keep No w3 (w3.alloc (.cells #[.int .i64 0,.int .i64 0,.int .i64 0] 272)):=(Keep.refl _ _).alloc _
 have c33:(w3.alloc (.cells #[.int .i64 0,.int .i64 0,.int .i64 0] 272)).cell? ⟨b.qb,3,none⟩=some (.int .i64 1):=by rw[aa0 (K3'.old A3.p id)];rfl
 clear A2 KK2 t2 K3 c5 c8
 gi_wp2_with fail
 refine(does_pid _ _ b.rb b.qb c33).mono ?_
 rintro e w4 ⟨rfl,K4⟩
 have A4:=(A3.keep K3' (fun _ _ x=>x)).keep K4 (fun _ _ x=>x)
 have KK4:Keep b.fp w w4:=(KK3.then K3'.no).then K4.no
 have t4:=(t3.more K3').more K4
 clear A3 KK3 t3 K3' c33 K4
 have f5:=ab3 A4.p 5
 have f6:=ab3 A4.p 6
 have c54:w4.cell? ⟨b.qb,5,none⟩=some (.int .i64 A):=by rw[aa0 A4.p];rfl
 have c64:w4.cell? ⟨b.qb,6,none⟩=some (.int .i64 B):=by rw[aa0 A4.p];rfl
 gi_wp2
 have K5:Keep (Go.Fxa.At b.qb) w4 ((w4.setCell ⟨b.qb,5,none⟩ (.int .i64 1)).setCell ⟨b.qb,6,none⟩ (.int .i64 0)):=((Keep.refl (Go.Fxa.At b.qb) w4).setCell (p:=⟨b.qb,5,none⟩) _ (fun _=>rfl)).setCell (p:=⟨b.qb,6,none⟩) _ (fun _=>rfl)
 have p5:((w4.setCell ⟨b.qb,5,none⟩ (.int .i64 1)).setCell ⟨b.qb,6,none⟩ (.int .i64 0)).heap[b.qb]?=some (rproc true false 1 0 (P+2) (.slice (some ⟨b.qi,0,none⟩) b.L b.ic) 0):=by
  have e:=aa2 (i:=6) (aa2 (i:=5) A4.p (.int .i64 1)) (.int .i64 0)
  rw[e];rfl
 have A5:b.At ((w4.setCell ⟨b.qb,5,none⟩ (.int .i64 1)).setCell ⟨b.qb,6,none⟩ (.int .i64 0)) true false 1 0 (P+2) 0 (.slice (some ⟨b.qi,0,none⟩) b.L b.ic) told ks qs fc fs:=
  ⟨K5.old A4.k (fun e=>ne.2.1 e),A4.sz,A4.k0,A4.k1,A4.k2,A4.k7,K5.old A4.q (fun e=>ne.2.2 e),A4.q0,p5,A4.c.keep K5 (fun e=>ok.c3 e),A4.s.keep K5 (fun e=>ok.s3 e)⟩
 have KK5:Keep b.fp w ((w4.setCell ⟨b.qb,5,none⟩ (.int .i64 1)).setCell ⟨b.qb,6,none⟩ (.int .i64 0)):=KK4.trans K5 (fun k _ e=>.inr e)
 have t5:ToldE base told ((w4.setCell ⟨b.qb,5,none⟩ (.int .i64 1)).setCell ⟨b.qb,6,none⟩ (.int .i64 0)) evs:=ad1 t4 K5 (fun g hg e=>by have e:g=b.qb:=e;have:=lo b.qb (by simp[QB.foot]);omega)
 generalize hw5:((w4.setCell ⟨b.qb,5,none⟩ (.int .i64 1)).setCell ⟨b.qb,6,none⟩ (.int .i64 0))=w5 at*
 have c106:w5.cell? ⟨b.rb,106,none⟩=some told:=(aa0 A5.k 106).trans A5.k7
 have c3:w5.cell? ⟨b.qb,3,none⟩=some (.int .i64 1):=by rw[aa0 A5.p];rfl
 have hb5:base≤w5.heap.size:=Nat.le_trans hb KK5.size
 clear hw5 A4 KK4 t4 c54 c64 f5 f6 p5 K5
 have hbd:=build_ev w5.drew 12 1 0
 refine ag5 (P:=Tryz.prog) _ rfl rfl (by kernel_rfl) 15 76 [0,1,2,3,4,5,6,7,8,9,10,11,12] [13,14] (by kernel_rfl) (by rfl)
  (TellI w5.drew base told evs (12,1,0)) (fun L L' u u' W hh hI=>by
   have h13:=hh 13 (by simp)
   have h14:=hh 14 (by simp)
   unfold TellI at hI ⊢
   rw[←h13.1,←h13.2,←h14.1,←h14.2]
   exact hI) _ _ rfl rfl ?_
 gi_wp2
 refine⟨rfl,by kernel_rfl,?_,?_,?_,?_⟩
 ·intro u
  exact⟨Keep.refl _ _,fun _=>⟨Keep.refl _ _,t5⟩,fun hx=>absurd hx (by decide),fun hx=>absurd hx (by decide)⟩
 ·intro L u W hI
  have nf:∀k,b.foot k→¬told.ownBlock=some k:=fun k hk e=>by
   have:=lo k hk
   have:=(t5.lt k e).1
   omega
  have d106:=(hI.1.cell (w:=w5.drew) (p:=⟨b.rb,106,none⟩) (ab2 A5.k) (nf _ (.inl rfl))).trans c106
  have d3:=(hI.1.cell (w:=w5.drew) (p:=⟨b.qb,3,none⟩) (ab2 A5.p) (nf _ (.inr (.inr (.inl rfl))))).trans c3
  have hbd:=build_ev W 12 1 0
  repeat' (refine aa8 ?_ ?_)
  all_goals first|exact trivial|gi_wp2
 ·intro i hi L u W hI hLi hu
  obtain⟨hI1,hI2,hI3,hI4⟩:=hI
  rcases(by simpa using hi:i=13∨i=14)with rfl|rfl
  ·refine ac4 rfl fun KK hKK=>?_
   show wpListIn NF m Tryz.prog _ _ _ (Act.put (Act.put _ (some 72) (u 13)) (some 73) (u 14)) _
   gi_wp2
   have Ka:Keep No W (W.alloc (.cells #[.int .i64 1,.int .i64 12,.int .i64 1,.int .i64 0] 59)):=(Keep.refl _ _).alloc _
   exact⟨_,rfl,hI1.then Ka.no,fun hx=>⟨(hI2 hx).1.then Ka,(hI2 hx).2.more Ka⟩,fun _=>⟨_,rfl,fun _=>aa4 rfl⟩,fun hx=>(hI4 hx).more Ka⟩
  ·obtain⟨vb,hv1,hv2⟩:=hI3 (hu 13 (by simp) (by decide))
   have hv2:=hv2 hLi
   obtain⟨KN,t2⟩:=hI2 hLi
   have t2':W.ownsRow base 59 4 told evs.length (evsC evs):=t2
   show wpOpIn NF m Tryz.prog _ _ _ (fun a' W'=>∃v,a'=Act.put (Act.put (Act.put _ (some 72) (u 13)) (some 73) (u 14)) (some 73) v∧_) (Act.put (Act.put _ (some 72) (u 13)) (some 73) (u 14)) _
   rw[hv1]
   refine ac4 rfl fun KK hKK=>?_
   have szW:base≤W.heap.size:=Nat.le_trans hb5 KN.size
   refine wpListIn_append_own _ rfl (.tmp 63) (.tmp 72) 43 rfl base 59 i0 (.agg #[.int .i64 0,.int .i64 0,.int .i64 0,.int .i64 0]) 4 32 Tryz.underlying43 hi0 hz0 hz1 hz2 rfl (by decide) told evs.length (evsC evs) rfl t2' ⟨vb,0,none⟩ 1 1 (evC (12,1,0)) rfl rfl ?_ ?_ ?_ ?_ szW ?_
   ·intro q u hq
    have ea:(⟨vb,0,none⟩:Addr).add q=⟨vb,q,none⟩:=by rw[Addr.add_lit,Nat.zero_add]
    rw[ea]
    refine(aa0 hv2 q).trans ?_
    match q,hq with
    | 0,hq=>simpa [evC]using hq
    | 1,hq=>simpa [evC]using hq
    | 2,hq=>simpa [evC]using hq
    | 3,hq=>simpa [evC]using hq
   ·simp[evC,Value.oneCell']
   ·unfold maxLen;omega
   ·omega
   ·intro v' w4 hown hgrow _
    refine⟨rfl,hKK _ _ ⟨v',rfl,?_⟩⟩
    refine⟨KN.no.then (ae7 hgrow fun k hk _=>hk),fun hx=>absurd hx (by simp[did1]),fun _=>⟨vb,by rw[←hv1];rfl,fun hx=>absurd hx (by simp[did1])⟩,fun _=>told_push hown⟩
 ·intro L u W hI hL
  obtain⟨hI1,hI2,hI3,hI4⟩:=hI
  have t12:=hI4 (hL 14 (by simp))
  obtain⟨vb,hv1,_⟩:=hI3 (hL 13 (by simp))
  have nf:∀k,b.foot k→¬told.ownBlock=some k:=fun k hk e=>by
   have:=lo k hk
   have:=(t5.lt k e).1
   omega
  show wpListIn NF m Tryz.prog _ _ _ (Act.put (Act.put _ (some 72) (u 13)) (some 73) (u 14)) _
  generalize u 14=told' at*
  rw[hv1]
  have k1:=hI1.old (w:=w5.drew) A5.k (nf _ (.inl rfl))
  have e1:W.cell? ⟨b.rb,106,none⟩=some told:=(aa0 k1 106).trans A5.k7
  have f1:=ab3 k1 106
  have t12s:∃ad ln cp,told'=.slice ad ln cp:=by
   rcases t12.2 with⟨rfl,_⟩|⟨g,cap,cur,rfl,_⟩<;>exact⟨_,_,_,rfl⟩
  obtain⟨ad,ln,cp,rfl⟩:=t12s
  have KW:Keep (fun k=>b.fp k∨told.ownBlock=some k) w W:=(KK5.mono (fun _ _ h=>.inl h)).trans ((Keep.refl _ w5).drew.then hI1) (fun k _ hk=>.inr hk)
  have K2:Keep (fun k=>b.fp k∨told.ownBlock=some k) w (W.setCell ⟨b.rb,106,none⟩ (.slice ad ln cp)):=KW.setCell _ (fun _=>.inl (.inl rfl))
  have A6:b.At W true false 1 0 (P+2) 0 (.slice (some ⟨b.qi,0,none⟩) b.L b.ic) told ks qs fc fs:=QB.At.keep (b:=b) (S:=fun k=>told.ownBlock=some k) (w':=W) A5 ((Keep.refl _ w5).drew.then hI1) (fun k hk=>nf k (by rcases hk with e|e|e|e|e<;>simp[QB.foot,e]))
  have K3:Keep (Go.Fxa.At b.rb) W (W.setCell ⟨b.rb,106,none⟩ (.slice ad ln cp)):=Keep.set1 _
  have A7:b.At (W.setCell ⟨b.rb,106,none⟩ (.slice ad ln cp)) true false 1 0 (P+2) 0 (.slice (some ⟨b.qi,0,none⟩) b.L b.ic) (.slice ad ln cp) (ks.setIfInBounds 106 (.slice ad ln cp)) qs fc fs:=
   ⟨aa2 k1 _,by simpa using A5.sz,(ac0 (by decide)).trans A5.k0,(ac0 (by decide)).trans A5.k1,(ac0 (by decide)).trans A5.k2,aj6 A5.k7,K3.old A6.q (fun e=>ne.1 e.symm),A5.q0,K3.old A6.p (fun e=>ne.2.1 e.symm),A6.c.keep K3 (fun e=>ok.c1 e),A6.s.keep K3 (fun e=>ok.s1 e)⟩
  have t7:ToldE base (.slice ad ln cp) (W.setCell ⟨b.rb,106,none⟩ (.slice ad ln cp)) (evs++[(12,1,0)]):=ad1 t12 K3 (fun g hg e=>by have e:g=b.rb:=e;have:=lo b.rb (.inl rfl);omega)
  gi_wp2
  generalize W.setCell ⟨b.rb,106,none⟩ (.slice ad ln cp)=w2 at*
  go_end0
  exact⟨by simp,K2,_,t7,_,A7⟩
end
section
variable (m:Nat) (w:World)
set_option maxHeartbeats 8000000 in
theorem rcalls_fault (b:QB) (ok:b.Ok) (base:Nat) (A B P:Nat) (told:Value) (ks qs:Array Value) (fc fs:Nat→Int) (evs:List (Nat×Nat×Nat)) (h:b.At w true false A B P 0 (.slice (some ⟨b.qi,0,none⟩) b.L b.ic) told ks qs fc fs) (ht:ToldE base told w evs) (hb:base≤w.heap.size) (hl:evs.length≤100000) (lo:∀k,b.foot k→k<base) (hP:P≤65536) (hA:A<65536) (hx:¬A+1≤b.L):
  CallsIn NF m Tryz.prog 117 #[.pointer (some ⟨b.rb,0,none⟩),.pointer (some ⟨b.qb,0,none⟩),.int .i64 1] w fun e w'=>e=.returned (.tuple #[])∧Keep (fun k=>b.fp k∨told.ownBlock=some k) w w'∧∃told' ks',ToldE base told' w' (evs++[(1,0,1)])∧b.At w' true false 0 1 (P+2) 0 (.slice (some ⟨b.qi,0,none⟩) b.L b.ic) told' ks' qs fc fs:=by
 have c2:w.cell? ⟨b.qb,2,none⟩=some (.bool false):=by rw[aa0 h.p];rfl
 have c7:w.cell? ⟨b.qb,7,none⟩=some (.int .i64 P):=by rw[aa0 h.p];rfl
 have c5:w.cell? ⟨b.qb,5,none⟩=some (.int .i64 A):=by rw[aa0 h.p];rfl
 have c8:w.cell? ⟨b.qb,8,none⟩=some (.slice (some ⟨b.qi,0,none⟩) b.L b.ic):=by rw[aa0 h.p];rfl
 obtain⟨i0,hi0,hz0,hz1,hz2⟩:=info_parts info157
 have ne:=h.ne
 gi_enter Tryz.func117,Tryz.ntmps117
 gi_wp2_with fail
 refine(blocked_fault _ w b.rb b.qb A b.L b.ic _ c5 c8 hA hx).mono ?_
 rintro e w1 ⟨rfl,K1⟩
 have A1:=h.keep K1 (fun _ _ x=>x)
 have c71:=K1.has c7
 have f7:=ab3 A1.p 7
 have hP2:(P:Int)+2<9223372036854775808:=by omega
 gi_wp2_with fail
 have K2:Keep (Go.Fxa.At b.qb) w1 (w1.setCell ⟨b.qb,7,none⟩ (.int .i64 ((P:Int)+2))):=Keep.set1 _
 have A2:b.At (w1.setCell ⟨b.qb,7,none⟩ (.int .i64 ((P:Int)+2))) true false A B (P+2) 0 (.slice (some ⟨b.qi,0,none⟩) b.L b.ic) told ks qs fc fs:=
  ⟨K2.old A1.k (fun e=>ne.2.1 e),A1.sz,A1.k0,A1.k1,A1.k2,A1.k7,K2.old A1.q (fun e=>ne.2.2 e),A1.q0,(aa2 A1.p _).trans rfl,A1.c.keep K2 (fun e=>ok.c3 e),A1.s.keep K2 (fun e=>ok.s3 e)⟩
 have KK2:Keep b.fp w (w1.setCell ⟨b.qb,7,none⟩ (.int .i64 ((P:Int)+2))):=K1.no.trans K2 (fun k _ e=>.inr e)
 have t2:ToldE base told (w1.setCell ⟨b.qb,7,none⟩ (.int .i64 ((P:Int)+2))) evs:=ad1 (ht.more K1) K2 (fun g hg e=>by have e:g=b.qb:=e;have:=lo b.qb (by simp[QB.foot]);omega)
 generalize w1.setCell ⟨b.qb,7,none⟩ (.int .i64 ((P:Int)+2))=w2 at*
 have hb2:base≤w2.heap.size:=Nat.le_trans hb KK2.size
 clear A1 K1 K2 c71 f7 c2 c7 h ht c5 c8
 have c5:w2.cell? ⟨b.qb,5,none⟩=some (.int .i64 A):=by rw[aa0 A2.p];rfl
 have c8:w2.cell? ⟨b.qb,8,none⟩=some (.slice (some ⟨b.qi,0,none⟩) b.L b.ic):=by rw[aa0 A2.p];rfl
 refine(asked_fault _ w2 b.qb A b.L b.ic _ c5 c8 hA hx).mono ?_
 rintro e w3 ⟨rfl,K3⟩
 have A3:=A2.keep K3 (fun _ _ x=>x)
 have KK3:Keep b.fp w w3:=KK2.then K3.no
 have t3:=t2.more K3
 have K3':Keep No w3 (w3.alloc (.cells #[.int .i64 0,.int .i64 0,.int .i64 0] 272)):=(Keep.refl _ _).alloc _
 generalize hw4:w3.alloc (.cells #[.int .i64 0,.int .i64 0,.int .i64 0] 272)=w4 at*
 have A4:=A3.keep K3' (fun _ _ x=>x)
 have KK4:Keep b.fp w w4:=KK3.then K3'.no
 have t4:=t3.more K3'
 clear A2 KK2 t2 K3 c5 c8 A3 KK3 t3 K3'
 have f5:=ab3 A4.p 5
 have f6:=ab3 A4.p 6
 have c54:w4.cell? ⟨b.qb,5,none⟩=some (.int .i64 A):=by rw[aa0 A4.p];rfl
 have c64:w4.cell? ⟨b.qb,6,none⟩=some (.int .i64 B):=by rw[aa0 A4.p];rfl
 subst hw4
 gi_wp2
 generalize w3.alloc (.cells #[.int .i64 0,.int .i64 0,.int .i64 0] 272)=w4 at*
 have K5:Keep (Go.Fxa.At b.qb) w4 ((w4.setCell ⟨b.qb,5,none⟩ (.int .i64 0)).setCell ⟨b.qb,6,none⟩ (.int .i64 1)):=((Keep.refl (Go.Fxa.At b.qb) w4).setCell (p:=⟨b.qb,5,none⟩) _ (fun _=>rfl)).setCell (p:=⟨b.qb,6,none⟩) _ (fun _=>rfl)
 have p5:((w4.setCell ⟨b.qb,5,none⟩ (.int .i64 0)).setCell ⟨b.qb,6,none⟩ (.int .i64 1)).heap[b.qb]?=some (rproc true false 0 1 (P+2) (.slice (some ⟨b.qi,0,none⟩) b.L b.ic) 0):=by
  have e:=aa2 (i:=6) (aa2 (i:=5) A4.p (.int .i64 0)) (.int .i64 1)
  rw[e];rfl
 have A5:b.At ((w4.setCell ⟨b.qb,5,none⟩ (.int .i64 0)).setCell ⟨b.qb,6,none⟩ (.int .i64 1)) true false 0 1 (P+2) 0 (.slice (some ⟨b.qi,0,none⟩) b.L b.ic) told ks qs fc fs:=
  ⟨K5.old A4.k (fun e=>ne.2.1 e),A4.sz,A4.k0,A4.k1,A4.k2,A4.k7,K5.old A4.q (fun e=>ne.2.2 e),A4.q0,p5,A4.c.keep K5 (fun e=>ok.c3 e),A4.s.keep K5 (fun e=>ok.s3 e)⟩
 have KK5:Keep b.fp w ((w4.setCell ⟨b.qb,5,none⟩ (.int .i64 0)).setCell ⟨b.qb,6,none⟩ (.int .i64 1)):=KK4.trans K5 (fun k _ e=>.inr e)
 have t5:ToldE base told ((w4.setCell ⟨b.qb,5,none⟩ (.int .i64 0)).setCell ⟨b.qb,6,none⟩ (.int .i64 1)) evs:=ad1 t4 K5 (fun g hg e=>by have e:g=b.qb:=e;have:=lo b.qb (by simp[QB.foot]);omega)
 generalize hw5:((w4.setCell ⟨b.qb,5,none⟩ (.int .i64 0)).setCell ⟨b.qb,6,none⟩ (.int .i64 1))=w5 at*
 have c106:w5.cell? ⟨b.rb,106,none⟩=some told:=(aa0 A5.k 106).trans A5.k7
 have c3:w5.cell? ⟨b.qb,3,none⟩=some (.int .i64 1):=by rw[aa0 A5.p];rfl
 have hb5:base≤w5.heap.size:=Nat.le_trans hb KK5.size
 clear hw5 A4 KK4 t4 c54 c64 f5 f6 p5 K5
 have hbd:=build_ev w5.drew 1 0 1
 refine ag5 (P:=Tryz.prog) _ rfl rfl (by kernel_rfl) 15 76 [0,1,2,3,4,5,6,7,8,9,10,11,12] [13,14] (by kernel_rfl) (by rfl)
  (TellI w5.drew base told evs (1,0,1)) (fun L L' u u' W hh hI=>by
   have h13:=hh 13 (by simp)
   have h14:=hh 14 (by simp)
   unfold TellI at hI ⊢
   rw[←h13.1,←h13.2,←h14.1,←h14.2]
   exact hI) _ _ rfl rfl ?_
 gi_wp2
 refine⟨rfl,by kernel_rfl,?_,?_,?_,?_⟩
 ·intro u
  exact⟨Keep.refl _ _,fun _=>⟨Keep.refl _ _,t5⟩,fun hx=>absurd hx (by decide),fun hx=>absurd hx (by decide)⟩
 ·intro L u W hI
  have nf:∀k,b.foot k→¬told.ownBlock=some k:=fun k hk e=>by
   have:=lo k hk
   have:=(t5.lt k e).1
   omega
  have d106:=(hI.1.cell (w:=w5.drew) (p:=⟨b.rb,106,none⟩) (ab2 A5.k) (nf _ (.inl rfl))).trans c106
  have d3:=(hI.1.cell (w:=w5.drew) (p:=⟨b.qb,3,none⟩) (ab2 A5.p) (nf _ (.inr (.inr (.inl rfl))))).trans c3
  have hbd:=build_ev W 1 0 1
  repeat' (refine aa8 ?_ ?_)
  all_goals first|exact trivial|gi_wp2
 ·intro i hi L u W hI hLi hu
  obtain⟨hI1,hI2,hI3,hI4⟩:=hI
  rcases(by simpa using hi:i=13∨i=14)with rfl|rfl
  ·refine ac4 rfl fun KK hKK=>?_
   show wpListIn NF m Tryz.prog _ _ _ (Act.put (Act.put _ (some 72) (u 13)) (some 73) (u 14)) _
   gi_wp2
   have Ka:Keep No W (W.alloc (.cells #[.int .i64 1,.int .i64 1,.int .i64 0,.int .i64 1] 59)):=(Keep.refl _ _).alloc _
   exact⟨_,rfl,hI1.then Ka.no,fun hx=>⟨(hI2 hx).1.then Ka,(hI2 hx).2.more Ka⟩,fun _=>⟨_,rfl,fun _=>aa4 rfl⟩,fun hx=>(hI4 hx).more Ka⟩
  ·obtain⟨vb,hv1,hv2⟩:=hI3 (hu 13 (by simp) (by decide))
   have hv2:=hv2 hLi
   obtain⟨KN,t2⟩:=hI2 hLi
   have t2':W.ownsRow base 59 4 told evs.length (evsC evs):=t2
   show wpOpIn NF m Tryz.prog _ _ _ (fun a' W'=>∃v,a'=Act.put (Act.put (Act.put _ (some 72) (u 13)) (some 73) (u 14)) (some 73) v∧_) (Act.put (Act.put _ (some 72) (u 13)) (some 73) (u 14)) _
   rw[hv1]
   refine ac4 rfl fun KK hKK=>?_
   have szW:base≤W.heap.size:=Nat.le_trans hb5 KN.size
   refine wpListIn_append_own _ rfl (.tmp 63) (.tmp 72) 43 rfl base 59 i0 (.agg #[.int .i64 0,.int .i64 0,.int .i64 0,.int .i64 0]) 4 32 Tryz.underlying43 hi0 hz0 hz1 hz2 rfl (by decide) told evs.length (evsC evs) rfl t2' ⟨vb,0,none⟩ 1 1 (evC (1,0,1)) rfl rfl ?_ ?_ ?_ ?_ szW ?_
   ·intro q u hq
    have ea:(⟨vb,0,none⟩:Addr).add q=⟨vb,q,none⟩:=by rw[Addr.add_lit,Nat.zero_add]
    rw[ea]
    refine(aa0 hv2 q).trans ?_
    match q,hq with
    | 0,hq=>simpa [evC]using hq
    | 1,hq=>simpa [evC]using hq
    | 2,hq=>simpa [evC]using hq
    | 3,hq=>simpa [evC]using hq
   ·simp[evC,Value.oneCell']
   ·unfold maxLen;omega
   ·omega
   ·intro v' w4 hown hgrow _
    refine⟨rfl,hKK _ _ ⟨v',rfl,?_⟩⟩
    refine⟨KN.no.then (ae7 hgrow fun k hk _=>hk),fun hx=>absurd hx (by simp[did1]),fun _=>⟨vb,by rw[←hv1];rfl,fun hx=>absurd hx (by simp[did1])⟩,fun _=>told_push hown⟩
 ·intro L u W hI hL
  obtain⟨hI1,hI2,hI3,hI4⟩:=hI
  have t12:=hI4 (hL 14 (by simp))
  obtain⟨vb,hv1,_⟩:=hI3 (hL 13 (by simp))
  have nf:∀k,b.foot k→¬told.ownBlock=some k:=fun k hk e=>by
   have:=lo k hk
   have:=(t5.lt k e).1
   omega
  show wpListIn NF m Tryz.prog _ _ _ (Act.put (Act.put _ (some 72) (u 13)) (some 73) (u 14)) _
  generalize u 14=told' at*
  rw[hv1]
  have k1:=hI1.old (w:=w5.drew) A5.k (nf _ (.inl rfl))
  have e1:W.cell? ⟨b.rb,106,none⟩=some told:=(aa0 k1 106).trans A5.k7
  have f1:=ab3 k1 106
  have t12s:∃ad ln cp,told'=.slice ad ln cp:=by
   rcases t12.2 with⟨rfl,_⟩|⟨g,cap,cur,rfl,_⟩<;>exact⟨_,_,_,rfl⟩
  obtain⟨ad,ln,cp,rfl⟩:=t12s
  have KW:Keep (fun k=>b.fp k∨told.ownBlock=some k) w W:=(KK5.mono (fun _ _ h=>.inl h)).trans ((Keep.refl _ w5).drew.then hI1) (fun k _ hk=>.inr hk)
  have K2:Keep (fun k=>b.fp k∨told.ownBlock=some k) w (W.setCell ⟨b.rb,106,none⟩ (.slice ad ln cp)):=KW.setCell _ (fun _=>.inl (.inl rfl))
  have A6:b.At W true false 0 1 (P+2) 0 (.slice (some ⟨b.qi,0,none⟩) b.L b.ic) told ks qs fc fs:=QB.At.keep (b:=b) (S:=fun k=>told.ownBlock=some k) (w':=W) A5 ((Keep.refl _ w5).drew.then hI1) (fun k hk=>nf k (by rcases hk with e|e|e|e|e<;>simp[QB.foot,e]))
  have K3:Keep (Go.Fxa.At b.rb) W (W.setCell ⟨b.rb,106,none⟩ (.slice ad ln cp)):=Keep.set1 _
  have A7:b.At (W.setCell ⟨b.rb,106,none⟩ (.slice ad ln cp)) true false 0 1 (P+2) 0 (.slice (some ⟨b.qi,0,none⟩) b.L b.ic) (.slice ad ln cp) (ks.setIfInBounds 106 (.slice ad ln cp)) qs fc fs:=
   ⟨aa2 k1 _,by simpa using A5.sz,(ac0 (by decide)).trans A5.k0,(ac0 (by decide)).trans A5.k1,(ac0 (by decide)).trans A5.k2,aj6 A5.k7,K3.old A6.q (fun e=>ne.1 e.symm),A5.q0,K3.old A6.p (fun e=>ne.2.1 e.symm),A6.c.keep K3 (fun e=>ok.c1 e),A6.s.keep K3 (fun e=>ok.s1 e)⟩
  have t7:ToldE base (.slice ad ln cp) (W.setCell ⟨b.rb,106,none⟩ (.slice ad ln cp)) (evs++[(1,0,1)]):=ad1 t12 K3 (fun g hg e=>by have e:g=b.rb:=e;have:=lo b.rb (.inl rfl);omega)
  gi_wp2
  generalize W.setCell ⟨b.rb,106,none⟩ (.slice ad ln cp)=w2 at*
  go_end0
  exact⟨by simp,K2,_,t7,_,A7⟩
set_option maxHeartbeats 8000000 in
theorem rcalls_exit (b:QB) (ok:b.Ok) (base:Nat) (A B P:Nat) (told:Value) (ks qs:Array Value) (fc fs:Nat→Int) (evs:List (Nat×Nat×Nat)) (h:b.At w true false A B P 0 (.slice (some ⟨b.qi,0,none⟩) b.L b.ic) told ks qs fc fs) (ht:ToldE base told w evs) (hb:base≤w.heap.size) (hl:evs.length≤100000) (lo:∀k,b.foot k→k<base) (hP:P≤65536) (x:Nat) (hA:A<65536) (hx:A+1≤b.L) (hi:w.cell? ⟨b.qi,A,none⟩=some (.int .i64 x)):
  CallsIn NF m Tryz.prog 117 #[.pointer (some ⟨b.rb,0,none⟩),.pointer (some ⟨b.qb,0,none⟩),.int .i64 1] w fun e w'=>e=.returned (.tuple #[])∧Keep (fun k=>b.foot k∨told.ownBlock=some k) w w'∧∃told' ks' fc' fs',ToldE base told' w' (evs++[(1,x,0)])∧b.At w' false true A B (P+2) x (.slice none 0 0) told' ks' qs fc' fs':=by
 have c2:w.cell? ⟨b.qb,2,none⟩=some (.bool false):=by rw[aa0 h.p];rfl
 have c7:w.cell? ⟨b.qb,7,none⟩=some (.int .i64 P):=by rw[aa0 h.p];rfl
 have c5:w.cell? ⟨b.qb,5,none⟩=some (.int .i64 A):=by rw[aa0 h.p];rfl
 have c8:w.cell? ⟨b.qb,8,none⟩=some (.slice (some ⟨b.qi,0,none⟩) b.L b.ic):=by rw[aa0 h.p];rfl
 obtain⟨i0,hi0,hz0,hz1,hz2⟩:=info_parts info157
 have ne:=h.ne
 gi_enter Tryz.func117,Tryz.ntmps117
 gi_wp2_with fail
 refine(blocked_exit _ w b.rb b.qb A b.L b.ic b.qi x c5 c8 hi hA hx).mono ?_
 rintro e w1 ⟨rfl,K1⟩
 have A1:=h.keep K1 (fun _ _ x=>x)
 have c71:=K1.has c7
 have f7:=ab3 A1.p 7
 have hP2:(P:Int)+2<9223372036854775808:=by omega
 gi_wp2_with fail
 have K2:Keep (Go.Fxa.At b.qb) w1 (w1.setCell ⟨b.qb,7,none⟩ (.int .i64 ((P:Int)+2))):=Keep.set1 _
 have A2:b.At (w1.setCell ⟨b.qb,7,none⟩ (.int .i64 ((P:Int)+2))) true false A B (P+2) 0 (.slice (some ⟨b.qi,0,none⟩) b.L b.ic) told ks qs fc fs:=
  ⟨K2.old A1.k (fun e=>ne.2.1 e),A1.sz,A1.k0,A1.k1,A1.k2,A1.k7,K2.old A1.q (fun e=>ne.2.2 e),A1.q0,(aa2 A1.p _).trans rfl,A1.c.keep K2 (fun e=>ok.c3 e),A1.s.keep K2 (fun e=>ok.s3 e)⟩
 have KK2:Keep b.fp w (w1.setCell ⟨b.qb,7,none⟩ (.int .i64 ((P:Int)+2))):=K1.no.trans K2 (fun k _ e=>.inr e)
 have t2:ToldE base told (w1.setCell ⟨b.qb,7,none⟩ (.int .i64 ((P:Int)+2))) evs:=ad1 (ht.more K1) K2 (fun g hg e=>by have e:g=b.qb:=e;have:=lo b.qb (by simp[QB.foot]);omega)
 have hi2:=(K2.cell (p:=⟨b.qi,A,none⟩) (World.block_lt_of_cell? _ _ (K1.has hi)) (fun e=>ok.i3 e)).trans (K1.has hi)
 generalize w1.setCell ⟨b.qb,7,none⟩ (.int .i64 ((P:Int)+2))=w2 at*
 have hb2:base≤w2.heap.size:=Nat.le_trans hb KK2.size
 clear A1 K1 K2 c71 f7 c2 c7 h ht c5 c8
 have c5:w2.cell? ⟨b.qb,5,none⟩=some (.int .i64 A):=by rw[aa0 A2.p];rfl
 have c8:w2.cell? ⟨b.qb,8,none⟩=some (.slice (some ⟨b.qi,0,none⟩) b.L b.ic):=by rw[aa0 A2.p];rfl
 refine(asked_exit _ w2 b.qb A b.L b.ic b.qi x c5 c8 (hi2) hA hx).mono ?_
 rintro e w3 ⟨rfl,K3⟩
 have A3:=A2.keep K3 (fun _ _ x=>x)
 have KK3:Keep b.fp w w3:=KK2.then K3.no
 have t3:=t2.more K3
 have K3':Keep No w3 (w3.alloc (.cells #[.int .i64 x,.int .i64 0,.int .i64 0] 272)):=by
  have e:=((Keep.refl No w3).alloc (.cells #[.int .i64 0,.int .i64 0,.int .i64 0] 272))
  exact(Keep.refl _ _).alloc _
 clear A2 KK2 t2 K3 c5 c8
 gi_wp2_with fail
 have A4:=A3.keep K3' (fun _ _ x=>x)
 have KK4:Keep b.fp w _:=KK3.then K3'.no
 have t4:=t3.more K3'
 refine(ak2 _ _ b ok base A B (P+2) x _ told ks qs fc fs evs A4 t4 (Nat.le_trans hb KK4.size) hl lo).mono ?_
 rintro e w5 ⟨rfl,K5,told',ks',fc',fs',t5,A5⟩
 gi_wp2
 refine bodyPost_ret (results_none rfl _ _ _) rfl ?_
 exact⟨rfl,(KK4.mono (fun _ _ h=>.inl (h.elim .inl fun e=>.inr (.inr (.inl e))))).then K5,told',ks',fc',fs',t5,A5⟩
end
structure QB.Img (b:QB) (w:World):Prop where
 c:∀i,i<b.L→w.cell? ⟨b.qi,i,none⟩=some (.int .i64 (b.img i))
 z:∃cs,w.heap[b.qi]?=some (.cells cs 3 (0,0))
theorem QB.Img.keep {b:QB} {w w':World} {S:Nat→Prop} (h:b.Img w) (hK:Keep S w w') (hn:¬S b.qi):b.Img w':=
 ⟨fun i hi=>(hK.cell (p:=⟨b.qi,i,none⟩) (World.block_lt_of_cell? _ _ (h.c i hi)) hn).trans (h.c i hi),let ⟨cs,hz⟩:=h.z;⟨cs,hK.old hz hn⟩⟩
def QB.Next (b:QB) (base:Nat) (qs:Array Value) (fc fs:Nat→Int) (w:World) (evs:List (Nat×Nat×Nat)):Option (Nat×Nat×Nat)→Prop
 | some t=>∃told ks,ToldE base told w evs∧b.At w true false t.1 t.2.1 t.2.2 0 (.slice (some ⟨b.qi,0,none⟩) b.L b.ic) told ks qs fc fs∧b.Img w
 | none=>∃told ks fc' fs' A B P st,ToldE base told w evs∧b.At w false true A B P st (.slice none 0 0) told ks qs fc' fs'
theorem stepE_fit {L:Nat} {img:Nat→Nat} {s t:Nat×Nat×Nat} (hL:L≤128) (hw:∀i,i<L→img i<65536) (hA:s.1<65536) (hB:s.2.1<65536) (hP:s.2.2<65536) (h:(ac8 L img s).1=some t):t.1<65536∧t.2.1<65536∧t.2.2<65536:=by
 have f:=stepM_fit hL hw hA hB hP
 unfold ac8 at h
 split at h
 ·rename_i hp
  simp only[Option.some.injEq]at h
  subst h
  have:=hp.1
  exact⟨hA,hB,by simp only;omega⟩
 simp only at h
 split at h
 ·simp only[Option.some.injEq]at h;subst h;exact⟨f.2.2.1,f.2.2.2.1,f.2.2.2.2⟩
 split at h
 ·split at h
  ·simp only[Option.some.injEq]at h;subst h;simp;exact f.2.2.2.2
  split at h
  ·simp at h
  ·simp only[Option.some.injEq]at h;subst h;simp;exact f.2.2.2.2
 ·simp at h
section
variable (m:Nat) (w:World)
theorem cut_add (a c r:Nat) (ha:a<65536) (hc:c<65536) (hr:(a+c) % 65536=r):CallsIn NF m Tryz.prog 118 #[.int .i64 ((a:Int)+(c:Int))] w fun e w'=>e=.returned (.int .i64 r)∧w'=w:=by
 have e:(((a:Int)+c) % 65536+65536) % 65536=(r:Int):=by omega
 gi_enter Tryz.func118,Tryz.ntmps118
 gi_wp2
 go_ret
 exact⟨by simp[e],rfl⟩
theorem cut_sub (a c r:Nat) (ha:a<65536) (hc:c<65536) (hr:(a+65536-c) % 65536=r):CallsIn NF m Tryz.prog 118 #[.int .i64 ((a:Int)-(c:Int))] w fun e w'=>e=.returned (.int .i64 r)∧w'=w:=by
 have t:((a:Int)-c).tmod 65536=(a:Int)-c:=by
  rw[tmod_eq_if]
  split<;>omega
 have t2:((a:Int)-c+65536).tmod 65536=((a:Int)-c+65536) % 65536:=Int.tmod_eq_emod_of_nonneg (by omega)
 have e:((a:Int)-c+65536) % 65536=(r:Int):=by omega
 have e0:(wrap64 (((a:Int)-c).tmod 65536+65536)).tmod 65536=(r:Int):=by
  rw[t]
  have:wrap64 ((a:Int)-c+65536)=(a:Int)-c+65536:=by unfold wrap64;omega
  rw[this,t2,e]
 gi_enter Tryz.func118,Tryz.ntmps118
 gi_wp2
 go_ret
 exact⟨by simp,rfl⟩
end
end Go.Fxa
