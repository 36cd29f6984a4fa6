/- The pieces of goOn, walked: the bad end, the answer taken. goOn of this program: its Story, its Opening. The document's answer: its kernel in memory; find, State, bring. The document's answer: bring, close, end. The document's answer: a process ends. The document's answer: what a call asks for. -/
import Derived.Test.YtmhplpfpcnjekaaGreatK21
namespace Go.Fxa
open Go.Conc
open Go.Proofs
open Go.RowKit
set_option maxRecDepth 1000000
section
variable {b:KB} {s0:Nat×Nat×Nat} {v0:World} {n:Nat} {m:Nat} {w:World} {r:Nat} {i:Int} {told x:Value} {bA:Nat} {f:Nat→Value}
set_option maxHeartbeats 2000000 in
theorem piece_bad (ok:b.Ok) (old:∀k,b.foot k→k<v0.heap.size) (hn:n≤1000) (h:SB b s0 v0 n told w):(R21 Tryz.prog).wpIn NF m Tryz.prog (Ends fun tm w'=>∃f' told',tm=TN 76 (ups f' [(7,told')])∧SF b s0 v0 n told' w') ⟨TN 76 (ups f (slS (.pointer (some ⟨b.kb,0,none⟩)) ⟨b.pb,0,none⟩ told r)),[]⟩ w:=by
 obtain⟨j,s,evs,hj,hr,hnp,hrun,⟨ks,prs,x0,x1,h⟩,hkeep,htold,hfit⟩:=h
 have he:ac8 b.L (imgE b.L b.img s0 j) s=(none,[(1,65535,0)]):=by
  unfold ac8
  rw[if_neg hnp]
  simp only
  rw[if_neg (by rw[show(ai2 b.L (imgE b.L b.img s0 j) s.1 s.2.1 s.2.2).1=2 from hr];decide),if_neg (by rw[show(ai2 b.L (imgE b.L b.img s0 j) s.1 s.2.1 s.2.2).1=2 from hr];decide)]
 obtain⟨i0,hi,hz0,hz1,hz2⟩:=info_parts info59
 have hlen:=runE_len (L:=b.L) (img:=b.img) (s:=s0) j
 rw[hrun]at hlen
 simp only at hlen
 have hend:=fun m=>end_calls m w b.kb b.prb b.pc b.pb b.cb b.sb b.N b.M _ _ _ b.ib b.L b.fb 65535 ks prs x0 x1 h.p h.k h.k0 h.k1 h.k2 ok.pc h.r h.r0 h.m0 h.m1 (fun q hq=>h.f.cell hq) ok.L1 ok.L2 ok.N5 ok.M5 h.c0 h.m1.blk
 clear h hr hfit
 rw[R21_eq]
 show Code.wpIn (Fence.list LF none) m Tryz.prog _ _ ⟨#[.pointer (some ⟨b.kb,0,none⟩),.pointer (some ⟨b.pb,0,none⟩),f 2,f 3,f 4,f 5,f 6,told,pr r,f 9,f 10,f 11,f 12,f 13,f 14,f 15,f 16,f 17,f 18,f 19,f 20,f 21,f 22,f 23,f 24,f 25,f 26,f 27,f 28,f 29,f 30,f 31,f 32,f 33,f 34,f 35,f 36,f 37,f 38,f 39,f 40,f 41,f 42,f 43,f 44,f 45,f 46,f 47,f 48,f 49,f 50,f 51,f 52,f 53,f 54,f 55,f 56,f 57,f 58,f 59,f 60,f 61,f 62,f 63,f 64,f 65,f 66,f 67,f 68,f 69,f 70,f 71,f 72,f 73,f 74,f 75],[]⟩ _
 gi_wp2_with fail
 refine(hend _).mono ?_
 rintro e w1 ⟨rfl,K1,p1,ks',k1,k1'⟩
 have c0:w1.cell? ⟨b.pb,0,none⟩=some (.int .i64 1):=by rw[aa0 p1];rfl
 have KK1:Keep b.foot v0 w1:=hkeep.then (K1.mono fun k _ hk=>five_foot hk)
 have t1:ToldE v0.heap.size told w1 evs:=ad1 htold K1 (fun g hg hf=>by have:=old g (five_foot hf);omega)
 gi_wp2_with fail
 refine(event_calls _ w1 b.pb 1 65535 0 c0 (by decide) (by decide) (by decide)).mono ?_
 rintro e w2 ⟨K2,rfl⟩
 have K3:Keep No w1 (w2.alloc (.cells #[.int .i64 1,.int .i64 (1:Nat),.int .i64 (65535:Nat),.int .i64 (0:Nat)] 59)):=K2.alloc _
 have t3:(w2.alloc (.cells #[.int .i64 1,.int .i64 (1:Nat),.int .i64 (65535:Nat),.int .i64 (0:Nat)] 59)).ownsRow v0.heap.size 59 4 told evs.length (evsC evs):=t1.more K3
 have b3:(w2.alloc (.cells #[.int .i64 1,.int .i64 (1:Nat),.int .i64 (65535:Nat),.int .i64 (0:Nat)] 59)).heap[w2.heap.size]?=some (.cells #[.int .i64 1,.int .i64 (1:Nat),.int .i64 (65535:Nat),.int .i64 (0:Nat)] 59 (0,0)):=aa4 rfl
 have sz:v0.heap.size≤(w2.alloc (.cells #[.int .i64 1,.int .i64 (1:Nat),.int .i64 (65535:Nat),.int .i64 (0:Nat)] 59)).heap.size:=Nat.le_trans KK1.size K3.size
 gi_wp2_with (gi_at_builtin;refine wpListIn_append_own _ rfl (.tmp 67) (.tmp 73) 43 rfl v0.heap.size 59 i0 (.agg #[.int .i64 0,.int .i64 0,.int .i64 0,.int .i64 0]) 4 32 Tryz.underlying43 hi hz0 hz1 hz2 rfl (by decide) told evs.length (evsC evs) rfl t3 ⟨w2.heap.size,0,none⟩ 1 1 (evC (1,65535,0)) rfl rfl ?_ ?_ ?_ ?_ sz ?_)
 ·intro q u hq
  have ea:(⟨w2.heap.size,0,none⟩:Addr).add q=⟨w2.heap.size,q,none⟩:=by rw[Addr.add_lit,Nat.zero_add]
  rw[ea]
  refine(aa0 b3 q).trans ?_
  match q,hq with
  | 0,hq=>simpa [evC]using hq
  | 1,hq=>simpa [evC]using hq
  | 2,hq=>simpa [evC]using hq
  | 3,hq=>simpa [evC]using hq
 ·simp[evC,Value.oneCell']
 ·unfold maxLen;omega
 ·omega
 ·intro v' w4 hown hgrow _
  have K4:Keep (fun k=>told.ownBlock=some k) (w2.alloc (.cells #[.int .i64 1,.int .i64 (1:Nat),.int .i64 (65535:Nat),.int .i64 (0:Nat)] 59)) w4:=ae7 hgrow (fun k hk _=>hk)
  gi_wp2
  have ht:ToldE v0.heap.size v' w4 (evs++[(1,65535,0)]):=told_push hown
  have lo:∀k,k<v0.heap.size→¬told.ownBlock=some k:=fun k hk h=>absurd (t3.lt k h).1 (by omega)
  have hrun1:runE b.L b.img s0 (j+1)=(none,evs++[(1,65535,0)]):=by
   rw[ai7 hrun,he]
  exact⟨rfl,rfl,_,v',af1 rfl (by simp),none,evs++[(1,65535,0)],runE_over hrun1 (by omega),(KK1.then K3.no).trans K4 (fun k hk h=>absurd h (lo k hk)),ht,(fun s hs=>by cases hs),fun _=>⟨ks',_,_,K4.old (K3.old k1 id) (lo _ (old _ (.inl rfl))),k1'⟩⟩
theorem after_answer {j res wr A' B P:Nat} {evs:List (Nat×Nat×Nat)} {ks prs:Array Value} {x0 x1:Value} {X:Obj} (old:∀k,b.foot k→k<v0.heap.size) (hres:res<65536) (hwr:wr<65536) (hrun:runE b.L b.img s0 (j+1)=(some (res,wr,P),evs)) (hkeep:Keep b.foot v0 w) (htold:ToldE v0.heap.size told w evs) (hsm:Same b s0 j) (h:(b.at s0 j).At w true A' B P ks prs x0 x1):
  SI b s0 v0 ((j:Int)+1) told (((w.setCell ⟨b.pb,5,none⟩ (.int .u16 res)).setCell ⟨b.pb,6,none⟩ (.int .u16 wr)).alloc X).drew:=by
 have p5:w.heap[b.pb]?=some (proc A' B P b.ib b.L b.fb 0):=h.p
 have lp:=ab2 h.p
 have p6:((w.setCell ⟨b.pb,5,none⟩ (.int .u16 res)).setCell ⟨b.pb,6,none⟩ (.int .u16 wr)).heap[b.pb]?=some (proc res wr P b.ib b.L b.fb 0):=by
  have e:=aa2 (i:=6) (aa2 (i:=5) p5 (.int .u16 res)) (.int .u16 wr)
  rw[e];rfl
 have K5:Keep (At b.pb) w (((w.setCell ⟨b.pb,5,none⟩ (.int .u16 res)).setCell ⟨b.pb,6,none⟩ (.int .u16 wr)).alloc X).drew:=((((Keep.refl (At b.pb) w).setCell (p:=⟨b.pb,5,none⟩) _ (fun _=>rfl)).setCell (p:=⟨b.pb,6,none⟩) _ (fun _=>rfl)).alloc _).drew
 have p7:(((w.setCell ⟨b.pb,5,none⟩ (.int .u16 res)).setCell ⟨b.pb,6,none⟩ (.int .u16 wr)).alloc X).drew.heap[b.pb]?=some (proc res wr P b.ib b.L b.fb 0):=(ab5 (ab2 p6)).trans p6
 generalize (((w.setCell ⟨b.pb,5,none⟩ (.int .u16 res)).setCell ⟨b.pb,6,none⟩ (.int .u16 wr)).alloc X).drew=W at*
 have lo:=old b.pb (.inr (.inr (.inl rfl)))
 refine⟨j+1,(res,wr,P),evs,by omega,hrun,?_,hkeep.trans K5 (fun k _ e=>.inr (.inr (.inl e))),ad1 htold K5 (fun g hg e=>?_),?_⟩
 ·show(b.im (imgE b.L b.img s0 (j+1))).on _ _ _ _ _
  rw[hsm.1]
  exact⟨ks,prs,x0,x1,K5.old h.k (h.off1 (by simp)),h.k0,h.k1,h.k2,K5.old h.r (h.off1 (by simp)),h.r0,p7,h.i.keep K5 (h.off1 (by simp)),h.f.keep K5 (h.off1 (by simp)),Took.keep h.m0 K5 (h.off1 (by simp)),h.m1.keep K5 (h.off1 (by simp)),hres,hwr,h.pp⟩
 ·have e:g=b.pb:=e
  omega
 ·show(b.im (imgE b.L b.img s0 (j+1))).Fit
  rw[hsm.1]
  exact hsm.2
theorem comm_ans (q1 q3:Nat) (A:Value):commResult (an1 q1 q3) .select 0 A true=.tuple #[.int .i64 0,.bool true,A,.agg #[]]:=by kernel_rfl
set_option maxHeartbeats 2000000 in
theorem piece_answered (q1 q3:Nat) (A:Value) (old:∀k,b.foot k→k<v0.heap.size) (h:SA b s0 v0 n i told A w):(ansC Tryz.prog).wpIn NF m Tryz.prog (Rets fun tm w'=>∃g,tm=TN 49 (ups g [(6,.bool true)])∧SI b s0 v0 (i+1) told w') ⟨TN 49 (ups f (slA q1 q3 (svOf ⟨b.pb,0,none⟩) A)),[]⟩ w:=by
 obtain⟨j,evs,res,wr,A',B,P,rfl,hj,hres,hwr,rfl,hrun,hkeep,htold,⟨ks,prs,x0,x1,h⟩,hsm⟩:=h
 rw[ansC_eq]
 unfold slA
 rw[comm_ans]
 show Code.wpIn (Fence.list LF none) m Tryz.prog _ _ ⟨#[f 0,.pointer (some ⟨b.pb,5,none⟩),f 2,f 3,f 4,f 5,f 6,f 7,f 8,f 9,f 10,f 11,f 12,f 13,f 14,f 15,f 16,f 17,f 18,f 19,f 20,f 21,f 22,f 23,f 24,f 25,f 26,f 27,f 28,.tuple #[.int .i64 0,.bool true,.agg #[.int .u16 res,.int .u16 wr,.nilFunc],.agg #[]],f 30,f 31,f 32,f 33,f 34,f 35,f 36,f 37,f 38,f 39,f 40,f 41,f 42,f 43,f 44,f 45,f 46,f 47,f 48],[]⟩ _
 have K1:Keep No w (w.alloc (.cells #[.int .u16 res,.int .u16 wr,.nilFunc] 206)):=(Keep.refl _ _).alloc _
 have hp0:w.heap[b.pb]?=some (proc A' B P b.ib b.L b.fb 0):=h.p
 have p1:=K1.old hp0 id
 have lp:=ab2 hp0
 have f5:=ab3 p1 5
 have f6:=ab3 p1 6
 have c5:(w.alloc (.cells #[.int .u16 res,.int .u16 wr,.nilFunc] 206)).cell? ⟨b.pb,5,none⟩=some (.int .u16 A'):=by rw[aa0 p1];rfl
 have c6:(w.alloc (.cells #[.int .u16 res,.int .u16 wr,.nilFunc] 206)).cell? ⟨b.pb,6,none⟩=some (.int .u16 B):=by rw[aa0 p1];rfl
 have p2:=aa2 (i:=5) hp0 (.int .u16 res)
 have K2:Keep No (w.setCell ⟨b.pb,5,none⟩ (.int .u16 res)) ((w.setCell ⟨b.pb,5,none⟩ (.int .u16 res)).alloc (.cells #[.int .u16 res,.int .u16 wr,.nilFunc] 206)):=(Keep.refl _ _).alloc _
 have p3:=K2.old p2 id
 have f6':=ab3 p3 6
 have c6':((w.setCell ⟨b.pb,5,none⟩ (.int .u16 res)).alloc (.cells #[.int .u16 res,.int .u16 wr,.nilFunc] 206)).cell? ⟨b.pb,6,none⟩=some (.int .u16 B):=by rw[aa0 p3];rfl
 have hq:=neq_nil (w.alloc (.cells #[.int .u16 res,.int .u16 wr,.nilFunc] 206))
 gi_wp2
 gi_region
 all_goals gi_wp2
 all_goals exact⟨rfl,rfl,_,af1 rfl (by simp),after_answer old hres hwr hrun hkeep htold hsm h⟩
end
end Go.Fxa
namespace Go.Fxa
open Go.Conc
open Go.Proofs
open Go.RowKit
section
variable (b:KB) (s0:Nat×Nat×Nat) (v0:World) (n m:Nat)
def storyOf (ok:b.Ok) (sf:∀j s evs,j<n→runE b.L b.img s0 j=(some s,evs)→Safe b.L (imgE b.L b.img s0 j) s) (old:∀k,b.foot k→k<v0.heap.size) (hn:n≤1000):Story Tryz.prog NF m (.pointer (some ⟨b.kb,0,none⟩)) ⟨b.pb,0,none⟩ (n:Nat) where
 I:=SI b s0 v0
 Cd:=SC b s0 v0 n
 Bd:=SB b s0 v0 n
 D:=SD b s0 v0 n
 E0:=SE0 b s0 v0 n
 E:=SE b s0 v0 n
 An:=SA b s0 v0 n
 Fin:=SF b s0 v0 n
 tI:=fun _ _ v τ d h=>h.more (af3 v τ d)
 tC:=fun _ _ _ v τ d h=>h.more (af3 v τ d)
 tB:=fun _ v τ d h=>h.more (af3 v τ d)
 tD:=fun _ _ _ _ v τ d h=>h.more (af3 v τ d)
 tE0:=fun _ _ _ v τ d h=>h.more (af3 v τ d)
 tE:=fun _ _ _ v τ d h=>h.more (af3 v τ d)
 tA:=fun _ _ _ v τ d h=>h.more (af3 v τ d)
 tF:=fun _ v τ d h=>h.more (af3 v τ d)
 step:=fun r i told v f h _ hi τ d=>piece_step ok sf old (h.more (af3 v τ d)) hi
 serve:=fun r i told x v f h τ d=>piece_serve ok sf old (h.more (af3 v τ d))
 asked:=fun r i told x bA v f h τ d=>piece_asked (h.more (af3 v τ d))
 tells:=fun r i told x bA v f h τ d=>piece_tells old (h.more (af3 v τ d)) hn
 ended:=fun r i told bA v f h τ d=>piece_ended (h.more (af3 v τ d))
 answer:=fun i told bA v ⟨j,evs,res,wr,A,B,P,h1,h2,h3,h4,h5,h6,h7,h8⟩=>⟨.int .u16 res,.int .u16 wr,.nilFunc,⟨by rw[aa0 h6.blk];rfl,by rw[aa0 h6.blk];rfl,by rw[aa0 h6.blk];rfl,trivial⟩,j,evs,res,wr,A,B,P,h1,h2,h6.res,h6.wr,rfl,h3,h4,h5,h7,h8⟩
 grow:=fun i told A v v' h hg=>h.more (grows_keep hg)
 answered:=fun q1 q3 i told A v f h _ _ τ d=>piece_answered q1 q3 A old (h.more (af3 v τ d))
 bad:=fun r told v f h τ d=>piece_bad ok old hn (h.more (af3 v τ d))
 spent:=fun told v ⟨j,s,evs,h1,h2⟩=>by
  obtain rfl:j=n:=by omega
  exact⟨some s,evs,h2.run,h2.keep,h2.told,fun s' hs=>by cases hs;exact⟨h2.on,h2.fit⟩,fun h=>by cases h⟩
def openOf (ok:b.Ok) (fit:b.Fit) (sf:∀j s evs,j<n→runE b.L b.img s0 j=(some s,evs)→Safe b.L (imgE b.L b.img s0 j) s) (old:∀k,b.foot k→k<v0.heap.size) (hn:n≤1000):Opening (storyOf b s0 v0 n m ok sf old hn) where
 B0:=SO b s0 v0
 B2:=SO2 b s0 v0
 B3:=SO2 b s0 v0
 t2:=fun v τ d h=>h.more (af3 v τ d)
 t3:=fun v τ d h=>h.more (af3 v τ d)
 bring:=fun v _ h τ d=>piece_bring ok (h.more (af3 v τ d)) _
 clear:=fun v _ h τ d=>piece_clear (h.more (af3 v τ d)) _
 start:=fun _ _ h hg=>⟨0,s0,[],rfl,rfl,h.2.keep (grows_keep hg) fun _ _ x=>x,h.1.then (grows_keep hg).no,World.ownsRow_nil _ _ _ _,fit⟩
end
end Go.Fxa
namespace Go.Fxa
open Go.Conc
open Go.Proofs
open Go.RowKit
set_option maxRecDepth 1000000
section
variable (m:Nat) (w:World)
theorem rfind_out (rb:Nat) (pid:Int) (c:Nat) (a:Option Addr) (hk:w.cell? ⟨rb,2,none⟩=some (.slice a 1 c)) (hp:pid<1∨1<pid):
  CallsIn NF m Tryz.prog 71 #[.pointer (some ⟨rb,0,none⟩),.int .i64 pid] w fun e w'=>e=.returned (.pointer none)∧w'=w:=by
 rcases hp with hp|hp
 ·have hp':¬(1≤pid):=by omega
  gi_enter Tryz.func71,Tryz.ntmps71
  gi_wp2
  go_ret
  exact⟨by simp,rfl⟩
 ·have hp':¬(pid<1):=by omega
  gi_enter Tryz.func71,Tryz.ntmps71
  gi_wp2
  go_ret
  exact⟨by simp,rfl⟩
theorem rfind_one (rb qrb qb c:Nat) (th:Bool) (hk:w.cell? ⟨rb,2,none⟩=some (.slice (some ⟨qrb,0,none⟩) 1 c)) (hq:w.cell? ⟨qrb,0,none⟩=some (.pointer (some ⟨qb,0,none⟩))) (ht:w.cell? ⟨qb,0,none⟩=some (.bool th)):
  CallsIn NF m Tryz.prog 71 #[.pointer (some ⟨rb,0,none⟩),.int .i64 1] w fun e w'=>e=.returned (.pointer (if th then some ⟨qb,0,none⟩else none))∧w'=w:=by
 cases th
 ·gi_enter Tryz.func71,Tryz.ntmps71
  gi_wp2
  go_ret
  exact⟨by simp,rfl⟩
 ·gi_enter Tryz.func71,Tryz.ntmps71
  gi_wp2
  go_ret
  exact⟨by simp,rfl⟩
theorem rstate_ready (rb qb:Nat) (h1:w.cell? ⟨qb,1,none⟩=some (.bool false)) (h2:w.cell? ⟨qb,2,none⟩=some (.bool false)):
  CallsIn NF m Tryz.prog 72 #[.pointer (some ⟨rb,0,none⟩),.pointer (some ⟨qb,0,none⟩)] w fun e w'=>e=.returned (.int .i64 0)∧w'=w:=by
 gi_enter Tryz.func72,Tryz.ntmps72
 gi_wp2
 go_ret
 exact⟨by simp,rfl⟩
set_option maxHeartbeats 4000000 in
theorem bring_in (rb qb cr C:Nat) (fc:Nat→Int) (hk:w.cell? ⟨rb,0,none⟩=some (.slice (some ⟨cr,0,none⟩) C C)) (h3:w.cell? ⟨qb,3,none⟩=some (.int .i64 1)) (hr:Row .i64 w cr C fc) (hC:0<C) (h0:fc 0=1):
  CallsIn NF m Tryz.prog 73 #[.pointer (some ⟨rb,0,none⟩),.pointer (some ⟨qb,0,none⟩)] w fun e w'=>e=.returned (.tuple #[])∧Keep No w w':=by
 gi_enter Tryz.func73,Tryz.ntmps73
 gi_wp2
 refine aa9 (P:=Tryz.prog) No _ rfl rfl (by kernel_rfl) 9 80 [0,1,2,3,4,5,6,7,8] [] (by kernel_rfl) (by rfl) (fun _ _ _=>True) (fun _ _ _ _ _ h _=>h) _ _ rfl rfl ?_
 gi_wp2_with (gi_at_call 114;refine(first_zero _ w.drew cr C C fc 1 hr hC h0).mono ?_;rintro e w1 ⟨rfl,rfl⟩)
 refine⟨rfl,by kernel_rfl,?_,(fun i hi=>absurd hi (by simp)),?_⟩
 ·intro W hK
  have d0:=hK.has (w:=w.drew) hk
  have d3:=hK.has (w:=w.drew) h3
  have dr:=hr.drew.keep hK id
  repeat' (refine aa8 ?_ ?_)
  all_goals first|exact trivial|gi_wp2_with (gi_at_call 114;refine(first_zero _ W cr C C fc 1 dr hC h0).mono ?_;rintro e w1 ⟨rfl,rfl⟩)
 ·intro u W hK _
  simp only[putS]
  gi_wp2
  refine wpIn_loop_once ?_
  gi_wp2
  go_end0
  exact⟨by simp,(Keep.refl No w).drew.then hK⟩
end
section
variable (m:Nat) (w:World)
set_option maxHeartbeats 4000000 in
theorem bring_out (rb qb cr C L c:Nat) (a:Option Addr) (fc:Nat→Int) (hk:w.cell? ⟨rb,0,none⟩=some (.slice (some ⟨cr,0,none⟩) C C)) (h3:w.cell? ⟨qb,3,none⟩=some (.int .i64 1)) (h8:w.cell? ⟨qb,8,none⟩=some (.slice a L c)) (hr:Row .i64 w cr C fc) (hC:C≤256) (hL:1≤L) (hL':L≤128) (hn:nblk L≤C) (h0:∀i,i<C→fc i=0):
  CallsIn NF m Tryz.prog 73 #[.pointer (some ⟨rb,0,none⟩),.pointer (some ⟨qb,0,none⟩)] w fun e w'=>e=.returned (.tuple #[])∧Keep (At cr) w w'∧Row .i64 w' cr C (fun i=>if i<nblk L then 1 else 0):=by
 have n1:1≤nblk L:=by unfold nblk;omega
 gi_enter Tryz.func73,Tryz.ntmps73
 gi_wp2
 refine aa9 (P:=Tryz.prog) No _ rfl rfl (by kernel_rfl) 9 80 [0,1,2,3,4,5,6,7,8] [] (by kernel_rfl) (by rfl) (fun _ _ _=>True) (fun _ _ _ _ _ h _=>h) _ _ rfl rfl ?_
 gi_wp2_with (gi_at_call 114;refine(first_none _ w.drew cr C C fc 1 hr hC (fun i hi=>by rw[h0 i hi];decide)).mono ?_;rintro e w1 ⟨rfl,rfl⟩)
 refine⟨rfl,by kernel_rfl,?_,(fun i hi=>absurd hi (by simp)),?_⟩
 ·intro W hK
  have d0:=hK.has (w:=w.drew) hk
  have d3:=hK.has (w:=w.drew) h3
  have dr:=hr.drew.keep hK id
  repeat' (refine aa8 ?_ ?_)
  all_goals first|exact trivial|gi_wp2_with (gi_at_call 114;refine(first_none _ W cr C C fc 1 dr hC (fun i hi=>by rw[h0 i hi];decide)).mono ?_;rintro e w1 ⟨rfl,rfl⟩)
 ·intro u W hK _
  simp only[putS]
  have KW:Keep No w W:=(Keep.refl No w).drew.then hK
  have e0:=KW.has hk
  have e3:=KW.has h3
  have e8:=KW.has h8
  have er:=hr.keep KW id
  gi_wp2
  refine wpIn_loop_once ?_
  gi_wp2
  refine aa9 (P:=Tryz.prog) No _ rfl rfl (by kernel_rfl) 14 80 [0,1,2,3,4,5,6,7,8,9,10,11,12,13] [] (by kernel_rfl) (by rfl) (fun _ _ _=>True) (fun _ _ _ _ _ h _=>h) _ _ rfl rfl ?_
  gi_wp2_with (gi_at_call 109;refine(ab4 _ W.drew L (by omega)).mono ?_;rintro e w1 ⟨rfl,rfl⟩)
  refine⟨rfl,by kernel_rfl,?_,(fun i hi=>absurd hi (by simp)),?_⟩
  ·intro V hK2
   have d0:=hK2.has (w:=W.drew) e0
   have d3:=hK2.has (w:=W.drew) e3
   have d8:=hK2.has (w:=W.drew) e8
   repeat' (refine aa8 ?_ ?_)
   all_goals first|exact trivial|gi_wp2_with (gi_at_call 109;refine(ab4 _ V L (by omega)).mono ?_;rintro e w1 ⟨rfl,rfl⟩)
  ·intro u2 V hK2 _
   simp only[putS]
   have KV:Keep No w V:=KW.drew.then hK2
   gi_wp2_with fail
   refine(take_calls _ V cr C C (nblk L) fc (hr.keep KV id) hC n1 hn h0).mono ?_
   rintro e w3 ⟨rfl,K3,r3⟩
   gi_wp2
   try simp only[Exit.inBlock,Exit.then]
   refine bodyPost_ret (results_none rfl _ _ _) rfl ?_
   exact⟨by simp,KV.no.then K3,r3⟩
theorem close_none (rb qb i:Nat) (hi:i<6) (h:w.cell? ⟨qb,9+i,none⟩=some (.int .i64 (-1))):
  CallsIn NF m Tryz.prog 165 #[.pointer (some ⟨rb,0,none⟩),.pointer (some ⟨qb,0,none⟩),.int .i64 i] w fun e w'=>e=.returned (.tuple #[])∧w'=w:=by
 gi_enter Tryz.func165,Tryz.ntmps165
 gi_wp2
 refine bodyPost_ret (results_none rfl _ _ _) rfl ?_
 exact⟨by simp,rfl⟩
end
def rproc (th dd:Bool) (A B P:Nat) (im:Value) (st:Nat):Obj:=.cells #[.bool th,.bool dd,.bool false,.int .i64 1,.int .i64 0,.int .i64 A,.int .i64 B,.int .i64 P,im,.int .i64 (-1),.int .i64 (-1),.int .i64 (-1),.int .i64 (-1),.int .i64 (-1),.int .i64 (-1),.int .i64 st] 170 (0,0)
theorem get_at {ks:Array Value} {i:Nat} (h:i<ks.size):ks[i]?=some ks[i]:=Array.getElem?_eq_getElem h
structure QB where
 (rb qrb qc qb cr sr qi ic C M L:Nat)
 img:Nat→Nat
structure QB.Ok (b:QB):Prop where
 L1:1≤b.L
 L2:b.L≤128
 nC:nblk b.L≤b.C
 C5:b.C≤256
 M5:b.M≤256
 ic:b.L≤b.ic
 d1:b.cr≠b.sr
 d2:b.cr≠b.qi
 d3:b.sr≠b.qi
 c1:b.cr≠b.rb
 c2:b.cr≠b.qrb
 c3:b.cr≠b.qb
 s1:b.sr≠b.rb
 s2:b.sr≠b.qrb
 s3:b.sr≠b.qb
 i1:b.qi≠b.rb
 i2:b.qi≠b.qrb
 i3:b.qi≠b.qb
def QB.im (b:QB) (i:Nat→Nat):QB:={ b with img:=i }
theorem QB.Ok.im {b:QB} (h:b.Ok) (i:Nat→Nat):(b.im i).Ok:=⟨h.L1,h.L2,h.nC,h.C5,h.M5,h.ic,h.d1,h.d2,h.d3,h.c1,h.c2,h.c3,h.s1,h.s2,h.s3,h.i1,h.i2,h.i3⟩
def QB.Fit (b:QB):Prop:=∀i,i<b.L→b.img i<65536
structure QB.At (b:QB) (w:World) (th dd:Bool) (A B P st:Nat) (im:Value) (told:Value) (ks qs:Array Value) (fc fs:Nat→Int):Prop where
 k:w.heap[b.rb]?=some (.cells ks 167 (0,0))
 sz:ks.size=107
 k0:ks[0]?=some (.slice (some ⟨b.cr,0,none⟩) b.C b.C)
 k1:ks[1]?=some (.slice (some ⟨b.sr,0,none⟩) b.M b.M)
 k2:ks[2]?=some (.slice (some ⟨b.qrb,0,none⟩) 1 b.qc)
 k7:ks[106]?=some told
 q:w.heap[b.qrb]?=some (.cells qs 157 (0,0))
 q0:qs[0]?=some (.pointer (some ⟨b.qb,0,none⟩))
 p:w.heap[b.qb]?=some (rproc th dd A B P im st)
 c:Row .i64 w b.cr b.C fc
 s:Row .i64 w b.sr b.M fs
def QB.foot (b:QB) (k:Nat):Prop:=k=b.rb∨k=b.qrb∨k=b.qb∨k=b.cr∨k=b.sr∨k=b.qi
section
variable {b:QB} {w w':World} {th dd:Bool} {A B P st:Nat} {im told:Value} {ks qs:Array Value} {fc fs:Nat→Int} {S:Nat→Prop}
theorem QB.At.keep (h:b.At w th dd A B P st im told ks qs fc fs) (hK:Keep S w w') (hn:∀k,(k=b.rb∨k=b.qrb∨k=b.qb∨k=b.cr∨k=b.sr)→¬S k):b.At w' th dd A B P st im told ks qs fc fs:=
 ⟨hK.old h.k (hn _ (by simp)),h.sz,h.k0,h.k1,h.k2,h.k7,hK.old h.q (hn _ (by simp)),h.q0,hK.old h.p (hn _ (by simp)),h.c.keep hK (hn _ (by simp)),h.s.keep hK (hn _ (by simp))⟩
theorem QB.At.ne (h:b.At w th dd A B P st im told ks qs fc fs):b.rb≠b.qrb∧b.rb≠b.qb∧b.qrb≠b.qb:=⟨ac2 h.k h.q (by decide),ac2 h.k h.p (by decide),ac2 h.q h.p (by decide)⟩
end
section
variable (m:Nat) (w:World)
theorem info157:(Tryz.prog.info? 59).map (fun i=>(i.zero,i.size,i.bytes))=some (some (.agg #[.int .i64 0,.int .i64 0,.int .i64 0,.int .i64 0]),4,32):=by kernel_rfl
theorem build_end (st:Nat):(Instr.build 59 #[(0,.int .i64 1),(1,.int .i64 1),(2,.int .i64 st)]).run Tryz.prog w=.ok (.agg #[.int .i64 1,.int .i64 1,.int .i64 st,.int .i64 0]) w:=by kernel_rfl
def EndI (w1:World) (base:Nat) (told:Value) (evs:List (Nat×Nat×Nat)) (st:Nat) (L:Nat→Bool) (u:Nat→Value) (W:World):Prop:=
 Keep (fun k=>told.ownBlock=some k) w1 W∧(L 12=false→Keep No w1 W∧ToldE base told W evs)∧(L 11=true→∃vb,u 11=.slice (some ⟨vb,0,none⟩) 1 1∧(L 12=false→W.heap[vb]?=some (.cells #[.int .i64 1,.int .i64 1,.int .i64 st,.int .i64 0] 59 (0,0))))∧(L 12=true→ToldE base (u 12) W (evs++[(1,st,0)]))
set_option maxHeartbeats 8000000 in
theorem ak2 (b:QB) (ok:b.Ok) (base:Nat) (A B P st:Nat) (im told:Value) (ks qs:Array Value) (fc fs:Nat→Int) (evs:List (Nat×Nat×Nat)) (h:b.At w true false A B P 0 im told ks qs fc fs) (ht:ToldE base told w evs) (hb:base≤w.heap.size) (hl:evs.length≤100000) (lo:∀k,b.foot k→k<base):
  CallsIn NF m Tryz.prog 116 #[.pointer (some ⟨b.rb,0,none⟩),.pointer (some ⟨b.qb,0,none⟩),.int .i64 st] w fun e w'=>e=.returned (.tuple #[])∧Keep (fun k=>b.foot k∨told.ownBlock=some k) w w'∧∃told' ks' fc' fs',ToldE base told' w' (evs++[(1,st,0)])∧b.At w' false true A B P st (.slice none 0 0) told' ks' qs fc' fs':=by
 obtain⟨i0,hi0,hz0,hz1,hz2⟩:=info_parts info157
 have c106:w.cell? ⟨b.rb,106,none⟩=some told:=(aa0 h.k 106).trans h.k7
 have c3:w.cell? ⟨b.qb,3,none⟩=some (.int .i64 1):=by rw[aa0 h.p];rfl
 gi_enter Tryz.func116,Tryz.ntmps116
 gi_wp2
 refine ag5 (P:=Tryz.prog) _ rfl rfl (by kernel_rfl) 13 122 [0,1,2,3,4,5,6,7,8,9,10] [11,12] (by kernel_rfl) (by rfl)
  (EndI w.drew base told evs st) (fun L L' u u' W hh hI=>by
   have h11:=hh 11 (by simp)
   have h12:=hh 12 (by simp)
   unfold EndI at hI ⊢
   rw[←h11.1,←h11.2,←h12.1,←h12.2]
   exact hI) _ _ rfl rfl ?_
 have hbd:=build_end w.drew st
 gi_wp2
 refine⟨rfl,by kernel_rfl,?_,?_,?_,?_⟩
 ·intro u
  exact⟨Keep.refl _ _,fun _=>⟨Keep.refl _ _,ht⟩,fun hx=>absurd hx (by decide),fun hx=>absurd hx (by decide)⟩
 ·intro L u W hI
  have nf:∀k,b.foot k→¬told.ownBlock=some k:=fun k hk e=>by
   have:=lo k hk
   have:=(ht.lt k e).1
   omega
  have d106:=(hI.1.cell (w:=w.drew) (p:=⟨b.rb,106,none⟩) (ab2 h.k) (nf _ (.inl rfl))).trans c106
  have d3:=(hI.1.cell (w:=w.drew) (p:=⟨b.qb,3,none⟩) (ab2 h.p) (nf _ (.inr (.inr (.inl rfl))))).trans c3
  have hbd:=build_end W st
  repeat' (refine aa8 ?_ ?_)
  all_goals first|exact trivial|gi_wp2
 ·intro i hi L u W hI hLi hu
  obtain⟨hI1,hI2,hI3,hI4⟩:=hI
  rcases(by simpa using hi:i=11∨i=12)with rfl|rfl
  ·refine ac4 rfl fun KK hKK=>?_
   show wpListIn NF m Tryz.prog _ _ _ (Act.put (Act.put _ (some 22) (u 11)) (some 23) (u 12)) _
   gi_wp2
   have Ka:Keep No W (W.alloc (.cells #[.int .i64 1,.int .i64 1,.int .i64 st,.int .i64 0] 59)):=(Keep.refl _ _).alloc _
   exact⟨_,rfl,hI1.then Ka.no,fun hx=>⟨(hI2 hx).1.then Ka,(hI2 hx).2.more Ka⟩,fun _=>⟨_,rfl,fun _=>aa4 rfl⟩,fun hx=>(hI4 hx).more Ka⟩
  ·obtain⟨vb,hv1,hv2⟩:=hI3 (hu 11 (by simp) (by decide))
   have hv2:=hv2 hLi
   obtain⟨KN,t2⟩:=hI2 hLi
   have t2':W.ownsRow base 59 4 told evs.length (evsC evs):=t2
   show wpOpIn NF m Tryz.prog _ _ _ (fun a' W'=>∃v,a'=Act.put (Act.put (Act.put _ (some 22) (u 11)) (some 23) (u 12)) (some 23) v∧_) (Act.put (Act.put _ (some 22) (u 11)) (some 23) (u 12)) _
   rw[hv1]
   refine ac4 rfl fun KK hKK=>?_
   have szW:base≤W.heap.size:=Nat.le_trans hb KN.size
   refine wpListIn_append_own _ rfl (.tmp 15) (.tmp 22) 43 rfl base 59 i0 (.agg #[.int .i64 0,.int .i64 0,.int .i64 0,.int .i64 0]) 4 32 Tryz.underlying43 hi0 hz0 hz1 hz2 rfl (by decide) told evs.length (evsC evs) rfl t2' ⟨vb,0,none⟩ 1 1 (evC (1,st,0)) rfl rfl ?_ ?_ ?_ ?_ szW ?_
   ·intro q u hq
    have ea:(⟨vb,0,none⟩:Addr).add q=⟨vb,q,none⟩:=by rw[Addr.add_lit,Nat.zero_add]
    rw[ea]
    refine(aa0 hv2 q).trans ?_
    match q,hq with
    | 0,hq=>simpa [evC]using hq
    | 1,hq=>simpa [evC]using hq
    | 2,hq=>simpa [evC]using hq
    | 3,hq=>simpa [evC]using hq
   ·simp[evC,Value.oneCell']
   ·unfold maxLen;omega
   ·omega
   ·intro v' w4 hown hgrow _
    refine⟨rfl,hKK _ _ ⟨v',rfl,?_⟩⟩
    refine⟨KN.no.then (ae7 hgrow fun k hk _=>hk),fun hx=>absurd hx (by simp[did1]),fun _=>⟨vb,by rw[←hv1];rfl,fun hx=>absurd hx (by simp[did1])⟩,fun _=>told_push hown⟩
 ·intro L u W hI hL
  obtain⟨hI1,hI2,hI3,hI4⟩:=hI
  have t12:=hI4 (hL 12 (by simp))
  obtain⟨vb,hv1,_⟩:=hI3 (hL 11 (by simp))
  have nf:∀k,b.foot k→¬told.ownBlock=some k:=fun k hk e=>by
   have:=lo k hk
   have:=(ht.lt k e).1
   omega
  show wpListIn NF m Tryz.prog _ _ _ (Act.put (Act.put _ (some 22) (u 11)) (some 23) (u 12)) _
  generalize u 12=told' at*
  rw[hv1]
  have k1:=hI1.old (w:=w.drew) h.k (nf _ (.inl rfl))
  have e1:W.cell? ⟨b.rb,106,none⟩=some told:=(aa0 k1 106).trans h.k7
  have f1:=ab3 k1 106
  have o12:told'.oneCell'=true:=by
   rcases t12.2 with⟨rfl,_⟩|⟨g,cap,cur,rfl,_⟩<;>rfl
  have t12s:∃ad ln cp,told'=.slice ad ln cp:=by
   rcases t12.2 with⟨rfl,_⟩|⟨g,cap,cur,rfl,_⟩<;>exact⟨_,_,_,rfl⟩
  obtain⟨ad,ln,cp,rfl⟩:=t12s
  have K2:Keep (fun k=>b.foot k∨told.ownBlock=some k) w (W.setCell ⟨b.rb,106,none⟩ (.slice ad ln cp)):=(((Keep.refl _ w).drew.trans hI1 (fun k _ hk=>.inr hk))).setCell _ (fun _=>.inl (.inl rfl))
  have A1:b.At W true false A B P 0 im told ks qs fc fs:=QB.At.keep (b:=b) (S:=fun k=>told.ownBlock=some k) (w':=W) h ((Keep.refl _ w).drew.then hI1) (fun k hk=>nf k (by rcases hk with e|e|e|e|e<;>simp[QB.foot,e]))
  have K3:Keep (Go.Fxa.At b.rb) W (W.setCell ⟨b.rb,106,none⟩ (.slice ad ln cp)):=Keep.set1 _
  have ne:=h.ne
  have A2:b.At (W.setCell ⟨b.rb,106,none⟩ (.slice ad ln cp)) true false A B P 0 im (.slice ad ln cp) (ks.setIfInBounds 106 (.slice ad ln cp)) qs fc fs:=
   ⟨aa2 k1 _,by simpa using h.sz,(ac0 (by decide)).trans h.k0,(ac0 (by decide)).trans h.k1,(ac0 (by decide)).trans h.k2,aj6 h.k7,K3.old A1.q (fun e=>ne.1 e.symm),h.q0,K3.old A1.p (fun e=>ne.2.1 e.symm),A1.c.keep K3 (fun e=>ok.c1 e),A1.s.keep K3 (fun e=>ok.s1 e)⟩
  have t2:ToldE base (.slice ad ln cp) (W.setCell ⟨b.rb,106,none⟩ (.slice ad ln cp)) (evs++[(1,st,0)]):=ad1 t12 K3 (fun g hg e=>by have e:g=b.rb:=e;have:=lo b.rb (.inl rfl);omega)
  gi_wp2
  generalize W.setCell ⟨b.rb,106,none⟩ (.slice ad ln cp)=w2 at*
  clear hI1 hI2 hI3 hI4 t12 k1 e1 f1 A1 K3 hL hv1
  gi_loop [6] (fun i=>∃k:Nat,k≤6∧i=.int .i64 k) (fun i=>6-(intOf i).toNat)
  case atStart=>exact⟨0,by omega,rfl⟩
  case round=>
   obtain⟨k,hk6,rfl⟩:=hrel
   by_cases hlt:k<6
   ·have d:w2.cell? ⟨b.qb,9+k,none⟩=some (.int .i64 (-1)):=by
     rw[aa0 A2.p]
     match k,hlt with
     | 0,_=>rfl
     | 1,_=>rfl
     | 2,_=>rfl
     | 3,_=>rfl
     | 4,_=>rfl
     | 5,_=>rfl
    gi_wp2_with (gi_at_call 165;refine(close_none _ w2 b.rb b.qb k hlt d).mono ?_;rintro e w9 ⟨rfl,hw⟩;have hw:=hw.symm;subst hw)
    go_round
    case rel=>exact⟨k+1,by omega,by go_num⟩
    case measure=>simp[intOf];omega
   ·gi_wp2
    have u01:w2.cell? ⟨b.rb,0,none⟩=some (.slice (some ⟨b.cr,0,none⟩) b.C b.C):=(aa0 A2.k 0).trans A2.k0
    have u31:w2.cell? ⟨b.qb,3,none⟩=some (.int .i64 1):=by rw[aa0 A2.p];rfl
    refine aa9 (P:=Tryz.prog) No _ rfl rfl (by kernel_rfl) 8 122 [0,1,2,3,4,5,6,7] [] (by kernel_rfl) (by rfl) (fun _ _ _=>True) (fun _ _ _ _ _ h _=>h) _ _ rfl rfl ?_
    gi_wp2
    refine⟨rfl,by kernel_rfl,?_,(fun i hi=>absurd hi (by simp)),?_⟩
    ·intro V hK
     have d0:=hK.has (w:=w2.drew) u01
     have d3:=hK.has (w:=w2.drew) u31
     repeat' (refine aa8 ?_ ?_)
     all_goals first|exact trivial|gi_wp2
    intro u1 V1 hV1 _
    simp only[putS]
    have KV1:Keep No w2 V1:=(Keep.refl No w2).drew.then hV1
    gi_wp2_with fail
    refine(give_calls _ V1 b.cr b.C b.C fc 1 (A2.c.keep KV1 id) ok.C5).mono ?_
    rintro e w4 ⟨rfl,G1,g1,r1⟩
    have A4:b.At w4 true false A B P 0 im (.slice ad ln cp) (ks.setIfInBounds 106 (.slice ad ln cp)) qs g1 fs:=by
     have K:Keep (Go.Fxa.At b.cr) w2 w4:=KV1.no.then G1
     exact⟨K.old A2.k (fun e=>ok.c1 e.symm),A2.sz,A2.k0,A2.k1,A2.k2,A2.k7,K.old A2.q (fun e=>ok.c2 e.symm),A2.q0,K.old A2.p (fun e=>ok.c3 e.symm),r1,A2.s.keep K (fun e=>ok.d1 e.symm)⟩
    have K4:Keep (fun k=>b.foot k∨told.ownBlock=some k) w w4:=(K2.then KV1.no).trans G1 (fun k _ e=>.inl (.inr (.inr (.inr (.inl e)))))
    have t4:ToldE base (.slice ad ln cp) w4 (evs++[(1,st,0)]):=ad1 (t2.more KV1) G1 (fun g hg e=>by have e:g=b.cr:=e;have:=lo b.cr (by simp[QB.foot]);omega)
    gi_wp2
    have u02:w4.cell? ⟨b.rb,1,none⟩=some (.slice (some ⟨b.sr,0,none⟩) b.M b.M):=(aa0 A4.k 1).trans A4.k1
    have u32:w4.cell? ⟨b.qb,3,none⟩=some (.int .i64 1):=by rw[aa0 A4.p];rfl
    refine aa9 (P:=Tryz.prog) No _ rfl rfl (by kernel_rfl) 8 122 [0,1,2,3,4,5,6,7] [] (by kernel_rfl) (by rfl) (fun _ _ _=>True) (fun _ _ _ _ _ h _=>h) _ _ rfl rfl ?_
    gi_wp2
    refine⟨rfl,by kernel_rfl,?_,(fun i hi=>absurd hi (by simp)),?_⟩
    ·intro V hK
     have d0:=hK.has (w:=w4.drew) u02
     have d3:=hK.has (w:=w4.drew) u32
     repeat' (refine aa8 ?_ ?_)
     all_goals first|exact trivial|gi_wp2
    intro u2 V2 hV2 _
    simp only[putS]
    have KV2:Keep No w4 V2:=(Keep.refl No w4).drew.then hV2
    gi_wp2_with fail
    refine(give_calls _ V2 b.sr b.M b.M fs 1 (A4.s.keep KV2 id) ok.M5).mono ?_
    rintro e w5 ⟨rfl,G2,g2,r2⟩
    have A5:b.At w5 true false A B P 0 im (.slice ad ln cp) (ks.setIfInBounds 106 (.slice ad ln cp)) qs g1 g2:=by
     have K:Keep (Go.Fxa.At b.sr) w4 w5:=KV2.no.then G2
     exact⟨K.old A4.k (fun e=>ok.s1 e.symm),A4.sz,A4.k0,A4.k1,A4.k2,A4.k7,K.old A4.q (fun e=>ok.s2 e.symm),A4.q0,K.old A4.p (fun e=>ok.s3 e.symm),A4.c.keep K (fun e=>ok.d1 e),r2⟩
    have K5:Keep (fun k=>b.foot k∨told.ownBlock=some k) w w5:=(K4.then KV2.no).trans G2 (fun k _ e=>.inl (.inr (.inr (.inr (.inr (.inl e))))))
    have t5:ToldE base (.slice ad ln cp) w5 (evs++[(1,st,0)]):=ad1 (t4.more KV2) G2 (fun g hg e=>by have e:g=b.sr:=e;have:=lo b.sr (by simp[QB.foot]);omega)
    clear A2 K2 t2 A4 K4 t4 KV1 G1 KV2 G2 r1 r2 hV1 hV2 u01 u31 u02 u32
    have c1:w5.cell? ⟨b.qb,1,none⟩=some (.bool false):=by rw[aa0 A5.p];rfl
    have c15:w5.cell? ⟨b.qb,15,none⟩=some (.int .i64 0):=by rw[aa0 A5.p];rfl
    have c8:w5.cell? ⟨b.qb,8,none⟩=some im:=by rw[aa0 A5.p];rfl
    have f1:=ab3 A5.p 1
    have f8:=ab3 A5.p 8
    have f15:=ab3 A5.p 15
    gi_wp2_with fail
    have K6:Keep (Go.Fxa.At b.qb) w5 (((w5.setCell ⟨b.qb,1,none⟩ (.bool true)).setCell ⟨b.qb,15,none⟩ (.int .i64 st)).setCell ⟨b.qb,8,none⟩ (.slice none 0 0)):=((((Keep.refl (Go.Fxa.At b.qb) w5).setCell (p:=⟨b.qb,1,none⟩) _ (fun _=>rfl)).setCell (p:=⟨b.qb,15,none⟩) _ (fun _=>rfl)).setCell (p:=⟨b.qb,8,none⟩) _ (fun _=>rfl))
    have p6:(((w5.setCell ⟨b.qb,1,none⟩ (.bool true)).setCell ⟨b.qb,15,none⟩ (.int .i64 st)).setCell ⟨b.qb,8,none⟩ (.slice none 0 0)).heap[b.qb]?=some (rproc true true A B P (.slice none 0 0) st):=by
     have e:=aa2 (i:=8) (aa2 (i:=15) (aa2 (i:=1) A5.p (.bool true)) (.int .i64 st)) (.slice none 0 0)
     rw[e];rfl
    generalize ((w5.setCell ⟨b.qb,1,none⟩ (.bool true)).setCell ⟨b.qb,15,none⟩ (.int .i64 st)).setCell ⟨b.qb,8,none⟩ (.slice none 0 0)=w6 at*
    have A6:b.At w6 true true A B P st (.slice none 0 0) (.slice ad ln cp) (ks.setIfInBounds 106 (.slice ad ln cp)) qs g1 g2:=
     ⟨K6.old A5.k (fun e=>ne.2.1 e),A5.sz,A5.k0,A5.k1,A5.k2,A5.k7,K6.old A5.q (fun e=>ne.2.2 e),A5.q0,p6,A5.c.keep K6 (fun e=>ok.c3 e),A5.s.keep K6 (fun e=>ok.s3 e)⟩
    have KK6:Keep (fun k=>b.foot k∨told.ownBlock=some k) w w6:=K5.trans K6 (fun k _ e=>.inl (.inr (.inr (.inl e))))
    have t6:ToldE base (.slice ad ln cp) w6 (evs++[(1,st,0)]):=ad1 t5 K6 (fun g hg e=>by have e:g=b.qb:=e;have:=lo b.qb (by simp[QB.foot]);omega)
    clear A5 K5 t5 c1 c15 c8 f1 f8 f15 K6 p6
    have e2:w6.cell? ⟨b.rb,2,none⟩=some (.slice (some ⟨b.qrb,0,none⟩) 1 b.qc):=(aa0 A6.k 2).trans A6.k2
    have eq0:w6.cell? ⟨b.qrb,0,none⟩=some (.pointer (some ⟨b.qb,0,none⟩)):=(aa0 A6.q 0).trans A6.q0
    have et:w6.cell? ⟨b.qb,0,none⟩=some (.bool true):=by rw[aa0 A6.p];rfl
    have ed:w6.cell? ⟨b.qb,1,none⟩=some (.bool true):=by rw[aa0 A6.p];rfl
    refine(rfind_one _ w6 b.rb b.qrb b.qb b.qc true e2 eq0 et).mono ?_
    rintro e w7 ⟨rfl,hw⟩
    have hw:=hw.symm
    subst hw
    simp only[if_true]
    gi_wp2
    gi_loopw [9] (fun i wr=>∃k:Nat,k≤1∧i=.int .i64 k∧Keep (fun k=>b.foot k∨told.ownBlock=some k) w wr∧ToldE base (.slice ad ln cp) wr (evs++[(1,st,0)])∧b.At wr (k==0) true A B P st (.slice none 0 0) (.slice ad ln cp) (ks.setIfInBounds 106 (.slice ad ln cp)) qs g1 g2) (fun i _=>1-(intOf i).toNat)
    case atStart=>exact⟨0,by omega,rfl,KK6,t6,A6⟩
    case round=>
     clear A6 KK6 t6 e2 eq0 et ed
     obtain⟨z,hz,rfl,KK6,t6,A6⟩:=hrel
     have e2:wr.cell? ⟨b.rb,2,none⟩=some (.slice (some ⟨b.qrb,0,none⟩) 1 b.qc):=(aa0 A6.k 2).trans A6.k2
     by_cases hlz:z<1
     ·obtain rfl:z=0:=by omega
      have eq0:wr.cell? ⟨b.qrb,0,none⟩=some (.pointer (some ⟨b.qb,0,none⟩)):=(aa0 A6.q 0).trans A6.q0
      have et:wr.cell? ⟨b.qb,0,none⟩=some (.bool true):=by rw[aa0 A6.p];rfl
      have ed:wr.cell? ⟨b.qb,1,none⟩=some (.bool true):=by rw[aa0 A6.p];rfl
      have e3:wr.cell? ⟨b.qb,3,none⟩=some (.int .i64 1):=by rw[aa0 A6.p];rfl
      have e4:wr.cell? ⟨b.qb,4,none⟩=some (.int .i64 0):=by rw[aa0 A6.p];rfl
      gi_wp2
      refine aa9 (P:=Tryz.prog) No _ rfl rfl (by kernel_rfl) 13 122 [0,1,2,3,4,5,6,7,8,9,10,11,12] [] (by kernel_rfl) (by rfl) (fun _ _ _=>True) (fun _ _ _ _ _ h _=>h) _ _ rfl rfl ?_
      gi_wp2
      refine⟨rfl,by kernel_rfl,?_,(fun i hi=>absurd hi (by simp)),?_⟩
      ·intro V hK
       have d0:=hK.has (w:=wr.drew) et
       have d3:=hK.has (w:=wr.drew) e3
       have d4:=hK.has (w:=wr.drew) e4
       repeat' (refine aa8 ?_ ?_)
       all_goals first|exact trivial|gi_wp2
      intro u3 V3 hV3 _
      simp only[putS]
      have KV3:Keep No wr V3:=(Keep.refl No wr).drew.then hV3
      have A7:=A6.keep KV3 (fun _ _ x=>x)
      have d0:=KV3.has et
      have d1:=KV3.has ed
      have d4:=KV3.has e4
      have f0:=ab3 A7.p 0
      gi_wp2
      go_roundw
      case rel=>
       have K8:Keep (Go.Fxa.At b.qb) V3 (V3.setCell ⟨b.qb,0,none⟩ (.bool false)):=Keep.set1 _
       exact⟨1,by omega,by go_num,(KK6.then KV3.no).trans K8 (fun k _ e=>.inl (.inr (.inr (.inl e)))),ad1 (t6.more KV3) K8 (fun g hg e=>by have e:g=b.qb:=e;have:=lo b.qb (by simp[QB.foot]);omega),
        K8.old A7.k (fun e=>ne.2.1 e),A7.sz,A7.k0,A7.k1,A7.k2,A7.k7,K8.old A7.q (fun e=>ne.2.2 e),A7.q0,(aa2 A7.p _).trans rfl,A7.c.keep K8 (fun e=>ok.c3 e),A7.s.keep K8 (fun e=>ok.s3 e)⟩
      case measure=>simp[intOf]
     ·obtain rfl:z=1:=by omega
      gi_wp2
      go_end0
      exact⟨by simp,KK6,_,_,g1,g2,t6,A6⟩
end
section
variable (m:Nat) (w:World)
theorem asked_pid (qb:Nat):CallsIn NF m Tryz.prog 162 #[.pointer (some ⟨qb,0,none⟩),.int .i64 12] w fun e w'=>e=.returned (.tuple #[.agg #[.int .i64 0,.int .i64 0,.int .i64 0],.int .i64 0])∧Keep No w w':=by
 gi_enter Tryz.func162,Tryz.ntmps162
 gi_wp2_with (gi_at_call 214;refine(arguments12_calls _ _).mono ?_;rintro e w1 ⟨rfl,rfl⟩)
 refine wpIn_loop_once ?_
 gi_wp2
 try simp only[Exit.inBlock,Exit.then]
 refine bodyPost_ret (v:=.tuple #[.agg #[.int .i64 0,.int .i64 0,.int .i64 0],.int .i64 0]) (by simp[results,Tryz.results162,go_sem]) rfl ?_
 exact⟨rfl,by repeat (first|exact Keep.refl _ _|refine Keep.drew ?_|refine Keep.alloc ?_ _)⟩
theorem asked_fault (qb A L c:Nat) (a:Option Addr) (h5:w.cell? ⟨qb,5,none⟩=some (.int .i64 A)) (h8:w.cell? ⟨qb,8,none⟩=some (.slice a L c)) (hA:A<65536) (h:¬A+1≤L):CallsIn NF m Tryz.prog 162 #[.pointer (some ⟨qb,0,none⟩),.int .i64 1] w fun e w'=>e=.returned (.tuple #[.agg #[.int .i64 0,.int .i64 0,.int .i64 0],.int .i64 1])∧Keep No w w':=by
 have l5:=World.block_lt_of_cell? _ _ h5
 have K2:Keep No w ((w.alloc (.cells #[.int .i64 0,.int .i64 0,.int .i64 0] 272)).alloc (.cells #[.int .i64 0,.int .i64 0,.int .i64 0] 272)):=((Keep.refl _ _).alloc _).alloc _
 have d5:=K2.has h5
 have d8:=K2.has h8
 gi_enter Tryz.func162,Tryz.ntmps162
 gi_wp2_with (gi_at_call 214;refine(arguments1_calls _ _).mono ?_;rintro e w1 ⟨rfl,rfl⟩)
 refine wpIn_loop_once ?_
 gi_wp2
 gi_region
 all_goals gi_wp2
 all_goals try simp only[Exit.inBlock,Exit.then]
 all_goals refine bodyPost_ret (v:=.tuple #[.agg #[.int .i64 0,.int .i64 0,.int .i64 0],.int .i64 1]) (by simp[results,Tryz.results162,go_sem]) rfl ?_
 all_goals exact⟨rfl,by repeat (first|exact Keep.refl _ _|refine Keep.drew ?_|refine Keep.alloc ?_ _)⟩
set_option maxHeartbeats 2000000 in
theorem asked_exit (qb A L c qi x:Nat) (h5:w.cell? ⟨qb,5,none⟩=some (.int .i64 A)) (h8:w.cell? ⟨qb,8,none⟩=some (.slice (some ⟨qi,0,none⟩) L c)) (hx:w.cell? ⟨qi,A,none⟩=some (.int .i64 x)) (hA:A<65536) (h:A+1≤L):CallsIn NF m Tryz.prog 162 #[.pointer (some ⟨qb,0,none⟩),.int .i64 1] w fun e w'=>e=.returned (.tuple #[.agg #[.int .i64 x,.int .i64 0,.int .i64 0],.int .i64 0])∧Keep No w w':=by
 have l5:=World.block_lt_of_cell? _ _ h5
 have lx:=World.block_lt_of_cell? _ _ hx
 have K2:Keep No w ((w.alloc (.cells #[.int .i64 0,.int .i64 0,.int .i64 0] 272)).alloc (.cells #[.int .i64 0,.int .i64 0,.int .i64 0] 272)):=((Keep.refl _ _).alloc _).alloc _
 have d5:=K2.has h5
 have d8:=K2.has h8
 have dx:=K2.has hx
 gi_enter Tryz.func162,Tryz.ntmps162
 gi_wp2_with (gi_at_call 214;refine(arguments1_calls _ _).mono ?_;rintro e w1 ⟨rfl,rfl⟩)
 refine wpIn_loop_rounds 2 ?_
 rw[roundsIn_succ]
 gi_wp2
 gi_region
 all_goals gi_wp2
 all_goals gi_region
 all_goals gi_wp2
 all_goals rw[roundsIn_succ]
 all_goals gi_wp2
 all_goals try simp only[Exit.inBlock,Exit.then]
 all_goals refine bodyPost_ret (v:=.tuple #[.agg #[.int .i64 x,.int .i64 0,.int .i64 0],.int .i64 0]) (by simp[results,Tryz.results162,go_sem]) rfl ?_
 all_goals exact⟨rfl,by repeat (first|exact Keep.refl _ _|refine Keep.drew ?_|refine Keep.alloc ?_ _)⟩
theorem blocked_pid (rb qb:Nat):CallsIn NF m Tryz.prog 113 #[.pointer (some ⟨rb,0,none⟩),.pointer (some ⟨qb,0,none⟩),.int .i64 12] w fun e w'=>e=.returned (.bool false)∧Keep No w w':=by
 gi_enter Tryz.func113,Tryz.ntmps113
 gi_wp2_with (gi_at_call 162;refine(asked_pid _ w qb).mono ?_;rintro e w1 ⟨rfl,hK⟩)
 go_ret
 exact⟨by simp,by repeat (first|exact hK|refine Keep.drew ?_|refine Keep.alloc ?_ _)⟩
theorem blocked_fault (rb qb A L c:Nat) (a:Option Addr) (h5:w.cell? ⟨qb,5,none⟩=some (.int .i64 A)) (h8:w.cell? ⟨qb,8,none⟩=some (.slice a L c)) (hA:A<65536) (h:¬A+1≤L):CallsIn NF m Tryz.prog 113 #[.pointer (some ⟨rb,0,none⟩),.pointer (some ⟨qb,0,none⟩),.int .i64 1] w fun e w'=>e=.returned (.bool false)∧Keep No w w':=by
 gi_enter Tryz.func113,Tryz.ntmps113
 gi_wp2_with (gi_at_call 162;refine(asked_fault _ w qb A L c a h5 h8 hA h).mono ?_;rintro e w1 ⟨rfl,hK⟩)
 go_ret
 exact⟨by simp,by repeat (first|exact hK|refine Keep.drew ?_|refine Keep.alloc ?_ _)⟩
theorem blocked_exit (rb qb A L c qi x:Nat) (h5:w.cell? ⟨qb,5,none⟩=some (.int .i64 A)) (h8:w.cell? ⟨qb,8,none⟩=some (.slice (some ⟨qi,0,none⟩) L c)) (hx:w.cell? ⟨qi,A,none⟩=some (.int .i64 x)) (hA:A<65536) (h:A+1≤L):CallsIn NF m Tryz.prog 113 #[.pointer (some ⟨rb,0,none⟩),.pointer (some ⟨qb,0,none⟩),.int .i64 1] w fun e w'=>e=.returned (.bool false)∧Keep No w w':=by
 gi_enter Tryz.func113,Tryz.ntmps113
 gi_wp2_with (gi_at_call 162;refine(asked_exit _ w qb A L c qi x h5 h8 hx hA h).mono ?_;rintro e w1 ⟨rfl,hK⟩)
 go_ret
 exact⟨by simp,by repeat (first|exact hK|refine Keep.drew ?_|refine Keep.alloc ?_ _)⟩
theorem does_pid (rb qb:Nat) (h3:w.cell? ⟨qb,3,none⟩=some (.int .i64 1)):CallsIn NF m Tryz.prog 166 #[.pointer (some ⟨rb,0,none⟩),.pointer (some ⟨qb,0,none⟩),.int .i64 12,.agg #[.int .i64 0,.int .i64 0,.int .i64 0]] w fun e w'=>e=.returned (.tuple #[.int .i64 1,.int .i64 0])∧Keep No w w':=by
 have K2:Keep No w (w.alloc (.cells #[.int .i64 0,.int .i64 0,.int .i64 0] 272)):=(Keep.refl _ _).alloc _
 have d3:=K2.has h3
 have l3:=World.block_lt_of_cell? _ _ h3
 gi_enter Tryz.func166,Tryz.ntmps166
 gi_wp2
 try simp only[Exit.inBlock,Exit.then]
 go_ret2
 exact⟨by simp,by repeat (first|exact Keep.refl _ _|refine Keep.drew ?_|refine Keep.alloc ?_ _)⟩
end
end Go.Fxa
