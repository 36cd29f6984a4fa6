/- lend, same. New of the document: refused. -/
import Derived.Test.YtmhplpfpcnjekaaGreatK27
namespace Go.Fxa
open Go.Conc
open Go.Proofs
open Go.RowKit
set_option maxRecDepth 1000000
theorem ad7 {w:World} {base:Nat} {e T:TypeId} {size n X:Nat} {v:Value} {xs:List Value} {cs:Array Value} {fz:Nat×Nat} (h:w.ownsRow base e size v n xs) (hX:w.heap[X]?=some (.cells cs T fz)) (hT:T≠e):v.ownBlock≠some X:=fun he=>by
 rcases h.2 with⟨rfl,_⟩|⟨g,cap,cur,rfl,_,hg,_⟩
 ·cases he
 ·have e1:g=X:=by simpa [Value.ownBlock]using he
  subst e1
  rw[hg]at hX
  injection hX with hX
  injection hX with _ hX
  exact hT hX.symm
section
variable (m:Nat) (w:World)
def lentF (n:Nat) (f:Nat→Int) (i:Nat):Int:=if i<n then f i else 70000
theorem same_calls (pb pc n:Nat) (v:Value) (f:Nat→Int) (hp:∀i,i<n+3→w.cell? ⟨pb,i,none⟩=some (.int .i64 (lentF n f i))) (h:SlI w v n f):CallsIn NF m Tryz.prog 112 #[.slice (some ⟨pb,0,none⟩) (n+3) pc,v] w fun e w'=>e=.returned (.bool true)∧w'=w:=by
 obtain⟨hn,s,c,rfl,hs⟩:=h
 gi_enter Tryz.func112,Tryz.ntmps112
 gi_wp2
 gi_loopw [5] (fun i wr=>wr=w∧∃k:Nat,k≤n+3∧i=.int .i64 k) (fun i _=>n+3-(intOf i).toNat)
 case atStart=>exact⟨rfl,0,Nat.zero_le _,rfl⟩
 case round=>
  obtain⟨hw,k,hk,rfl⟩:=hrel
  subst hw
  by_cases hlt:k<n+3
  ·have g1:=hp k hlt
   clear hp
   by_cases c1:k<n
   ·obtain⟨b,o,rfl,hc⟩:=hs (by omega)
    have g2:=hc k c1
    rw[show lentF n f k=f k by simp[lentF,c1]]at g1
    gi_wp2
    go_roundw
    case rel=>exact⟨trivial,k+1,by omega,by go_num⟩
    case measure=>simp[intOf];omega
   ·rw[show lentF n f k=70000 by simp[lentF,c1]]at g1
    gi_wp2
    go_roundw
    case rel=>exact⟨trivial,k+1,by omega,by go_num⟩
    case measure=>simp[intOf];omega
  ·obtain rfl:k=n+3:=by omega
   gi_wp2
   go_ret
   exact⟨by simp,rfl⟩
def loanV (core swap:Int) (n pb cb xb xc:Nat):Array Value:=#[.int .i64 core,.int .i64 swap,.slice (some ⟨pb,0,none⟩) n cb,.slice (some ⟨xb,0,none⟩) 0 xc,.slice (some ⟨pb,0,none⟩) (n+3) cb,.slice (some ⟨xb,0,none⟩) 2 xc,.slice none 0 0]
theorem store_loan {w:World} {R:Nat} {core swap:Int} {n pb cb xb xc:Nat} {z0 z1 z2 z3 z4 z5 z6:Value} (h:w.heap[R]?=some (.cells #[z0,z1,z2,z3,z4,z5,z6] 152 (0,0))):∃w',(Instr.storeAt 152 (.pointer (some ⟨R,0,none⟩)) (.agg #[.int .i64 core,.int .i64 swap,.slice (some ⟨pb,0,none⟩) n cb,.slice (some ⟨xb,0,none⟩) 0 xc,.slice (some ⟨pb,0,none⟩) (n+3) cb,.slice (some ⟨xb,0,none⟩) 2 xc,.slice none 0 0])).run Tryz.prog w=.ok () w'∧Keep (At R) w w'∧w'.heap[R]?=some (.cells (loanV core swap n pb cb xb xc) 152 (0,0)):=by
 have e:(Instr.storeAt 152 (.pointer (some ⟨R,0,none⟩)) (.agg (loanV core swap n pb cb xb xc))).run Tryz.prog w=(stores R 0 (loanV core swap n pb cb xb xc).toList (.pure ())).run Tryz.prog w:=by kernel_rfl
 obtain⟨w',h1,h2,h3⟩:=al1 (P:=Tryz.prog) (k:=Sem.pure ()) (loanV core swap n pb cb xb xc).toList 0 _ w h (by simp[loanV]) (by simp[loanV,Value.oneCell'])
 refine⟨w',?_,h2,?_⟩
 ·exact e.trans (by rw[h1];rfl)
 ·rw[h3];simp[am7,loanV]
set_option maxHeartbeats 4000000 in
theorem lend_calls (core swap:Int) (n:Nat) (v:Value) (f:Nat→Int) (h:SlI w v n f) (h0:n=0→v=.slice none 0 0):CallsIn NF m Tryz.prog 67 #[.agg #[.int .i64 core,.int .i64 swap,v,.slice none 0 0]] w fun e w'=>Keep No w w'∧∃pb pc xb xc,e=.returned (.agg #[.int .i64 core,.int .i64 swap,.slice (some ⟨pb,0,none⟩) n pc,.slice (some ⟨xb,0,none⟩) 0 xc,.slice (some ⟨pb,0,none⟩) (n+3) pc,.slice (some ⟨xb,0,none⟩) 2 xc,.slice none 0 0])∧w'.ownsRow w.heap.size 3 1 (.slice (some ⟨pb,0,none⟩) (n+3) pc) (n+3) ((List.range (n+3)).map fun i=>.int .i64 (lentF n f i))∧w'.ownsRow w.heap.size 22 1 (.slice (some ⟨xb,0,none⟩) 2 xc) 2 [.slice none 0 0,.slice none 0 0]:=by
 obtain⟨hn,s,c,rfl,hs⟩:=h
 obtain⟨i3,hi3,hz30,hz31,hz32⟩:=info_parts info3
 obtain⟨i22,hi22,hz220,hz221,hz222⟩:=info_parts info22
 gi_enter Tryz.func67,Tryz.ntmps67
 gi_upto_region 2 with fail
 have hc:(((w.alloc (.cells #[.int .i64 core,.int .i64 swap,.slice s n c,.slice none 0 0] 25)).alloc (.cells #[.int .i64 0,.int .i64 0,.slice none 0 0,.slice none 0 0,.slice none 0 0,.slice none 0 0,.slice none 0 0] 152)).alloc (.cells #[.int .i64 core,.int .i64 swap,.slice s n c,.slice none 0 0,.slice none 0 0,.slice none 0 0,.slice none 0 0] 152)).heap[w.heap.size]?=some (.cells #[.int .i64 core,.int .i64 swap,.slice s n c,.slice none 0 0] 25 (0,0)):=(ab5 (by simp;omega)).trans ((ab5 (by simp)).trans (aa4 rfl))
 have hr:(((w.alloc (.cells #[.int .i64 core,.int .i64 swap,.slice s n c,.slice none 0 0] 25)).alloc (.cells #[.int .i64 0,.int .i64 0,.slice none 0 0,.slice none 0 0,.slice none 0 0,.slice none 0 0,.slice none 0 0] 152)).alloc (.cells #[.int .i64 core,.int .i64 swap,.slice s n c,.slice none 0 0,.slice none 0 0,.slice none 0 0,.slice none 0 0] 152)).heap[w.heap.size+1]?=some (.cells #[.int .i64 0,.int .i64 0,.slice none 0 0,.slice none 0 0,.slice none 0 0,.slice none 0 0,.slice none 0 0] 152 (0,0)):=(ab5 (by simp)).trans (aa4 (by simp))
 have hx:(((w.alloc (.cells #[.int .i64 core,.int .i64 swap,.slice s n c,.slice none 0 0] 25)).alloc (.cells #[.int .i64 0,.int .i64 0,.slice none 0 0,.slice none 0 0,.slice none 0 0,.slice none 0 0,.slice none 0 0] 152)).alloc (.cells #[.int .i64 core,.int .i64 swap,.slice s n c,.slice none 0 0,.slice none 0 0,.slice none 0 0,.slice none 0 0] 152)).heap[w.heap.size+1+1]?=some (.cells #[.int .i64 core,.int .i64 swap,.slice s n c,.slice none 0 0,.slice none 0 0,.slice none 0 0,.slice none 0 0] 152 (0,0)):=aa4 (by simp)
 have K0:Keep No w (((w.alloc (.cells #[.int .i64 core,.int .i64 swap,.slice s n c,.slice none 0 0] 25)).alloc (.cells #[.int .i64 0,.int .i64 0,.slice none 0 0,.slice none 0 0,.slice none 0 0,.slice none 0 0,.slice none 0 0] 152)).alloc (.cells #[.int .i64 core,.int .i64 swap,.slice s n c,.slice none 0 0,.slice none 0 0,.slice none 0 0,.slice none 0 0] 152)):=(((Keep.refl No w).alloc _).alloc _).alloc _
 generalize ((w.alloc (.cells #[.int .i64 core,.int .i64 swap,.slice s n c,.slice none 0 0] 25)).alloc (.cells #[.int .i64 0,.int .i64 0,.slice none 0 0,.slice none 0 0,.slice none 0 0,.slice none 0 0,.slice none 0 0] 152)).alloc (.cells #[.int .i64 core,.int .i64 swap,.slice s n c,.slice none 0 0,.slice none 0 0,.slice none 0 0,.slice none 0 0] 152)=W0 at*
 have hcr:w.heap.size≠w.heap.size+1:=by omega
 have hcx:w.heap.size≠w.heap.size+1+1:=by omega
 have hrx:w.heap.size+1≠w.heap.size+1+1:=by omega
 generalize hB:w.heap.size=base at*
 have hbR:base≤base+1:=by omega
 have hbX:base≤base+1+1:=by omega
 generalize base+1+1=X at*
 generalize base+1=R at*
 obtain⟨va,W1,hap,oa,K1⟩:∃va W1,(Builtin.append_ #[22,22] 22 #[.slice none 0 0,.slice s n c]).run Tryz.prog W0=.ok va W1∧W1.ownsRow base 3 1 va n ((List.range n).map fun i=>.int .i64 (f i))∧Keep No W0 W1:=by
  by_cases hn0:n=0
  ·have e:=h0 hn0
   injection e with e1 e2 e3
   subst e1 e2 e3
   exact⟨.slice none 0 0,W0,by kernel_rfl,World.ownsRow_nil _ _ _ _,Keep.refl _ _⟩
  ·obtain⟨b,o,rfl,hcell⟩:=hs (by omega)
   have hsrc:∀j u,((List.range n).map fun i=>Value.int .i64 (f i))[j]?=some u→W0.cell? ((⟨b,o,none⟩:Addr).add j)=some u:=fun j u hj=>by
    have hj':j<n:=by
     rcases Nat.lt_or_ge j n with h|h
     ·exact h
     ·rw[List.getElem?_eq_none (by simpa using h)]at hj;cases hj
    rw[Addr.add_lit,K0.has (hcell j hj'),←hj]
    simp[hj']
   obtain⟨va,W1,r1,r2,r3,_⟩:=append_where (P:=Tryz.prog) W0 base 22 22 3 i3 (.int .i64 0) 1 8 Tryz.underlying22 hi3 hz30 hz31 hz32 rfl (by decide) (.slice none 0 0) 0 [] (World.ownsRow_nil _ _ _ _) ⟨b,o,none⟩ n c ((List.range n).map fun i=>Value.int .i64 (f i)) (by simp) hsrc (by simp[Value.oneCell']) (by unfold maxLen;omega) (by omega) (by rw[←hB];exact K0.size) (by omega)
   exact⟨va,W1,r1,by simpa using r2,(ae7 r3 fun k hk _=>hk).mono fun k _ e=>by cases e⟩
 obtain⟨aa,ca,hva⟩:=ac1 oa
 subst hva
 have d4:W0.cell? ⟨X,4,none⟩=some (.slice none 0 0):=by rw[aa0 hx];rfl
 have d2:W0.cell? ⟨base,2,none⟩=some (.slice s n c):=by rw[aa0 hc];rfl
 have hx1:=K1.old hx id
 have d4':W1.cell? ⟨X,4,none⟩=some (.slice none 0 0):=by rw[aa0 hx1];rfl
 have f4:=ab3 hx1 4
 gi_upto_region 3 with(gi_at_builtin;refine aj3 rfl (.tmp 9) (.tmp 11) _ rfl rfl rfl hap ?_)
 have kS:Keep (Go.Fxa.At X) W1 (W1.setCell ⟨X,4,none⟩ (.slice aa n ca)):=Keep.set1 _
 have hx2:(W1.setCell ⟨X,4,none⟩ (.slice aa n ca)).heap[X]?=some (.cells #[.int .i64 core,.int .i64 swap,.slice s n c,.slice none 0 0,.slice aa n ca,.slice none 0 0,.slice none 0 0] 152 (0,0)):=(aa2 hx1 _).trans rfl
 have hc2:=kS.old (K1.old hc id) hcx
 have hr2:=kS.old (K1.old hr id) hrx
 have oa2:=aa3 oa kS (fun g hg e=>ad7 oa hx1 (by decide) (by rw[hg];exact congrArg some e))
 have K2:Keep No w (W1.setCell ⟨X,4,none⟩ (.slice aa n ca)):=(K0.then K1).trans kS (fun k hk e=>absurd (show k=X from e) (by omega))
 clear hap oa K1 d4 d2 hx1 d4' f4 kS hx hc hr K0
 generalize W1.setCell ⟨X,4,none⟩ (.slice aa n ca)=W2 at*
 have e4:W2.cell? ⟨X,4,none⟩=some (.slice aa n ca):=by rw[aa0 hx2];rfl
 have KA:Keep No W2 (W2.alloc (.cells #[.int .i64 70000,.int .i64 70000,.int .i64 70000] 3)):=(Keep.refl No W2).alloc _
 have hA:(W2.alloc (.cells #[.int .i64 70000,.int .i64 70000,.int .i64 70000] 3)).heap[W2.heap.size]?=some (.cells #[.int .i64 70000,.int .i64 70000,.int .i64 70000] 3 (0,0)):=aa4 rfl
 have hsA:∀j u,([.int .i64 70000,.int .i64 70000,.int .i64 70000]:List Value)[j]?=some u→(W2.alloc (.cells #[.int .i64 70000,.int .i64 70000,.int .i64 70000] 3)).cell? ((⟨W2.heap.size,0,none⟩:Addr).add j)=some u:=fun j u hj=>by
  rw[Addr.add_lit,Nat.zero_add,aa0 hA,←hj]
  match j with
  | 0=>rfl
  | 1=>rfl
  | 2=>rfl
  | j+3=>simp
 have oA:=aa3 oa2 KA (fun _ _ x=>x)
 have hxA:=KA.old hx2 id
 have hcA:=KA.old hc2 id
 have hrA:=KA.old hr2 id
 gi_upto_region 4 with(gi_at_builtin;refine ac3 _ rfl (.tmp 15) (.tmp 16) 22 rfl base 3 i3 (.int .i64 0) 1 8 Tryz.underlying22 hi3 hz30 hz31 hz32 rfl (by decide) (.slice aa n ca) n ((List.range n).map fun i=>.int .i64 (f i)) rfl oA ⟨W2.heap.size,0,none⟩ 3 3 [.int .i64 70000,.int .i64 70000,.int .i64 70000] rfl (by simp) hsA (by simp[Value.oneCell']) (by unfold maxLen;omega) (by omega) (by rw[←hB];exact Nat.le_trans K2.size KA.size) (by omega) ?_;intro vb W3 o3 K3 _;have f3:=ac1 o3;obtain⟨ab,cb,hvb⟩:=f3;subst hvb;have hx3:=K3.old hxA (ad7 oA hxA (by decide));have g4:W3.cell? ⟨X,4,none⟩=some (.slice aa n ca):=(by rw[aa0 hx3];rfl);have f4:=ab3 hx3 4)
 have kS:Keep (Go.Fxa.At X) W3 (W3.setCell ⟨X,4,none⟩ (.slice ab (n+3) cb)):=Keep.set1 _
 have hx4:(W3.setCell ⟨X,4,none⟩ (.slice ab (n+3) cb)).heap[X]?=some (.cells #[.int .i64 core,.int .i64 swap,.slice s n c,.slice none 0 0,.slice ab (n+3) cb,.slice none 0 0,.slice none 0 0] 152 (0,0)):=(aa2 hx3 _).trans rfl
 have hc4:=kS.old (K3.old hcA (ad7 oA hcA (by decide))) hcx
 have hr4:=kS.old (K3.old hrA (ad7 oA hrA (by decide))) hrx
 have o4:=aa3 o3 kS (fun g hg e=>ad7 o3 hx3 (by decide) (by rw[hg];exact congrArg some e))
 have K4:Keep No w (W3.setCell ⟨X,4,none⟩ (.slice ab (n+3) cb)):=((K2.then KA).trans K3 (fun k hk e=>absurd (oA.lt k e).1 (by omega))).trans kS (fun k hk e=>absurd (show k=X from e) (by omega))
 clear e4 KA hA hsA oA hxA hcA hrA hx3 g4 f4 K3 kS o3 oa2 hx2 hc2 hr2 K2
 generalize W3.setCell ⟨X,4,none⟩ (.slice ab (n+3) cb)=W4 at*
 obtain⟨pb,rfl⟩:∃pb,ab=some ⟨pb,0,none⟩:=by
  rcases o4.2 with⟨_,e⟩|⟨g,cap,cur,e,_⟩
  ·omega
  ·injection e with e1;exact⟨g,e1⟩
 have hcap:n+3≤cb:=by
  rcases o4.2 with⟨_,e⟩|⟨g,cap,cur,e,_,_,hq,_⟩
  ·omega
  ·injection e with _ _ e3;omega
 have j4:W4.cell? ⟨X,4,none⟩=some (.slice (some ⟨pb,0,none⟩) (n+3) cb):=by rw[aa0 hx4];rfl
 have j2:W4.cell? ⟨base,2,none⟩=some (.slice s n c):=by rw[aa0 hc4];rfl
 have j3:W4.cell? ⟨X,2,none⟩=some (.slice s n c):=by rw[aa0 hx4];rfl
 have fj:=ab3 hx4 2
 have hcap':(n:Int)≤cb:=by omega
 gi_upto_region 5 with fail
 have kS:Keep (Go.Fxa.At X) W4 (W4.setCell ⟨X,2,none⟩ (.slice (some ⟨pb,0,none⟩) n cb)):=Keep.set1 _
 have hx5:(W4.setCell ⟨X,2,none⟩ (.slice (some ⟨pb,0,none⟩) n cb)).heap[X]?=some (.cells #[.int .i64 core,.int .i64 swap,.slice (some ⟨pb,0,none⟩) n cb,.slice none 0 0,.slice (some ⟨pb,0,none⟩) (n+3) cb,.slice none 0 0,.slice none 0 0] 152 (0,0)):=(aa2 hx4 _).trans rfl
 have hc5:=kS.old hc4 hcx
 have hr5:=kS.old hr4 hrx
 have o5:=aa3 o4 kS (fun g hg e=>ad7 o4 hx4 (by decide) (by rw[hg];exact congrArg some e))
 have K5:Keep No w (W4.setCell ⟨X,2,none⟩ (.slice (some ⟨pb,0,none⟩) n cb)):=K4.trans kS (fun k hk e=>absurd (show k=X from e) (by omega))
 clear j4 j2 j3 fj kS o4 hx4 hc4 hr4 K4
 generalize W4.setCell ⟨X,2,none⟩ (.slice (some ⟨pb,0,none⟩) n cb)=W5 at*
 have l3:W5.cell? ⟨base,3,none⟩=some (.slice none 0 0):=by rw[aa0 hc5];rfl
 have l5:W5.cell? ⟨X,5,none⟩=some (.slice none 0 0):=by rw[aa0 hx5];rfl
 gi_wp2
 refine wpIn_loop_once ?_
 have KA:Keep No W5 (W5.alloc (.cells #[.slice none 0 0,.slice none 0 0] 22)):=(Keep.refl No W5).alloc _
 have hA:(W5.alloc (.cells #[.slice none 0 0,.slice none 0 0] 22)).heap[W5.heap.size]?=some (.cells #[.slice none 0 0,.slice none 0 0] 22 (0,0)):=aa4 rfl
 have hsA:∀j u,([.slice none 0 0,.slice none 0 0]:List Value)[j]?=some u→(W5.alloc (.cells #[.slice none 0 0,.slice none 0 0] 22)).cell? ((⟨W5.heap.size,0,none⟩:Addr).add j)=some u:=fun j u hj=>by
  rw[Addr.add_lit,Nat.zero_add,aa0 hA,←hj]
  match j with
  | 0=>rfl
  | 1=>rfl
  | j+2=>simp
 have oA:=aa3 o5 KA (fun _ _ x=>x)
 have hxA:=KA.old hx5 id
 have hcA:=KA.old hc5 id
 have hrA:=KA.old hr5 id
 gi_upto_region 14 with(gi_at_builtin;refine ac3 _ rfl (.tmp 64) (.tmp 65) 23 rfl base 22 i22 (.slice none 0 0) 1 24 Tryz.underlying23 hi22 hz220 hz221 hz222 rfl (by decide) (.slice none 0 0) 0 [] rfl (World.ownsRow_nil _ _ _ _) ⟨W5.heap.size,0,none⟩ 2 2 [.slice none 0 0,.slice none 0 0] rfl (by simp) hsA (by simp[Value.oneCell']) (by unfold maxLen;omega) (by omega) (by rw[←hB];exact Nat.le_trans K5.size KA.size) (by omega) ?_;intro vb W6 o6 K6 _;have f3:=ac1 o6;obtain⟨ab,xc,hvb⟩:=f3;subst hvb;have hx6:=K6.old hxA (fun e=>by cases e);have g4:W6.cell? ⟨X,5,none⟩=some (.slice none 0 0):=(by rw[aa0 hx6];rfl);have f4:=ab3 hx6 5)
 have K6':Keep No W5 W6:=KA.then (K6.mono fun k _ e=>by cases e)
 have kS:Keep (Go.Fxa.At X) W6 (W6.setCell ⟨X,5,none⟩ (.slice ab 2 xc)):=Keep.set1 _
 have hx7:(W6.setCell ⟨X,5,none⟩ (.slice ab 2 xc)).heap[X]?=some (.cells #[.int .i64 core,.int .i64 swap,.slice (some ⟨pb,0,none⟩) n cb,.slice none 0 0,.slice (some ⟨pb,0,none⟩) (n+3) cb,.slice ab 2 xc,.slice none 0 0] 152 (0,0)):=(aa2 hx6 _).trans rfl
 have hc7:=kS.old (K6'.old hc5 id) hcx
 have hr7:=kS.old (K6'.old hr5 id) hrx
 have o56:=aa3 o5 K6' (fun _ _ x=>x)
 have o57:=aa3 o56 kS (fun g hg e=>ad7 o56 hx6 (by decide) (by rw[hg];exact congrArg some e))
 have o67:=aa3 o6 kS (fun g hg e=>ad7 o6 hx6 (by decide) (by rw[hg];exact congrArg some e))
 have K7:Keep No w (W6.setCell ⟨X,5,none⟩ (.slice ab 2 xc)):=(K5.then K6').trans kS (fun k hk e=>absurd (show k=X from e) (by omega))
 clear l3 l5 KA hA hsA oA hxA hcA hrA hx6 g4 f4 K6 K6' kS o6 o56 o5 hx5 hc5 hr5 K5
 generalize W6.setCell ⟨X,5,none⟩ (.slice ab 2 xc)=W7 at*
 obtain⟨xb,rfl⟩:∃xb,ab=some ⟨xb,0,none⟩:=by
  rcases o67.2 with⟨_,e⟩|⟨g,cap,cur,e,_⟩
  ·omega
  ·injection e with e1;exact⟨g,e1⟩
 have q5:W7.cell? ⟨X,5,none⟩=some (.slice (some ⟨xb,0,none⟩) 2 xc):=by rw[aa0 hx7];rfl
 have q3:W7.cell? ⟨base,3,none⟩=some (.slice none 0 0):=by rw[aa0 hc7];rfl
 have q4:W7.cell? ⟨X,3,none⟩=some (.slice none 0 0):=by rw[aa0 hx7];rfl
 have fq:=ab3 hx7 3
 gi_upto_region 15 with fail
 have kS:Keep (Go.Fxa.At X) W7 (W7.setCell ⟨X,3,none⟩ (.slice (some ⟨xb,0,none⟩) 0 xc)):=Keep.set1 _
 have hx8:(W7.setCell ⟨X,3,none⟩ (.slice (some ⟨xb,0,none⟩) 0 xc)).heap[X]?=some (.cells #[.int .i64 core,.int .i64 swap,.slice (some ⟨pb,0,none⟩) n cb,.slice (some ⟨xb,0,none⟩) 0 xc,.slice (some ⟨pb,0,none⟩) (n+3) cb,.slice (some ⟨xb,0,none⟩) 2 xc,.slice none 0 0] 152 (0,0)):=(aa2 hx7 _).trans rfl
 have hr8:=kS.old hr7 hrx
 have o58:=aa3 o57 kS (fun g hg e=>ad7 o57 hx7 (by decide) (by rw[hg];exact congrArg some e))
 have o68:=aa3 o67 kS (fun g hg e=>ad7 o67 hx7 (by decide) (by rw[hg];exact congrArg some e))
 have K8:Keep No w (W7.setCell ⟨X,3,none⟩ (.slice (some ⟨xb,0,none⟩) 0 xc)):=K7.trans kS (fun k hk e=>absurd (show k=X from e) (by omega))
 clear q5 q3 q4 fq kS o57 o67 hx7 hc7 hr7 K7
 generalize W7.setCell ⟨X,3,none⟩ (.slice (some ⟨xb,0,none⟩) 0 xc)=W8 at*
 have x0:W8.cell? ⟨X,0,none⟩=some (.int .i64 core):=by rw[aa0 hx8];rfl
 have x1:W8.cell? ⟨X,1,none⟩=some (.int .i64 swap):=by rw[aa0 hx8];rfl
 have x2:W8.cell? ⟨X,2,none⟩=some (.slice (some ⟨pb,0,none⟩) n cb):=by rw[aa0 hx8];rfl
 have x3:W8.cell? ⟨X,3,none⟩=some (.slice (some ⟨xb,0,none⟩) 0 xc):=by rw[aa0 hx8];rfl
 have x4:W8.cell? ⟨X,4,none⟩=some (.slice (some ⟨pb,0,none⟩) (n+3) cb):=by rw[aa0 hx8];rfl
 have x5:W8.cell? ⟨X,5,none⟩=some (.slice (some ⟨xb,0,none⟩) 2 xc):=by rw[aa0 hx8];rfl
 have x6:W8.cell? ⟨X,6,none⟩=some (.slice none 0 0):=by rw[aa0 hx8];rfl
 obtain⟨W9,hst,K9,hr9⟩:=store_loan (core:=core) (swap:=swap) (n:=n) (pb:=pb) (cb:=cb) (xb:=xb) (xc:=xc) hr8
 gi_wp2_with (refine af2 rfl (.tmp 2) (.tmp 76) 152 rfl rfl rfl hst ?_)
 have y0:W9.cell? ⟨R,0,none⟩=some (.int .i64 core):=by rw[aa0 hr9];rfl
 have y1:W9.cell? ⟨R,1,none⟩=some (.int .i64 swap):=by rw[aa0 hr9];rfl
 have y2:W9.cell? ⟨R,2,none⟩=some (.slice (some ⟨pb,0,none⟩) n cb):=by rw[aa0 hr9];rfl
 have y3:W9.cell? ⟨R,3,none⟩=some (.slice (some ⟨xb,0,none⟩) 0 xc):=by rw[aa0 hr9];rfl
 have y4:W9.cell? ⟨R,4,none⟩=some (.slice (some ⟨pb,0,none⟩) (n+3) cb):=by rw[aa0 hr9];rfl
 have y5:W9.cell? ⟨R,5,none⟩=some (.slice (some ⟨xb,0,none⟩) 2 xc):=by rw[aa0 hr9];rfl
 have y6:W9.cell? ⟨R,6,none⟩=some (.slice none 0 0):=by rw[aa0 hr9];rfl
 refine bodyPost_ret (v:=.agg (loanV core swap n pb cb xb xc)) (by simp[results,Tryz.results67,go_sem,loanV,y0,y1,y2,y3,y4,y5,y6]) rfl ?_
 have o59:=aa3 o58 K9 (fun g hg e=>ad7 o58 hr8 (by decide) (by rw[hg];exact congrArg some e))
 have o69:=aa3 o68 K9 (fun g hg e=>ad7 o68 hr8 (by decide) (by rw[hg];exact congrArg some e))
 have KZ:Keep No w W9:=K8.trans K9 (fun k hk e=>absurd (show k=R from e) (by omega))
 subst hB
 refine⟨KZ,pb,cb,xb,xc,rfl,?_,by simpa using o69⟩
 have el:((List.range n).map fun i=>Value.int .i64 (f i))++[.int .i64 70000,.int .i64 70000,.int .i64 70000]=(List.range (n+3)).map fun i=>.int .i64 (lentF n f i):=by
  rw[show n+3=n+1+1+1 from rfl,List.range_succ,List.range_succ,List.range_succ,List.map_append,List.map_append,List.map_append,List.append_assoc,List.append_assoc]
  congr 1
  ·refine List.map_congr_left fun i hi=>?_
   have:i<n:=by simpa using hi
   simp[lentF,this]
  ·simp[lentF]
   omega
 rw[←el]
 exact o59
end
section
variable (m:Nat) (w:World)
set_option maxHeartbeats 16000000 in
theorem rNew_no (core swap:Int) (v:Value) (n:Nat) (f:Nat→Int) (fa:Option Addr) (fc:Nat) (h:SlI w v n f) (hno:¬MayBe core swap n f):CallsIn NF m Tryz.prog 68 #[.agg #[.int .i64 core,.int .i64 swap,v,.slice fa 0 fc]] w fun e w'=>Keep No w w'∧e=.returned (.pointer none):=by
 obtain⟨s,c,rfl⟩:∃s c,v=.slice s n c:=let ⟨_,s,c,e,_⟩:=h;⟨s,c,e⟩
 have hn:=h.1
 have K1:Keep No w (w.alloc (.cells #[.int .i64 core,.int .i64 swap,.slice s n c,.slice fa 0 fc] 25)):=(Keep.refl _ _).alloc _
 have hb1:(w.alloc (.cells #[.int .i64 core,.int .i64 swap,.slice s n c,.slice fa 0 fc] 25)).heap[w.heap.size]?=some (.cells #[.int .i64 core,.int .i64 swap,.slice s n c,.slice fa 0 fc] 25 (0,0)):=aa4 rfl
 have h1:=h.keep K1
 gi_enter Tryz.func68,Tryz.ntmps68
 gi_wp2_with fail
 refine(rwords_calls _ (w.alloc (.cells #[.int .i64 core,.int .i64 swap,.slice s n c,.slice fa 0 fc] 25)) _ n f h1).mono ?_
 rintro e w1 ⟨⟨r,rfl,hr⟩,hw⟩
 have hw:=hw.symm
 subst hw
 gi_upto_region 2 with fail
 have c0:(w.alloc (.cells #[.int .i64 core,.int .i64 swap,.slice s n c,.slice fa 0 fc] 25)).cell? ⟨w.heap.size,0,none⟩=some (.int .i64 core):=by rw[aa0 hb1];rfl
 have c1:(w.alloc (.cells #[.int .i64 core,.int .i64 swap,.slice s n c,.slice fa 0 fc] 25)).cell? ⟨w.heap.size,1,none⟩=some (.int .i64 swap):=by rw[aa0 hb1];rfl
 have c2:(w.alloc (.cells #[.int .i64 core,.int .i64 swap,.slice s n c,.slice fa 0 fc] 25)).cell? ⟨w.heap.size,2,none⟩=some (.slice s n c):=by rw[aa0 hb1];rfl
 have c3:(w.alloc (.cells #[.int .i64 core,.int .i64 swap,.slice s n c,.slice fa 0 fc] 25)).cell? ⟨w.heap.size,3,none⟩=some (.slice fa 0 fc):=by rw[aa0 hb1];rfl
 have hcase:core<16∨64<core∨swap<1∨256<swap∨(n:Int)<1∨128<(n:Int)∨r=false∨swap<(nblk n:Int):=by
  refine Classical.byContradiction fun hx=>hno ?_
  have hW:r=true:=by cases r<;>simp at hx ⊢
  exact⟨⟨by omega,by omega,by omega,by omega⟩,⟨by omega,by omega,hr.1 hW⟩,by omega⟩
 clear hr hno hb1 h1 h
 generalize w.alloc (.cells #[.int .i64 core,.int .i64 swap,.slice s n c,.slice fa 0 fc] 25)=w1 at*
 by_cases g1:core<16
 ·refine aa9 (P:=Tryz.prog) No _ rfl rfl (by kernel_rfl) 47 168 [0,1,2,3,4,5,6,7,8,9,10,11,12,13,14,15,16,17,18,19,20,21,22,23,24,25,26,27,28,29,30,31,32,33,34,35,36,37,38,39,40,41,42,43,44,45,46] [] (by kernel_rfl) (by rfl) (fun _ _ _=>True) (fun _ _ _ _ _ h _=>h) _ _ rfl rfl ?_
  gi_wp2_with (first|(gi_at_call 109;refine(ab4 _ w1.drew n (by omega)).mono ?_;rintro e w2 ⟨rfl,hw2⟩;have hw2:=hw2.symm;subst hw2)|(refine ab7 rfl rfl rfl ?_))
  refine⟨rfl,by kernel_rfl,?_,(fun i hi=>absurd hi (by simp)),?_⟩
  ·intro V hK
   have d0:=hK.has (w:=w1.drew) c0
   have d1:=hK.has (w:=w1.drew) c1
   have d2:=hK.has (w:=w1.drew) c2
   have d3:=hK.has (w:=w1.drew) c3
   repeat' (refine aa8 ?_ ?_)
   all_goals first|exact trivial|gi_wp2_with (first|(gi_at_call 109;refine(ab4 _ V n (by omega)).mono ?_;rintro e w2 ⟨rfl,hw2⟩;have hw2:=hw2.symm;subst hw2)|(refine ab7 rfl rfl rfl ?_))
  intro u1 V hV _
  simp only[putS]
  gi_wp2_with (first|(gi_at_call 109;refine(ab4 _ V n (by omega)).mono ?_;rintro e w2 ⟨rfl,hw2⟩;have hw2:=hw2.symm;subst hw2)|(refine ab7 rfl rfl rfl ?_))
  go_ret
  exact⟨K1.drew.then hV,by simp⟩
 by_cases g2:64<core
 ·refine aa9 (P:=Tryz.prog) No _ rfl rfl (by kernel_rfl) 47 168 [0,1,2,3,4,5,6,7,8,9,10,11,12,13,14,15,16,17,18,19,20,21,22,23,24,25,26,27,28,29,30,31,32,33,34,35,36,37,38,39,40,41,42,43,44,45,46] [] (by kernel_rfl) (by rfl) (fun _ _ _=>True) (fun _ _ _ _ _ h _=>h) _ _ rfl rfl ?_
  gi_wp2_with (first|(gi_at_call 109;refine(ab4 _ w1.drew n (by omega)).mono ?_;rintro e w2 ⟨rfl,hw2⟩;have hw2:=hw2.symm;subst hw2)|(refine ab7 rfl rfl rfl ?_))
  refine⟨rfl,by kernel_rfl,?_,(fun i hi=>absurd hi (by simp)),?_⟩
  ·intro V hK
   have d0:=hK.has (w:=w1.drew) c0
   have d1:=hK.has (w:=w1.drew) c1
   have d2:=hK.has (w:=w1.drew) c2
   have d3:=hK.has (w:=w1.drew) c3
   repeat' (refine aa8 ?_ ?_)
   all_goals first|exact trivial|gi_wp2_with (first|(gi_at_call 109;refine(ab4 _ V n (by omega)).mono ?_;rintro e w2 ⟨rfl,hw2⟩;have hw2:=hw2.symm;subst hw2)|(refine ab7 rfl rfl rfl ?_))
  intro u1 V hV _
  simp only[putS]
  gi_wp2_with (first|(gi_at_call 109;refine(ab4 _ V n (by omega)).mono ?_;rintro e w2 ⟨rfl,hw2⟩;have hw2:=hw2.symm;subst hw2)|(refine ab7 rfl rfl rfl ?_))
  go_ret
  exact⟨K1.drew.then hV,by simp⟩
 by_cases g3:swap<1
 ·refine aa9 (P:=Tryz.prog) No _ rfl rfl (by kernel_rfl) 47 168 [0,1,2,3,4,5,6,7,8,9,10,11,12,13,14,15,16,17,18,19,20,21,22,23,24,25,26,27,28,29,30,31,32,33,34,35,36,37,38,39,40,41,42,43,44,45,46] [] (by kernel_rfl) (by rfl) (fun _ _ _=>True) (fun _ _ _ _ _ h _=>h) _ _ rfl rfl ?_
  gi_wp2_with (first|(gi_at_call 109;refine(ab4 _ w1.drew n (by omega)).mono ?_;rintro e w2 ⟨rfl,hw2⟩;have hw2:=hw2.symm;subst hw2)|(refine ab7 rfl rfl rfl ?_))
  refine⟨rfl,by kernel_rfl,?_,(fun i hi=>absurd hi (by simp)),?_⟩
  ·intro V hK
   have d0:=hK.has (w:=w1.drew) c0
   have d1:=hK.has (w:=w1.drew) c1
   have d2:=hK.has (w:=w1.drew) c2
   have d3:=hK.has (w:=w1.drew) c3
   repeat' (refine aa8 ?_ ?_)
   all_goals first|exact trivial|gi_wp2_with (first|(gi_at_call 109;refine(ab4 _ V n (by omega)).mono ?_;rintro e w2 ⟨rfl,hw2⟩;have hw2:=hw2.symm;subst hw2)|(refine ab7 rfl rfl rfl ?_))
  intro u1 V hV _
  simp only[putS]
  gi_wp2_with (first|(gi_at_call 109;refine(ab4 _ V n (by omega)).mono ?_;rintro e w2 ⟨rfl,hw2⟩;have hw2:=hw2.symm;subst hw2)|(refine ab7 rfl rfl rfl ?_))
  go_ret
  exact⟨K1.drew.then hV,by simp⟩
 by_cases g4:256<swap
 ·refine aa9 (P:=Tryz.prog) No _ rfl rfl (by kernel_rfl) 47 168 [0,1,2,3,4,5,6,7,8,9,10,11,12,13,14,15,16,17,18,19,20,21,22,23,24,25,26,27,28,29,30,31,32,33,34,35,36,37,38,39,40,41,42,43,44,45,46] [] (by kernel_rfl) (by rfl) (fun _ _ _=>True) (fun _ _ _ _ _ h _=>h) _ _ rfl rfl ?_
  gi_wp2_with (first|(gi_at_call 109;refine(ab4 _ w1.drew n (by omega)).mono ?_;rintro e w2 ⟨rfl,hw2⟩;have hw2:=hw2.symm;subst hw2)|(refine ab7 rfl rfl rfl ?_))
  refine⟨rfl,by kernel_rfl,?_,(fun i hi=>absurd hi (by simp)),?_⟩
  ·intro V hK
   have d0:=hK.has (w:=w1.drew) c0
   have d1:=hK.has (w:=w1.drew) c1
   have d2:=hK.has (w:=w1.drew) c2
   have d3:=hK.has (w:=w1.drew) c3
   repeat' (refine aa8 ?_ ?_)
   all_goals first|exact trivial|gi_wp2_with (first|(gi_at_call 109;refine(ab4 _ V n (by omega)).mono ?_;rintro e w2 ⟨rfl,hw2⟩;have hw2:=hw2.symm;subst hw2)|(refine ab7 rfl rfl rfl ?_))
  intro u1 V hV _
  simp only[putS]
  gi_wp2_with (first|(gi_at_call 109;refine(ab4 _ V n (by omega)).mono ?_;rintro e w2 ⟨rfl,hw2⟩;have hw2:=hw2.symm;subst hw2)|(refine ab7 rfl rfl rfl ?_))
  go_ret
  exact⟨K1.drew.then hV,by simp⟩
 by_cases g5:(n:Int)<1
 ·refine aa9 (P:=Tryz.prog) No _ rfl rfl (by kernel_rfl) 47 168 [0,1,2,3,4,5,6,7,8,9,10,11,12,13,14,15,16,17,18,19,20,21,22,23,24,25,26,27,28,29,30,31,32,33,34,35,36,37,38,39,40,41,42,43,44,45,46] [] (by kernel_rfl) (by rfl) (fun _ _ _=>True) (fun _ _ _ _ _ h _=>h) _ _ rfl rfl ?_
  gi_wp2_with (first|(gi_at_call 109;refine(ab4 _ w1.drew n (by omega)).mono ?_;rintro e w2 ⟨rfl,hw2⟩;have hw2:=hw2.symm;subst hw2)|(refine ab7 rfl rfl rfl ?_))
  refine⟨rfl,by kernel_rfl,?_,(fun i hi=>absurd hi (by simp)),?_⟩
  ·intro V hK
   have d0:=hK.has (w:=w1.drew) c0
   have d1:=hK.has (w:=w1.drew) c1
   have d2:=hK.has (w:=w1.drew) c2
   have d3:=hK.has (w:=w1.drew) c3
   repeat' (refine aa8 ?_ ?_)
   all_goals first|exact trivial|gi_wp2_with (first|(gi_at_call 109;refine(ab4 _ V n (by omega)).mono ?_;rintro e w2 ⟨rfl,hw2⟩;have hw2:=hw2.symm;subst hw2)|(refine ab7 rfl rfl rfl ?_))
  intro u1 V hV _
  simp only[putS]
  gi_wp2_with (first|(gi_at_call 109;refine(ab4 _ V n (by omega)).mono ?_;rintro e w2 ⟨rfl,hw2⟩;have hw2:=hw2.symm;subst hw2)|(refine ab7 rfl rfl rfl ?_))
  go_ret
  exact⟨K1.drew.then hV,by simp⟩
 by_cases g6:128<(n:Int)
 ·refine aa9 (P:=Tryz.prog) No _ rfl rfl (by kernel_rfl) 47 168 [0,1,2,3,4,5,6,7,8,9,10,11,12,13,14,15,16,17,18,19,20,21,22,23,24,25,26,27,28,29,30,31,32,33,34,35,36,37,38,39,40,41,42,43,44,45,46] [] (by kernel_rfl) (by rfl) (fun _ _ _=>True) (fun _ _ _ _ _ h _=>h) _ _ rfl rfl ?_
  gi_wp2_with (first|(gi_at_call 109;refine(ab4 _ w1.drew n (by omega)).mono ?_;rintro e w2 ⟨rfl,hw2⟩;have hw2:=hw2.symm;subst hw2)|(refine ab7 rfl rfl rfl ?_))
  refine⟨rfl,by kernel_rfl,?_,(fun i hi=>absurd hi (by simp)),?_⟩
  ·intro V hK
   have d0:=hK.has (w:=w1.drew) c0
   have d1:=hK.has (w:=w1.drew) c1
   have d2:=hK.has (w:=w1.drew) c2
   have d3:=hK.has (w:=w1.drew) c3
   repeat' (refine aa8 ?_ ?_)
   all_goals first|exact trivial|gi_wp2_with (first|(gi_at_call 109;refine(ab4 _ V n (by omega)).mono ?_;rintro e w2 ⟨rfl,hw2⟩;have hw2:=hw2.symm;subst hw2)|(refine ab7 rfl rfl rfl ?_))
  intro u1 V hV _
  simp only[putS]
  gi_wp2_with (first|(gi_at_call 109;refine(ab4 _ V n (by omega)).mono ?_;rintro e w2 ⟨rfl,hw2⟩;have hw2:=hw2.symm;subst hw2)|(refine ab7 rfl rfl rfl ?_))
  go_ret
  exact⟨K1.drew.then hV,by simp⟩
 by_cases g7:r=false
 ·subst g7
  refine aa9 (P:=Tryz.prog) No _ rfl rfl (by kernel_rfl) 47 168 [0,1,2,3,4,5,6,7,8,9,10,11,12,13,14,15,16,17,18,19,20,21,22,23,24,25,26,27,28,29,30,31,32,33,34,35,36,37,38,39,40,41,42,43,44,45,46] [] (by kernel_rfl) (by rfl) (fun _ _ _=>True) (fun _ _ _ _ _ h _=>h) _ _ rfl rfl ?_
  gi_wp2_with (first|(gi_at_call 109;refine(ab4 _ w1.drew n (by omega)).mono ?_;rintro e w2 ⟨rfl,hw2⟩;have hw2:=hw2.symm;subst hw2)|(refine ab7 rfl rfl rfl ?_))
  refine⟨rfl,by kernel_rfl,?_,(fun i hi=>absurd hi (by simp)),?_⟩
  ·intro V hK
   have d0:=hK.has (w:=w1.drew) c0
   have d1:=hK.has (w:=w1.drew) c1
   have d2:=hK.has (w:=w1.drew) c2
   have d3:=hK.has (w:=w1.drew) c3
   repeat' (refine aa8 ?_ ?_)
   all_goals first|exact trivial|gi_wp2_with (first|(gi_at_call 109;refine(ab4 _ V n (by omega)).mono ?_;rintro e w2 ⟨rfl,hw2⟩;have hw2:=hw2.symm;subst hw2)|(refine ab7 rfl rfl rfl ?_))
  intro u1 V hV _
  simp only[putS]
  gi_wp2_with (first|(gi_at_call 109;refine(ab4 _ V n (by omega)).mono ?_;rintro e w2 ⟨rfl,hw2⟩;have hw2:=hw2.symm;subst hw2)|(refine ab7 rfl rfl rfl ?_))
  go_ret
  exact⟨K1.drew.then hV,by simp⟩
 obtain rfl:r=true:=by simpa using g7
 clear g7
 by_cases g8:swap<(nblk n:Int)
 ·refine aa9 (P:=Tryz.prog) No _ rfl rfl (by kernel_rfl) 47 168 [0,1,2,3,4,5,6,7,8,9,10,11,12,13,14,15,16,17,18,19,20,21,22,23,24,25,26,27,28,29,30,31,32,33,34,35,36,37,38,39,40,41,42,43,44,45,46] [] (by kernel_rfl) (by rfl) (fun _ _ _=>True) (fun _ _ _ _ _ h _=>h) _ _ rfl rfl ?_
  gi_wp2_with (first|(gi_at_call 109;refine(ab4 _ w1.drew n (by omega)).mono ?_;rintro e w2 ⟨rfl,hw2⟩;have hw2:=hw2.symm;subst hw2)|(refine ab7 rfl rfl rfl ?_))
  refine⟨rfl,by kernel_rfl,?_,(fun i hi=>absurd hi (by simp)),?_⟩
  ·intro V hK
   have d0:=hK.has (w:=w1.drew) c0
   have d1:=hK.has (w:=w1.drew) c1
   have d2:=hK.has (w:=w1.drew) c2
   have d3:=hK.has (w:=w1.drew) c3
   repeat' (refine aa8 ?_ ?_)
   all_goals first|exact trivial|gi_wp2_with (first|(gi_at_call 109;refine(ab4 _ V n (by omega)).mono ?_;rintro e w2 ⟨rfl,hw2⟩;have hw2:=hw2.symm;subst hw2)|(refine ab7 rfl rfl rfl ?_))
  intro u1 V hV _
  simp only[putS]
  gi_wp2_with (first|(gi_at_call 109;refine(ab4 _ V n (by omega)).mono ?_;rintro e w2 ⟨rfl,hw2⟩;have hw2:=hw2.symm;subst hw2)|(refine ab7 rfl rfl rfl ?_))
  go_ret
  exact⟨K1.drew.then hV,by simp⟩
 exact absurd hcase (by simp;omega)
end
end Go.Fxa
