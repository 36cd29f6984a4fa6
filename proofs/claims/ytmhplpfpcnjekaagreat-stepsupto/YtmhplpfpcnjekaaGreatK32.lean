/- The owner gets back what was lent. World.more. -/
import Derived.Test.YtmhplpfpcnjekaaGreatK31
namespace Go.Fxa
open Go.Conc
open Go.Proofs
open Go.RowKit
set_option maxRecDepth 1000000
theorem info23:(Tryz.prog.info? 23).map (fun i=>(i.zero,i.size,i.bytes))=some (some (.slice none 0 0),1,24):=by kernel_rfl
theorem nil_eq (w:World):(binOp .eql 22 (.slice none 0 0) (.slice none 0 0)).run Tryz.prog w=.ok (.bool true) w:=by kernel_rfl
theorem own_blk {b n c g:Nat} (h:(Value.slice (some ⟨b,0,none⟩) n c).ownBlock=some g):b=g:=by simpa [Value.ownBlock]using h
def AppI (i j:Nat) (w1:World) (v x:Value) (ty:TypeId) (n:Nat) (xs:List Value) (L:Nat→Bool) (u:Nat→Value) (W:World):Prop:=
 Keep (fun k=>v.ownBlock=some k) w1 W∧(L j=false→Keep No w1 W∧W.ownsRow 0 ty 1 v n xs)∧(L i=true→∃vb,u i=.slice (some ⟨vb,0,none⟩) 1 1∧(L j=false→W.heap[vb]?=some (.cells #[x] ty (0,0))))∧(L j=true→W.ownsRow 0 ty 1 (u j) (n+1) (xs++[x])∧∀g,(u j).ownBlock=some g→v.ownBlock=some g∨w1.heap.size≤g)
def FilI (w3:World) (xb xc:Nat) (mark:Int) (i:Value) (wr:World):Prop:=∃(j:Nat) (cs:Array Value),j≤2∧i=.int .i64 j∧Keep (fun k=>k=xb) w3 wr∧wr.heap[xb]?=some (.cells cs 22 (0,0))∧cs.size=xc∧∀q,q<j→∃yb,cs[q]?=some (.slice (some ⟨yb,0,none⟩) 1 1)∧w3.heap.size≤yb∧wr.cell? ⟨yb,0,none⟩=some (.int .i64 mark)
def backT (v9 v10:Value) (n4 n7 xb:Nat) (T1:Nat→Nat):Nat→Nat:=fun k=>if v9.ownBlock=some k then 7 else if v10.ownBlock=some k then 8 else if k<n4 then(if k=xb then 6 else T1 k)else if k<n7 then 6 else 0
theorem each_keep {T:Nat→Nat} {w w':World} {ls:List (Value×Int)} {S:Nat→Prop} (h:∀x∈ls,∃xb xc,x.1=.slice (some ⟨xb,0,none⟩) 2 xc∧T xb=6∧∀q,q<2→∃yb,w.cell? ⟨xb,q,none⟩=some (.slice (some ⟨yb,0,none⟩) 1 1)∧T yb=6∧w.cell? ⟨yb,0,none⟩=some (.int .i64 x.2)) (hK:Keep S w w') (hn:∀k,T k=6→¬S k):
  ∀x∈ls,∃xb xc,x.1=.slice (some ⟨xb,0,none⟩) 2 xc∧T xb=6∧∀q,q<2→∃yb,w'.cell? ⟨xb,q,none⟩=some (.slice (some ⟨yb,0,none⟩) 1 1)∧T yb=6∧w'.cell? ⟨yb,0,none⟩=some (.int .i64 x.2):=fun x hx=>by
 obtain⟨xb,xc,e,t,hq⟩:=h x hx
 refine⟨xb,xc,e,t,fun q hq'=>?_⟩
 obtain⟨yb,h1,h2,h3⟩:=hq q hq'
 exact⟨yb,(hK.cell (p:=⟨xb,q,none⟩) (World.block_lt_of_cell? _ _ h1) (hn xb t)).trans h1,h2,(hK.cell (p:=⟨yb,0,none⟩) (World.block_lt_of_cell? _ _ h3) (hn yb h2)).trans h3⟩
section
variable (m:Nat) (w:World)
set_option maxHeartbeats 16000000 in
theorem back_calls (T:Nat→Nat) (bk mm:Nat) (tl:Nat→Value) (ls:List (Value×Int)) (h:BookX T w bk tl mm ls) (core swap:Int) (n pb pc xb xc:Nat) (v:Value) (f:Nat→Int) (hs:SlI w v n f)
  (op:w.ownsRow 0 3 1 (.slice (some ⟨pb,0,none⟩) (n+3) pc) (n+3) ((List.range (n+3)).map fun i=>.int .i64 (lentF n f i))) (ox:w.ownsRow 0 22 1 (.slice (some ⟨xb,0,none⟩) 2 xc) 2 [.slice none 0 0,.slice none 0 0]) (tp:T pb=0) (tx:T xb=0) (hn:n≤9000000) (hmm:mm≤100000000) (hll:ls.length≤900):
  CallsIn NF m Tryz.prog 69 #[.pointer (some ⟨bk,0,none⟩),.agg #[.int .i64 core,.int .i64 swap,.slice (some ⟨pb,0,none⟩) n pc,.slice (some ⟨xb,0,none⟩) 0 xc,.slice (some ⟨pb,0,none⟩) (n+3) pc,.slice (some ⟨xb,0,none⟩) 2 xc,.slice none 0 0],.agg #[.int .i64 core,.int .i64 swap,v,.slice none 0 0]] w fun e w'=>e=.returned (.bool true)∧Keep (fun k=>(1≤T k∧T k≤8)∨k=pb∨k=xb) w w'∧∃T' tl' ls',BookX T' w' bk tl' (mm+2) ls'∧ls'.length=ls.length+1∧∀k,k<w.heap.size→T' k=if k=pb∨k=xb then 6 else T k:=by
 obtain⟨s,c,rfl⟩:=hs.form
 have hn0:∀k,w.heap.size≤k→T k=0:=by obtain⟨_,_,_,_,h3,_⟩:=h;exact h3
 have lp:pb<w.heap.size:=(op.lt pb rfl).2
 have lx:xb<w.heap.size:=(ox.lt xb rfl).2
 obtain⟨csx,hxo,hxs,hx0,hx1⟩:∃cs,w.heap[xb]?=some (.cells cs 22 (0,0))∧cs.size=xc∧w.cell? ⟨xb,0,none⟩=some (.slice none 0 0)∧w.cell? ⟨xb,1,none⟩=some (.slice none 0 0):=by
  have q0:=ox.cellAt 0 (by omega)
  have q1:=ox.cellAt 1 (by omega)
  rcases ox.2 with⟨e,_⟩|⟨g,cap,cur,e,_,hg,_,_,hc,_⟩
  ·cases e
  ·injection e with e1 _ e3
   injection e1 with e1
   injection e1 with e1
   subst e1 e3
   exact⟨cur,hg,by omega,q0,q1⟩
 have hxc:2≤xc:=by
  rcases ox.2 with⟨e,_⟩|⟨g,cap,cur,e,_,_,h2,_⟩
  ·cases e
  ·injection e with _ _ e3;omega
 have npx:pb≠xb:=fun e=>by
  rcases op.2 with⟨e',_⟩|⟨g,cap,cur,e',_,hg,_⟩
  ·cases e'
  ·injection e' with e1
   injection e1 with e1
   injection e1 with e1
   subst e1
   exact ac2 hg hxo (by decide) e
 have K1:Keep No w ((w.alloc (.cells #[.int .i64 core,.int .i64 swap,.slice (some ⟨pb,0,none⟩) n pc,.slice (some ⟨xb,0,none⟩) 0 xc,.slice (some ⟨pb,0,none⟩) (n+3) pc,.slice (some ⟨xb,0,none⟩) 2 xc,.slice none 0 0] 152)).alloc (.cells #[.int .i64 core,.int .i64 swap,.slice s n c,.slice none 0 0] 25)):=((Keep.refl No w).alloc _).alloc _
 have hX:((w.alloc (.cells #[.int .i64 core,.int .i64 swap,.slice (some ⟨pb,0,none⟩) n pc,.slice (some ⟨xb,0,none⟩) 0 xc,.slice (some ⟨pb,0,none⟩) (n+3) pc,.slice (some ⟨xb,0,none⟩) 2 xc,.slice none 0 0] 152)).alloc (.cells #[.int .i64 core,.int .i64 swap,.slice s n c,.slice none 0 0] 25)).heap[w.heap.size]?=some (.cells #[.int .i64 core,.int .i64 swap,.slice (some ⟨pb,0,none⟩) n pc,.slice (some ⟨xb,0,none⟩) 0 xc,.slice (some ⟨pb,0,none⟩) (n+3) pc,.slice (some ⟨xb,0,none⟩) 2 xc,.slice none 0 0] 152 (0,0)):=(ab5 (by simp)).trans (aa4 rfl)
 have hC:((w.alloc (.cells #[.int .i64 core,.int .i64 swap,.slice (some ⟨pb,0,none⟩) n pc,.slice (some ⟨xb,0,none⟩) 0 xc,.slice (some ⟨pb,0,none⟩) (n+3) pc,.slice (some ⟨xb,0,none⟩) 2 xc,.slice none 0 0] 152)).alloc (.cells #[.int .i64 core,.int .i64 swap,.slice s n c,.slice none 0 0] 25)).heap[w.heap.size+1]?=some (.cells #[.int .i64 core,.int .i64 swap,.slice s n c,.slice none 0 0] 25 (0,0)):=aa4 (by simp)
 have sz1:w.heap.size+1<((w.alloc (.cells #[.int .i64 core,.int .i64 swap,.slice (some ⟨pb,0,none⟩) n pc,.slice (some ⟨xb,0,none⟩) 0 xc,.slice (some ⟨pb,0,none⟩) (n+3) pc,.slice (some ⟨xb,0,none⟩) 2 xc,.slice none 0 0] 152)).alloc (.cells #[.int .i64 core,.int .i64 swap,.slice s n c,.slice none 0 0] 25)).heap.size:=ab2 hC
 gi_enter Tryz.func69,Tryz.ntmps69
 gi_upto_region 1 with fail
 generalize (w.alloc (.cells #[.int .i64 core,.int .i64 swap,.slice (some ⟨pb,0,none⟩) n pc,.slice (some ⟨xb,0,none⟩) 0 xc,.slice (some ⟨pb,0,none⟩) (n+3) pc,.slice (some ⟨xb,0,none⟩) 2 xc,.slice none 0 0] 152)).alloc (.cells #[.int .i64 core,.int .i64 swap,.slice s n c,.slice none 0 0] 25)=w1 at*
 generalize hX':w.heap.size+1=CB at*
 generalize hXB:w.heap.size=XB at*
 have x4:w1.cell? ⟨XB,4,none⟩=some (.slice (some ⟨pb,0,none⟩) (n+3) pc):=by rw[aa0 hX];rfl
 have x5:w1.cell? ⟨XB,5,none⟩=some (.slice (some ⟨xb,0,none⟩) 2 xc):=by rw[aa0 hX];rfl
 have y2:w1.cell? ⟨CB,2,none⟩=some (.slice s n c):=by rw[aa0 hC];rfl
 have y3:w1.cell? ⟨CB,3,none⟩=some (.slice none 0 0):=by rw[aa0 hC];rfl
 gi_wp2_with fail
 refine(same_calls _ w1 pb pc n _ f (fun i hi=>K1.has ((op.cellAt i (by omega)).trans (by simp[hi]))) (hs.keep K1)).mono ?_
 rintro e w2 ⟨rfl,hw2⟩
 have hw2:=hw2.symm
 subst hw2
 have z0:=K1.has hx0
 have z1:=K1.has hx1
 have hne:=nil_eq w1
 gi_wp2
 refine wpIn_loop_rounds 3 ?_
 rw[roundsIn_succ]
 gi_wp2
 rw[roundsIn_succ]
 gi_wp2
 rw[roundsIn_succ]
 gi_wp2_with fail
 have op1:=aa3 op K1 (fun _ _ x=>x)
 refine(al4 _ w1 T bk mm tl ls (h.keepNo K1) _ (n+3) _ op1 (fun g hg=>own_blk hg ▸ tp) (by omega) (by omega)).mono ?_
 rintro e w3 ⟨rfl,K3,T1,BX,hT1⟩
 have nS:∀k,T k=0→k≠pb→¬KeepS T (.slice (some ⟨pb,0,none⟩) (n+3) pc) k:=fun k hk hp e=>by
  rcases e with e|e
  ·omega
  ·exact hp (own_blk e).symm
 have hX3:=K3.old hX (nS XB (hn0 _ (by omega)) (by omega))
 have hx3:=K3.old (K1.old hxo id) (nS xb tx (fun e=>npx e.symm))
 have tx1:T1 xb=0:=by
  rw[hT1 xb (Nat.lt_of_lt_of_le (by omega) K1.size),show ad4 T (.slice (some ⟨pb,0,none⟩) (n+3) pc) 6 xb=T xb from if_neg (fun e=>npx (own_blk e))]
  exact tx
 have old1:∀k,k<XB→T1 k=if k=pb then 6 else T k:=fun k hk=>by
  rw[hT1 k (Nat.lt_of_lt_of_le (by omega) K1.size)]
  by_cases e:k=pb
  ·subst e;rw[if_pos rfl];exact if_pos rfl
  ·rw[if_neg e];exact if_neg fun e'=>e (own_blk e').symm
 obtain⟨es,fs,B,Ls,norm1,len1,ll1⟩:=BX
 obtain⟨b1,b2,b3,b4,hbk⟩:=B.cellOf
 generalize hm1:mm+1=m1 at*
 have x6:w3.cell? ⟨XB,6,none⟩=some (.slice none 0 0):=by rw[aa0 hX3];rfl
 have g0:w3.cell? ⟨bk,0,none⟩=some (.int .i64 m1):=by rw[aa0 hbk];rfl
 have f0:=ab3 hbk 0
 have nbx:xb≠bk:=ac2 hx3 hbk (by decide)
 have nbX:XB≠bk:=ac2 hX3 hbk (by decide)
 gi_wp2
 refine wpIn_loop_once ?_
 gi_upto_region 19 with fail
 have Bm:Book T1 (w3.setCell ⟨bk,0,none⟩ (.int .i64 ((m1:Int)+1))) bk tl (m1+1) es fs:=by
  have q:=B.setm
  rwa [Int.natCast_succ]at q
 have kS:Keep (Go.Fxa.At bk) w3 (w3.setCell ⟨bk,0,none⟩ (.int .i64 ((m1:Int)+1))):=Keep.set1 _
 have tb:=B.tag
 have Lm:=Ls.keep kS (fun k h6 h8 e=>by have e:k=bk:=e;subst e;omega) (fun _ _ _ _=>rfl)
 have hX4:=kS.old hX3 nbX
 have hx4:=kS.old hx3 nbx
 have tbk:T bk=1:=by obtain⟨_,_,hB,_⟩:=h;exact hB.tag
 have K4:Keep (fun k=>(1≤T k∧T k≤8)∨k=pb∨k=xb) w (w3.setCell ⟨bk,0,none⟩ (.int .i64 ((m1:Int)+1))):=(K1.no.trans K3 (fun k hk e=>by
  rcases e with e|e
  ·exact .inl ⟨e.1,by omega⟩
  ·exact .inr (.inl (own_blk e).symm))).trans kS (fun k hk e=>by
   have e:k=bk:=e
   subst e
   exact .inl (by omega))
 have szs:=kS.size
 obtain⟨c1,c2,c3,c4,hbk4⟩:=Bm.cellOf
 rw[Int.natCast_succ]at hbk4
 have lx3:xb<w3.heap.size:=ab2 hx3
 have sz4:(w3.setCell ⟨bk,0,none⟩ (.int .i64 ((m1:Int)+1))).heap.size=w3.heap.size:=by simp
 have hmk0:1≤((m1:Int)+1):=by omega
 have hmk1:((m1:Int)+1)≤200000002:=by omega
 generalize hmk:((m1:Int)+1)=mk at*
 clear x6 g0 f0 hX3 hx3 hbk B Ls kS K3 K1 x4 x5 y2 y3 z0 z1 hne hX hC op1 hxo hx0 hx1 hs op ox
 generalize w3.setCell ⟨bk,0,none⟩ (.int .i64 mk)=w4 at*
 rw[←sz4]at norm1 lx3
 have nXx:XB≠xb:=by omega
 gi_wp2
 gi_loopw [12] (FilI w4 xb xc (-mk)) (fun i _=>2-(intOf i).toNat)
 case atStart=>exact⟨0,csx,by omega,rfl,Keep.refl _ _,hx4,hxs,fun q hq=>absurd hq (by omega)⟩
 case round=>
 obtain⟨j,cs,hj,rfl,hK,hxr,hcs,hq⟩:=hrel
 have hXr:=hK.old hX4 nXx
 have hbr:=hK.old hbk4 (fun e=>nbx e.symm)
 have X5:wr.cell? ⟨XB,5,none⟩=some (.slice (some ⟨xb,0,none⟩) 2 xc):=by rw[aa0 hXr];rfl
 have B0:wr.cell? ⟨bk,0,none⟩=some (.int .i64 mk):=by rw[aa0 hbr];rfl
 by_cases hlt:j<2
 ·have hlt':(j:Int)<2:=by omega
  gi_wp2
  refine aa9 (P:=Tryz.prog) No _ rfl rfl (by kernel_rfl) 9 167 [0,1,2,3,4,5,6,7] [8] (by kernel_rfl) (by rfl) (fun _ v W=>∃yb,v=.slice (some ⟨yb,0,none⟩) 1 1∧wr.heap.size≤yb∧W.heap[yb]?=some (.cells #[.int .i64 (-mk)] 3 (0,0)))
   (fun _ _ _ _ _ h hK=>let ⟨yb,q1,q2,q3⟩:=h;⟨yb,q1,q2,hK.old q3 id⟩) _ _ rfl rfl ?_
  gi_wp2
  refine⟨rfl,by kernel_rfl,?_,?_,?_⟩
  ·intro V hV
   have p1:=hV.has (w:=wr.drew) X5
   have p2:=hV.has (w:=wr.drew) B0
   repeat' (refine aa8 ?_ ?_)
   all_goals first|exact trivial|gi_wp2
  ·intro i hi u W hV hu
   obtain rfl:i=8:=by simpa using hi
   refine ac4 rfl fun KK hKK=>?_
   show wpListIn NF m Tryz.prog _ _ _ (Act.put _ (some 139) (u 8)) _
   gi_wp2
   exact⟨.slice (some ⟨W.heap.size,0,none⟩) 1 1,by kernel_rfl,(Keep.refl _ _).alloc _,W.heap.size,rfl,hV.size,aa4 rfl⟩
  intro u W hV hu
  obtain⟨yb,e8,ly,hy⟩:=hu 8 (by simp)
  show wpListIn NF m Tryz.prog _ _ _ (Act.put _ (some 139) (u 8)) _
  rw[e8]
  have hxW:=hV.old (heap_drew.trans hxr) id
  have cW:W.cell? ⟨xb,j,none⟩=some cs[j]:=(aa0 hxW j).trans (get_at (by omega))
  have fW:=ab3 hxW j
  have nyx:yb≠xb:=ac2 hy hxW (by decide)
  gi_wp2
  go_roundw
  case rel=>
   have kX:Keep (Go.Fxa.At xb) W (W.setCell ⟨xb,j,none⟩ (.slice (some ⟨yb,0,none⟩) 1 1)):=Keep.set1 _
   refine⟨j+1,cs.setIfInBounds j (.slice (some ⟨yb,0,none⟩) 1 1),by omega,by go_num,(hK.drew.then hV.no).trans kX (fun k hk e=>e),aa2 hxW _,by simpa using hcs,fun q hq'=>?_⟩
   by_cases e:q=j
   ·subst e
    exact⟨yb,aj6 (get_at (by omega)),Nat.le_trans hK.size ly,(aa0 (kX.old hy nyx) 0).trans rfl⟩
   ·obtain⟨yb',a1,a2,a3⟩:=hq q (by omega)
    have lt':yb'<wr.heap.size:=World.block_lt_of_cell? _ _ a3
    refine⟨yb',(ac0 (fun e'=>e e'.symm)).trans a1,a2,?_⟩
    have a4:W.cell? ⟨yb',0,none⟩=some (.int .i64 (-mk)):=hV.has (w:=wr.drew) a3
    exact(kX.cell (p:=⟨yb',0,none⟩) (World.block_lt_of_cell? _ _ a4) (fun e'=>by have e':yb'=xb:=e';omega)).trans a4
  case measure=>simp[intOf];omega
 obtain rfl:j=2:=by omega
 obtain⟨ya,ha1,ha2,ha3⟩:=hq 0 (by omega)
 obtain⟨yz,hz1,hz2,hz3⟩:=hq 1 (by omega)
 have B5:=Bm.keep (T':=T1) hK (fun k hk e=>by have e:k=xb:=e;subst e;have:=hk.1;omega) (fun _ _ _=>rfl)
 have L5:=Lm.keep (T':=T1) hK (fun k h6 h8 e=>by have e:k=xb:=e;subst e;omega) (fun _ _ _ _=>rfl)
 obtain⟨a9,d9,hv9⟩:=ac1 L5.o9
 obtain⟨a10,d10,hv10⟩:=ac1 L5.o10
 have t9:=L5.t9
 have t10:=L5.t10
 have o9:=L5.o9
 have o10:=L5.o10
 rw[hv9]at t9 o9
 rw[hv10]at t10 o10
 have K5:Keep (fun k=>(1≤T k∧T k≤8)∨k=pb∨k=xb) w wr:=K4.trans hK (fun k hk e=>.inr (.inr e))
 obtain⟨e1,e2,e3,e4,hbk5⟩:=B5.cellOf
 rw[Int.natCast_succ,hmk,hv9,hv10]at hbk5
 have C9:wr.cell? ⟨bk,9,none⟩=some (.slice a9 ls.length d9):=by rw[aa0 hbk5];rfl
 obtain⟨i23,hi23,hi230,hi231,hi232⟩:=info_parts info23
 obtain⟨i3,hi3,hi30,hi31,hi32⟩:=info_parts info3
 gi_upto_region 23 with fail
 have sz5:w4.heap.size≤wr.heap.size:=hK.size
 have fr9:∀g,(Value.slice a9 ls.length d9).ownBlock=some g→g<wr.heap.size:=fun g hg=>(o9.lt g hg).2
 refine ag5 (P:=Tryz.prog) _ rfl rfl (by kernel_rfl) 9 167 [0,1,2,3,4,5,6] [7,8] (by kernel_rfl) (by rfl)
  (AppI 7 8 wr.drew (.slice a9 ls.length d9) (.slice (some ⟨xb,0,none⟩) 2 xc) 23 ls.length (ls.map (·.1))) (fun L L' u u' W hh hI=>by
   have h11:=hh 7 (by simp)
   have h12:=hh 8 (by simp)
   unfold AppI at hI ⊢
   rw[←h11.1,←h11.2,←h12.1,←h12.2]
   exact hI) _ _ rfl rfl ?_
 gi_wp2
 refine⟨rfl,by kernel_rfl,?_,?_,?_,?_⟩
 ·intro u
  exact⟨Keep.refl _ _,fun _=>⟨Keep.refl _ _,o9⟩,fun hx=>absurd hx (by decide),fun hx=>absurd hx (by decide)⟩
 ·intro L u W hI
  have nb9:∀x,T1 x≠7→¬(Value.slice a9 ls.length d9).ownBlock=some x:=fun x hx e=>hx (t9 x e)
  have p1:=(hI.1.cell (w:=wr.drew) (p:=⟨XB,5,none⟩) (ab2 hXr) (ad7 o9 hXr (by decide))).trans X5
  have p2:=(hI.1.cell (w:=wr.drew) (p:=⟨bk,9,none⟩) (ab2 hbk5) (ad7 o9 hbk5 (by decide))).trans C9
  repeat' (refine aa8 ?_ ?_)
  all_goals first|exact trivial|gi_wp2
 ·intro i hi L u W hI hLi hu
  obtain⟨hI1,hI2,hI3,hI4⟩:=hI
  rcases(by simpa using hi:i=7∨i=8)with rfl|rfl
  ·refine ac4 rfl fun KK hKK=>?_
   show wpListIn NF m Tryz.prog _ _ _ (Act.put (Act.put _ (some 148) (u 7)) (some 149) (u 8)) _
   gi_wp2
   have Ka:Keep No W (W.alloc (.cells #[.slice (some ⟨xb,0,none⟩) 2 xc] 23)):=(Keep.refl _ _).alloc _
   exact⟨.slice (some ⟨W.heap.size,0,none⟩) 1 1,by kernel_rfl,hI1.then Ka.no,fun hx=>⟨(hI2 hx).1.then Ka,aa3 (hI2 hx).2 Ka (fun _ _ x=>x)⟩,fun _=>⟨_,rfl,fun _=>aa4 rfl⟩,fun hx=>⟨aa3 (hI4 hx).1 Ka (fun _ _ x=>x),(hI4 hx).2⟩⟩
  ·obtain⟨vb,hv1,hv2⟩:=hI3 (hu 7 (by simp) (by decide))
   have hv2:=hv2 hLi
   obtain⟨KN,t2⟩:=hI2 hLi
   show wpOpIn NF m Tryz.prog _ _ _ (fun a' W'=>∃v,a'=Act.put (Act.put (Act.put _ (some 148) (u 7)) (some 149) (u 8)) (some 149) v∧_) (Act.put (Act.put _ (some 148) (u 7)) (some 149) (u 8)) _
   rw[hv1]
   refine ac4 rfl fun KK hKK=>?_
   have hsrc:∀q u,([.slice (some ⟨xb,0,none⟩) 2 xc]:List Value)[q]?=some u→W.cell? ((⟨vb,0,none⟩:Addr).add q)=some u:=fun q u hq=>by
    match q,hq with
    | 0,hq=>
     rw[Addr.add_lit]
     refine(aa0 hv2 0).trans ?_
     simpa using hq
   refine ac3 W rfl (.tmp 145) (.tmp 148) 73 rfl 0 23 i23 (.slice none 0 0) 1 24 Tryz.underlying73 hi23 hi230 hi231 hi232 rfl (by decide) (.slice a9 ls.length d9) ls.length (ls.map (·.1)) rfl t2 ⟨vb,0,none⟩ 1 1 [.slice (some ⟨xb,0,none⟩) 2 xc] rfl (by simp) hsrc (by simp[Value.oneCell']) (by unfold maxLen;omega) (by omega) (Nat.zero_le _) (by omega) ?_
   intro v' w4' hown hgrow hwent
   refine⟨rfl,hKK _ _ ⟨v',rfl,?_⟩⟩
   refine⟨KN.no.then hgrow,fun hx=>absurd hx (by simp[did1]),fun _=>⟨vb,by rw[←hv1];rfl,fun hx=>absurd hx (by simp[did1])⟩,fun _=>⟨hown,fun g hg=>?_⟩⟩
   rcases hwent with e|⟨e,_⟩
   ·exact .inl (e ▸ hg)
   ·have hg:v'.ownBlock=some g:=hg
    rw[hg]at e
    cases e
    exact .inr KN.size
 intro L u WP hI hL
 obtain⟨hI1,hI2,hI3,hI4⟩:=hI
 obtain⟨oP,ltP⟩:=hI4 (hL 8 (by simp))
 obtain⟨vbP,hvP,_⟩:=hI3 (hL 7 (by simp))
 show wpListIn NF m Tryz.prog _ _ _ (Act.put (Act.put _ (some 148) (u 7)) (some 149) (u 8)) _
 generalize u 8=nvP at*
 rw[hvP]
 have kP:Keep (fun k=>(Value.slice a9 ls.length d9).ownBlock=some k) wr WP:=(Keep.refl _ wr).drew.then hI1
 clear hI1 hI2 hI3 hI4 hL hvP
 obtain⟨naP,ncP,hnvP⟩:=ac1 oP
 subst hnvP
 have nP:∀x,T1 x≠7→¬(Value.slice a9 ls.length d9).ownBlock=some x:=fun x hx e=>hx (t9 x e)
 have BP:=B5.keep (T':=T1) kP (fun k hk e=>by have:=t9 k e;have:=hk.2;omega) (fun _ _ _=>rfl)
 have hbP:=kP.old hbk5 (ad7 o9 hbk5 (by decide))
 have hXP:=kP.old hXr (ad7 o9 hXr (by decide))
 have hxP:=kP.old hxr (ad7 o9 hxr (by decide))
 have o10P:=aa3 o10 kP (fun g hg e=>by have:=t10 g hg;have:=t9 g e;omega)
 have eP:=each_keep L5.each kP (fun k hk e=>by have:=t9 k e;omega)
 have ly0:ya<wr.heap.size:=World.block_lt_of_cell? _ _ ha3
 have lz0:yz<wr.heap.size:=World.block_lt_of_cell? _ _ hz3
 have ty0:T1 ya=0:=norm1 ya ha2
 have tz0:T1 yz=0:=norm1 yz hz2
 have yaP:=(kP.cell (p:=⟨ya,0,none⟩) ly0 (nP ya (by omega))).trans ha3
 have yzP:=(kP.cell (p:=⟨yz,0,none⟩) lz0 (nP yz (by omega))).trans hz3
 have c9P:WP.cell? ⟨bk,9,none⟩=some (.slice a9 ls.length d9):=by rw[aa0 hbP];rfl
 have f9P:=ab3 hbP 9
 gi_upto_region 24 with fail
 have kB:Keep (Go.Fxa.At bk) WP (WP.setCell ⟨bk,9,none⟩ (.slice naP (ls.length+1) ncP)):=Keep.set1 _
 have B6:=BP.set9 (.slice naP (ls.length+1) ncP)
 have tb1:T1 bk=1:=tb
 have hX6:=kB.old hXP nbX
 have hx6:=kB.old hxP nbx
 have o10Q:=aa3 o10P kB (fun g hg e=>by have e:g=bk:=e;have:=t10 g hg;subst e;omega)
 have oP6:=aa3 oP kB (fun g hg e=>by have e:g=bk:=e;subst e;exact ad7 oP hbP (by decide) hg)
 have e6:=each_keep eP kB (fun k hk e=>by have e:k=bk:=e;subst e;omega)
 have ya6:=(kB.cell (p:=⟨ya,0,none⟩) (World.block_lt_of_cell? _ _ yaP) (fun e=>by have e:ya=bk:=e;subst e;omega)).trans yaP
 have yz6:=(kB.cell (p:=⟨yz,0,none⟩) (World.block_lt_of_cell? _ _ yzP) (fun e=>by have e:yz=bk:=e;subst e;omega)).trans yzP
 have K6:Keep (fun k=>(1≤T k∧T k≤8)∨k=pb∨k=xb) w (WP.setCell ⟨bk,9,none⟩ (.slice naP (ls.length+1) ncP)):=(K5.trans kP (fun k hk e=>by
  have q:=t9 k e
  rw[old1 k (by omega)]at q
  by_cases e':k=pb
  ·exact .inr (.inl e')
  ·rw[if_neg e']at q
   exact .inl (by omega))).trans kB (fun k hk e=>by
   have e:k=bk:=e
   subst e
   exact .inl (by omega))
 obtain⟨s1,s2,s3,s4,hbk6⟩:=B6.cellOf
 have et10:tlSet tl 9 (.slice naP (ls.length+1) ncP) 10=tl 10:=rfl
 rw[Int.natCast_succ,hmk,et10,hv10]at hbk6
 have szP:=kP.size
 have szB:=kB.size
 have ltP6:∀g,(Value.slice naP (ls.length+1) ncP).ownBlock=some g→T1 g=7∨wr.heap.size≤g:=fun g hg=>(ltP g hg).elim (fun e=>.inl (t9 g e)) .inr
 clear hbP hXP hxP o10P eP yaP yzP c9P f9P kB kP BP oP ltP
 generalize WP.setCell ⟨bk,9,none⟩ (.slice naP (ls.length+1) ncP)=w6 at*
 have C10:w6.cell? ⟨bk,10,none⟩=some (.slice a10 ls.length d10):=by rw[aa0 hbk6];rfl
 have C0:w6.cell? ⟨bk,0,none⟩=some (.int .i64 mk):=by rw[aa0 hbk6];rfl
 refine ag5 (P:=Tryz.prog) _ rfl rfl (by kernel_rfl) 12 167 [0,1,2,3,4,5,6,7,8,9] [10,11] (by kernel_rfl) (by rfl)
  (AppI 10 11 w6.drew (.slice a10 ls.length d10) (.int .i64 (-mk)) 3 ls.length (ls.map fun x=>.int .i64 x.2)) (fun L L' u u' W hh hI=>by
   have h11:=hh 10 (by simp)
   have h12:=hh 11 (by simp)
   unfold AppI at hI ⊢
   rw[←h11.1,←h11.2,←h12.1,←h12.2]
   exact hI) _ _ rfl rfl ?_
 gi_wp2
 refine⟨rfl,by kernel_rfl,?_,?_,?_,?_⟩
 ·intro u
  exact⟨Keep.refl _ _,fun _=>⟨Keep.refl _ _,o10Q⟩,fun hx=>absurd hx (by decide),fun hx=>absurd hx (by decide)⟩
 ·intro L u W hI
  have p1:=(hI.1.cell (w:=w6.drew) (p:=⟨bk,10,none⟩) (ab2 hbk6) (ad7 o10Q hbk6 (by decide))).trans C10
  have p2:=(hI.1.cell (w:=w6.drew) (p:=⟨bk,0,none⟩) (ab2 hbk6) (ad7 o10Q hbk6 (by decide))).trans C0
  repeat' (refine aa8 ?_ ?_)
  all_goals first|exact trivial|gi_wp2
 ·intro i hi L u W hI hLi hu
  obtain⟨hI1,hI2,hI3,hI4⟩:=hI
  rcases(by simpa using hi:i=10∨i=11)with rfl|rfl
  ·refine ac4 rfl fun KK hKK=>?_
   show wpListIn NF m Tryz.prog _ _ _ (Act.put (Act.put _ (some 162) (u 10)) (some 163) (u 11)) _
   gi_wp2
   have Ka:Keep No W (W.alloc (.cells #[.int .i64 (-mk)] 3)):=(Keep.refl _ _).alloc _
   exact⟨.slice (some ⟨W.heap.size,0,none⟩) 1 1,by kernel_rfl,hI1.then Ka.no,fun hx=>⟨(hI2 hx).1.then Ka,aa3 (hI2 hx).2 Ka (fun _ _ x=>x)⟩,fun _=>⟨_,rfl,fun _=>aa4 rfl⟩,fun hx=>⟨aa3 (hI4 hx).1 Ka (fun _ _ x=>x),(hI4 hx).2⟩⟩
  ·obtain⟨vb,hv1,hv2⟩:=hI3 (hu 10 (by simp) (by decide))
   have hv2:=hv2 hLi
   obtain⟨KN,t2⟩:=hI2 hLi
   show wpOpIn NF m Tryz.prog _ _ _ (fun a' W'=>∃v,a'=Act.put (Act.put (Act.put _ (some 162) (u 10)) (some 163) (u 11)) (some 163) v∧_) (Act.put (Act.put _ (some 162) (u 10)) (some 163) (u 11)) _
   rw[hv1]
   refine ac4 rfl fun KK hKK=>?_
   have hsrc:∀q u,([.int .i64 (-mk)]:List Value)[q]?=some u→W.cell? ((⟨vb,0,none⟩:Addr).add q)=some u:=fun q u hq=>by
    match q,hq with
    | 0,hq=>
     rw[Addr.add_lit]
     refine(aa0 hv2 0).trans ?_
     simpa using hq
   refine ac3 W rfl (.tmp 156) (.tmp 162) 22 rfl 0 3 i3 (.int .i64 0) 1 8 Tryz.underlying22 hi3 hi30 hi31 hi32 rfl (by decide) (.slice a10 ls.length d10) ls.length (ls.map fun x=>.int .i64 x.2) rfl t2 ⟨vb,0,none⟩ 1 1 [.int .i64 (-mk)] rfl (by simp) hsrc (by simp[Value.oneCell']) (by unfold maxLen;omega) (by omega) (Nat.zero_le _) (by omega) ?_
   intro v' w4' hown hgrow hwent
   refine⟨rfl,hKK _ _ ⟨v',rfl,?_⟩⟩
   refine⟨KN.no.then hgrow,fun hx=>absurd hx (by simp[did1]),fun _=>⟨vb,by rw[←hv1];rfl,fun hx=>absurd hx (by simp[did1])⟩,fun _=>⟨hown,fun g hg=>?_⟩⟩
   rcases hwent with e|⟨e,_⟩
   ·exact .inl (e ▸ hg)
   ·have hg:v'.ownBlock=some g:=hg
    rw[hg]at e
    cases e
    exact .inr KN.size
 intro L u WQ hI hL
 obtain⟨hI1,hI2,hI3,hI4⟩:=hI
 obtain⟨oQ,ltQ⟩:=hI4 (hL 11 (by simp))
 obtain⟨vbQ,hvQ,_⟩:=hI3 (hL 10 (by simp))
 show wpListIn NF m Tryz.prog _ _ _ (Act.put (Act.put _ (some 162) (u 10)) (some 163) (u 11)) _
 generalize u 11=nvQ at*
 rw[hvQ]
 have kQ:Keep (fun k=>(Value.slice a10 ls.length d10).ownBlock=some k) w6 WQ:=(Keep.refl _ w6).drew.then hI1
 clear hI1 hI2 hI3 hI4 hL hvQ
 obtain⟨naQ,ncQ,hnvQ⟩:=ac1 oQ
 subst hnvQ
 have nQ:∀x,T1 x≠8→¬(Value.slice a10 ls.length d10).ownBlock=some x:=fun x hx e=>hx (t10 x e)
 have BQ:=B6.keep (T':=T1) kQ (fun k hk e=>by have:=t10 k e;have:=hk.2;omega) (fun _ _ _=>rfl)
 have hbQ:=kQ.old hbk6 (ad7 o10Q hbk6 (by decide))
 have hxQ:=kQ.old hx6 (ad7 o10Q hx6 (by decide))
 have o9Q:=aa3 oP6 kQ (fun g hg e=>by
  have h8:=t10 g e
  rcases ltP6 g hg with q|q
  ·omega
  ·have:=norm1 g (by omega);omega)
 have eQ:=each_keep e6 kQ (fun k hk e=>by have:=t10 k e;omega)
 have yaQ:=(kQ.cell (p:=⟨ya,0,none⟩) (World.block_lt_of_cell? _ _ ya6) (nQ ya (by omega))).trans ya6
 have yzQ:=(kQ.cell (p:=⟨yz,0,none⟩) (World.block_lt_of_cell? _ _ yz6) (nQ yz (by omega))).trans yz6
 have c10Q:WQ.cell? ⟨bk,10,none⟩=some (.slice a10 ls.length d10):=by rw[aa0 hbQ];rfl
 have f10Q:=ab3 hbQ 10
 gi_wp2
 go_ret
 have kB:Keep (Go.Fxa.At bk) WQ (WQ.setCell ⟨bk,10,none⟩ (.slice naQ (ls.length+1) ncQ)):=Keep.set1 _
 have B7:=BQ.set10 (.slice naQ (ls.length+1) ncQ)
 have hx7:=kB.old hxQ nbx
 have o97:=aa3 o9Q kB (fun g hg e=>by have e:g=bk:=e;subst e;exact ad7 o9Q hbQ (by decide) hg)
 have o107:=aa3 oQ kB (fun g hg e=>by have e:g=bk:=e;subst e;exact ad7 oQ hbQ (by decide) hg)
 have e7:=each_keep eQ kB (fun k hk e=>by have e:k=bk:=e;subst e;omega)
 have ya7:=(kB.cell (p:=⟨ya,0,none⟩) (World.block_lt_of_cell? _ _ yaQ) (fun e=>by have e:ya=bk:=e;subst e;omega)).trans yaQ
 have yz7:=(kB.cell (p:=⟨yz,0,none⟩) (World.block_lt_of_cell? _ _ yzQ) (fun e=>by have e:yz=bk:=e;subst e;omega)).trans yzQ
 have K7:Keep (fun k=>(1≤T k∧T k≤8)∨k=pb∨k=xb) w (WQ.setCell ⟨bk,10,none⟩ (.slice naQ (ls.length+1) ncQ)):=(K6.trans kQ (fun k hk e=>by
  have q:=t10 k e
  rw[old1 k (by omega)]at q
  by_cases e':k=pb
  ·exact .inr (.inl e')
  ·rw[if_neg e']at q
   exact .inl (by omega))).trans kB (fun k hk e=>by
   have e:k=bk:=e
   subst e
   exact .inl (by omega))
 have ltQ6:∀g,(Value.slice naQ (ls.length+1) ncQ).ownBlock=some g→T1 g=8∨w6.heap.size≤g:=fun g hg=>(ltQ g hg).elim (fun e=>.inl (t10 g e)) .inr
 have szQ:=kQ.size
 have szB':=kB.size
 have cx7:(WQ.setCell ⟨bk,10,none⟩ (.slice naQ (ls.length+1) ncQ)).cell? ⟨xb,0,none⟩=some (.slice (some ⟨ya,0,none⟩) 1 1):=(aa0 hx7 0).trans ha1
 have cx8:(WQ.setCell ⟨bk,10,none⟩ (.slice naQ (ls.length+1) ncQ)).cell? ⟨xb,1,none⟩=some (.slice (some ⟨yz,0,none⟩) 1 1):=(aa0 hx7 1).trans hz1
 have K4s:=K4.size
 clear kB kQ BQ hbQ hxQ o9Q eQ yaQ yzQ c10Q f10Q oQ ltQ B6 hbk6 hx6 o10Q oP6 e6 ya6 yz6 K6 K5 K4
 generalize WQ.setCell ⟨bk,10,none⟩ (.slice naQ (ls.length+1) ncQ)=w7 at*
 generalize (Value.slice naP (ls.length+1) ncP)=v9 at*
 generalize (Value.slice naQ (ls.length+1) ncQ)=v10 at*
 have q9:∀k,k<wr.heap.size→T1 k≠7→¬v9.ownBlock=some k:=fun k hk h7 e=>(ltP6 k e).elim h7 (by omega)
 have q10:∀k,k<w6.heap.size→T1 k≠8→¬v10.ownBlock=some k:=fun k hk h8 e=>(ltQ6 k e).elim h8 (by omega)
 have tOld:∀k,k<w4.heap.size→k≠xb→backT v9 v10 w4.heap.size w7.heap.size xb T1 k=T1 k:=fun k hk hx=>by
  unfold backT
  by_cases h9:v9.ownBlock=some k
  ·rw[if_pos h9]
   exact((ltP6 k h9).elim (fun e=>e.symm) (fun e=>by omega))
  ·rw[if_neg h9]
   by_cases h10:v10.ownBlock=some k
   ·rw[if_pos h10]
    exact((ltQ6 k h10).elim (fun e=>e.symm) (fun e=>by omega))
   ·rw[if_neg h10,if_pos hk,if_neg hx]
 have tB:∀k,T1 k≠0→backT v9 v10 w4.heap.size w7.heap.size xb T1 k=T1 k:=fun k h0=>by
  refine tOld k ?_ (fun e=>h0 (e ▸ tx1))
  exact Nat.lt_of_not_le fun hle=>h0 (norm1 k hle)
 have tX:backT v9 v10 w4.heap.size w7.heap.size xb T1 xb=6:=by
  unfold backT
  rw[if_neg (ad7 o97 hx7 (by decide)),if_neg (ad7 o107 hx7 (by decide)),if_pos lx3,if_pos rfl]
 have tY:∀y,w4.heap.size≤y→y<wr.heap.size→backT v9 v10 w4.heap.size w7.heap.size xb T1 y=6:=fun y h4 hr=>by
  have h0:=norm1 y h4
  unfold backT
  rw[if_neg (q9 y hr (by omega)),if_neg (q10 y (by omega) (by omega)),if_neg (by omega),if_pos (by omega)]
 refine⟨by simp,K7,backT v9 v10 w4.heap.size w7.heap.size xb T1,tlSet (tlSet tl 9 v9) 10 v10,ls++[(.slice (some ⟨xb,0,none⟩) 2 xc,-mk)],⟨es,fs,?_,?_,?_,by omega,by simp;omega⟩,by simp,fun k hk=>?_⟩
 ·have q:=B7.keep (T':=backT v9 v10 w4.heap.size w7.heap.size xb T1) (Keep.refl No _) (fun _ _ x=>x) (fun k _ hb=>tB k (by have:=hb.1;omega))
  rw[show mm+2=m1+1 by omega]
  exact q
 ·refine⟨L5.n5,L5.n7,?_,?_,fun g hg=>if_pos hg,fun g hg=>?_,fun x hx=>?_⟩
  ·show w7.ownsRow 0 23 1 v9 _ _
   simpa using o97
  ·show w7.ownsRow 0 3 1 v10 _ _
   simpa using o107
  ·have hg:v10.ownBlock=some g:=hg
   have hgn:¬v9.ownBlock=some g:=by
    rcases o107.2 with⟨rfl,_⟩|⟨g',cap,cur,rfl,_,hgg,_⟩
    ·cases hg
    ·obtain rfl:=own_blk hg
     exact ad7 o97 hgg (by decide)
   unfold backT
   rw[if_neg hgn,if_pos hg]
  ·rcases List.mem_append.mp hx with hx|hx
   ·obtain⟨xb0,xc0,q1,q2,q3⟩:=e7 x hx
    refine⟨xb0,xc0,q1,(tB xb0 (by omega)).trans q2,fun q hq'=>?_⟩
    obtain⟨yb0,p1,p2,p3⟩:=q3 q hq'
    exact⟨yb0,p1,(tB yb0 (by omega)).trans p2,p3⟩
   ·obtain rfl:x=(.slice (some ⟨xb,0,none⟩) 2 xc,-mk):=by simpa using hx
    refine⟨xb,xc,rfl,tX,fun q hq'=>?_⟩
    rcases(by omega:q=0∨q=1)with rfl|rfl
    ·exact⟨ya,cx7,tY ya ha2 ly0,ya7⟩
    ·exact⟨yz,cx8,tY yz hz2 lz0,yz7⟩
 ·intro k hk
  have l9:¬v9.ownBlock=some k:=fun e=>by have:=(o97.lt k e).2;omega
  have l10:¬v10.ownBlock=some k:=fun e=>by have:=(o107.lt k e).2;omega
  unfold backT
  rw[if_neg l9,if_neg l10,if_neg (by omega),if_neg (by omega)]
 ·by_cases ex:k=xb
  ·rw[if_pos (.inr ex),ex]
   exact tX
  ·rw[tOld k (by omega) ex,old1 k (by omega)]
   by_cases ep:k=pb
   ·rw[if_pos ep,if_pos (.inl ep)]
   ·rw[if_neg ep,if_neg (fun e=>e.elim ep ex)]
end
theorem info83:(Tryz.prog.info? 83).map (fun i=>(i.zero,i.size,i.bytes))=some (some (.agg #[.pointer none,.pointer none]),2,16):=by kernel_rfl
section
variable (m:Nat) (w:World)
set_option maxHeartbeats 16000000 in
theorem more_no (T:Nat→Nat) (wb bk mm:Nat) (tl:Nat→Value) (ls:List (Value×Int)) (ps:Value) (h:BookX T w bk tl mm ls) (hw:w.heap[wb]?=some (.cells #[.pointer (some ⟨bk,0,none⟩),ps] 78 (0,0))) (core swap:Int) (n:Nat) (v:Value) (f:Nat→Int) (hs:SlI w v n f) (h0:n=0→v=.slice none 0 0) (hn:n≤9000000) (hmm:mm≤90000000) (hll:ls.length≤900) (hno:¬MayBe core swap n f):
  CallsIn NF m Tryz.prog 30 #[.pointer (some ⟨wb,0,none⟩),.agg #[.int .i64 core,.int .i64 swap,v,.slice none 0 0]] w fun e w'=>e=.returned (.bool true)∧Keep (fun k=>1≤T k∧T k≤8) w w'∧∃T' tl' ls',BookX T' w' bk tl' (mm+2) ls'∧ls'.length=ls.length+1∧∀k,k<w.heap.size→T' k=T k:=by
 obtain⟨s,c,rfl⟩:=hs.form
 have hn0:∀k,w.heap.size≤k→T k=0:=by obtain⟨_,_,_,_,h3,_⟩:=h;exact h3
 have lw:wb<w.heap.size:=ab2 hw
 have K1:Keep No w (w.alloc (.cells #[.int .i64 core,.int .i64 swap,.slice s n c,.slice none 0 0] 25)):=(Keep.refl _ _).alloc _
 have hX:(w.alloc (.cells #[.int .i64 core,.int .i64 swap,.slice s n c,.slice none 0 0] 25)).heap[w.heap.size]?=some (.cells #[.int .i64 core,.int .i64 swap,.slice s n c,.slice none 0 0] 25 (0,0)):=aa4 rfl
 gi_enter Tryz.func30,Tryz.ntmps30
 gi_wp2_with fail
 refine(lend_calls _ (w.alloc (.cells #[.int .i64 core,.int .i64 swap,.slice s n c,.slice none 0 0] 25)) core swap n _ f (hs.keep K1) h0).mono ?_
 generalize w.alloc (.cells #[.int .i64 core,.int .i64 swap,.slice s n c,.slice none 0 0] 25)=w1 at*
 rintro e w2 ⟨k2,pb,pc,xb,xc,rfl,op,ox⟩
 have lp:=op.lt pb rfl
 have lx:=ox.lt xb rfl
 have k3:Keep No w2 (w2.alloc (.cells #[.int .i64 core,.int .i64 swap,.slice (some ⟨pb,0,none⟩) n pc,.slice (some ⟨xb,0,none⟩) 0 xc,.slice (some ⟨pb,0,none⟩) (n+3) pc,.slice (some ⟨xb,0,none⟩) 2 xc,.slice none 0 0] 152)):=(Keep.refl _ _).alloc _
 have hY:(w2.alloc (.cells #[.int .i64 core,.int .i64 swap,.slice (some ⟨pb,0,none⟩) n pc,.slice (some ⟨xb,0,none⟩) 0 xc,.slice (some ⟨pb,0,none⟩) (n+3) pc,.slice (some ⟨xb,0,none⟩) 2 xc,.slice none 0 0] 152)).heap[w2.heap.size]?=some (.cells #[.int .i64 core,.int .i64 swap,.slice (some ⟨pb,0,none⟩) n pc,.slice (some ⟨xb,0,none⟩) 0 xc,.slice (some ⟨pb,0,none⟩) (n+3) pc,.slice (some ⟨xb,0,none⟩) 2 xc,.slice none 0 0] 152 (0,0)):=aa4 rfl
 gi_upto_region 2 with fail
 have K3:=(K1.then k2).then k3
 have hX3:=(k2.then k3).old hX id
 have op3:=aa3 op k3 (fun _ _ x=>x)
 have ox3:=aa3 ox k3 (fun _ _ x=>x)
 have sz1:=K1.size
 have sz2:=k2.size
 have sz3:=k3.size
 have lY:=ab2 hY
 clear k2 k3 hX op ox K1
 generalize w2.alloc (.cells #[.int .i64 core,.int .i64 swap,.slice (some ⟨pb,0,none⟩) n pc,.slice (some ⟨xb,0,none⟩) 0 xc,.slice (some ⟨pb,0,none⟩) (n+3) pc,.slice (some ⟨xb,0,none⟩) 2 xc,.slice none 0 0] 152)=w3 at*
 generalize hLY:w2.heap.size=LY at*
 have y0:w3.cell? ⟨LY,0,none⟩=some (.int .i64 core):=by rw[aa0 hY];rfl
 have y1:w3.cell? ⟨LY,1,none⟩=some (.int .i64 swap):=by rw[aa0 hY];rfl
 have y2:w3.cell? ⟨LY,2,none⟩=some (.slice (some ⟨pb,0,none⟩) n pc):=by rw[aa0 hY];rfl
 have y3:w3.cell? ⟨LY,3,none⟩=some (.slice (some ⟨xb,0,none⟩) 0 xc):=by rw[aa0 hY];rfl
 have slp:SlI w3 (.slice (some ⟨pb,0,none⟩) n pc) n f:=by
  refine⟨by omega,_,pc,rfl,fun _=>⟨pb,0,rfl,fun i hi=>?_⟩⟩
  rw[Nat.zero_add]
  refine(op3.cellAt i (by omega)).trans ?_
  rw[List.getElem?_map,List.getElem?_range (by omega)]
  simp[lentF,hi]
 gi_wp2_with fail
 refine(kNew_no _ w3 core swap _ n f (some ⟨xb,0,none⟩) xc slp hno).mono ?_
 rintro e w4 ⟨k4,rfl⟩
 have K4:=K3.then k4
 have hX4:=k4.old hX3 id
 have hY4:=k4.old hY id
 have op4:=aa3 op3 k4 (fun _ _ x=>x)
 have ox4:=aa3 ox3 k4 (fun _ _ x=>x)
 have sz4:=k4.size
 have x0:w4.cell? ⟨w.heap.size,0,none⟩=some (.int .i64 core):=by rw[aa0 hX4];rfl
 have x1:w4.cell? ⟨w.heap.size,1,none⟩=some (.int .i64 swap):=by rw[aa0 hX4];rfl
 have x2:w4.cell? ⟨w.heap.size,2,none⟩=some (.slice s n c):=by rw[aa0 hX4];rfl
 have x3:w4.cell? ⟨w.heap.size,3,none⟩=some (.slice none 0 0):=by rw[aa0 hX4];rfl
 clear k4 hX3 hY op3 ox3 K3 slp y0 y1 y2 y3
 gi_wp2_with fail
 refine(rNew_no _ w4 core swap _ n f none 0 (hs.keep K4) hno).mono ?_
 rintro e w5 ⟨k5,rfl⟩
 have K5:=K4.then k5
 have hX5:=k5.old hX4 id
 have hY5:=k5.old hY4 id
 have op5:=aa3 op4 k5 (fun _ _ x=>x)
 have ox5:=aa3 ox4 k5 (fun _ _ x=>x)
 have sz5:=k5.size
 have hW5:=K5.old hw id
 clear k5 hX4 hY4 op4 ox4 K4 x0 x1 x2 x3
 gi_upto_region 4 with fail
 have x0:w5.cell? ⟨w.heap.size,0,none⟩=some (.int .i64 core):=by rw[aa0 hX5];rfl
 have x1:w5.cell? ⟨w.heap.size,1,none⟩=some (.int .i64 swap):=by rw[aa0 hX5];rfl
 have x2:w5.cell? ⟨w.heap.size,2,none⟩=some (.slice s n c):=by rw[aa0 hX5];rfl
 have x3:w5.cell? ⟨w.heap.size,3,none⟩=some (.slice none 0 0):=by rw[aa0 hX5];rfl
 have y0:w5.cell? ⟨LY,0,none⟩=some (.int .i64 core):=by rw[aa0 hY5];rfl
 have y1:w5.cell? ⟨LY,1,none⟩=some (.int .i64 swap):=by rw[aa0 hY5];rfl
 have y2:w5.cell? ⟨LY,2,none⟩=some (.slice (some ⟨pb,0,none⟩) n pc):=by rw[aa0 hY5];rfl
 have y3:w5.cell? ⟨LY,3,none⟩=some (.slice (some ⟨xb,0,none⟩) 0 xc):=by rw[aa0 hY5];rfl
 have y4:w5.cell? ⟨LY,4,none⟩=some (.slice (some ⟨pb,0,none⟩) (n+3) pc):=by rw[aa0 hY5];rfl
 have y5:w5.cell? ⟨LY,5,none⟩=some (.slice (some ⟨xb,0,none⟩) 2 xc):=by rw[aa0 hY5];rfl
 have y6:w5.cell? ⟨LY,6,none⟩=some (.slice none 0 0):=by rw[aa0 hY5];rfl
 have b0:w5.cell? ⟨wb,0,none⟩=some (.pointer (some ⟨bk,0,none⟩)):=by rw[aa0 hW5];rfl
 refine aa9 (P:=Tryz.prog) No _ rfl rfl (by kernel_rfl) 6 61 [0,1,2,3,4,5] [] (by kernel_rfl) (by rfl) (fun _ _ _=>True) (fun _ _ _ _ _ h _=>h) _ _ rfl rfl ?_
 gi_wp2
 refine⟨rfl,by kernel_rfl,?_,(fun i hi=>absurd hi (by simp)),?_⟩
 ·intro V hV
  have a0:=hV.has (w:=w5.drew) x0
  have a1:=hV.has (w:=w5.drew) x1
  have a2:=hV.has (w:=w5.drew) x2
  have a3:=hV.has (w:=w5.drew) x3
  have b0':=hV.has (w:=w5.drew) y0
  have b1:=hV.has (w:=w5.drew) y1
  have b2:=hV.has (w:=w5.drew) y2
  have b3:=hV.has (w:=w5.drew) y3
  have b4:=hV.has (w:=w5.drew) y4
  have b5:=hV.has (w:=w5.drew) y5
  have b6:=hV.has (w:=w5.drew) y6
  have b7:=hV.has (w:=w5.drew) b0
  repeat' (refine aa8 ?_ ?_)
  all_goals first|exact trivial|gi_wp2
 intro u V kV _
 simp only[putS]
 have KV:Keep No w V:=K5.drew.then kV
 have opV:=af0 (aa3 (w:=w5.drew) op5 kV (fun _ _ x=>x)) (Nat.zero_le _)
 have oxV:=af0 (aa3 (w:=w5.drew) ox5 kV (fun _ _ x=>x)) (Nat.zero_le _)
 clear x0 x1 x2 x3 y0 y1 y2 y3 y4 y5 y6 b0
 gi_wp2_with fail
 refine(back_calls _ V T bk mm tl ls (h.keepNo KV) core swap n pb pc xb xc _ f (hs.keep KV) opV oxV (hn0 pb (by omega)) (hn0 xb (by omega)) hn (by omega) hll).mono ?_
 rintro e w6 ⟨rfl,K6,T',tl',ls',B6,hl6,hT6⟩
 have szV:=KV.size
 gi_wp2_with (gi_at_call 70;refine(num_calls _ w6 1).mono ?_;rintro e wz ⟨rfl,hwz⟩;have hwz:=hwz.symm;subst hwz)
 go_ret
 refine⟨by simp,?_,T',tl',ls',B6,hl6,fun k hk=>?_⟩
 ·refine(K5.drew.then kV).no.trans K6 (fun k hk e=>?_)
  rcases e with e|e|e
  ·exact e
  ·omega
  ·omega
 ·rw[hT6 k (by omega),if_neg (by omega)]
set_option maxHeartbeats 16000000 in
theorem more_ok (T:Nat→Nat) (wb bk mm:Nat) (tl:Nat→Value) (ls:List (Value×Int)) (ps:Value) (np:Nat) (xs:List Value) (h:BookX T w bk tl mm ls) (hw:w.heap[wb]?=some (.cells #[.pointer (some ⟨bk,0,none⟩),ps] 78 (0,0))) (hwb:T wb=9) (hps:w.ownsRow 0 83 2 ps np xs) (tps:∀g,ps.ownBlock=some g→T g=9) (hnp:np≤10) (C M n N8:Nat) (v:Value) (img:Nat→Nat) (hs:SlI w v n (fun i=>img i)) (hyes:MayBe C M n (fun i=>img i)) (h8:8*nblk n=N8) (hmm:mm≤90000000) (hll:ls.length≤900):
  CallsIn NF m Tryz.prog 30 #[.pointer (some ⟨wb,0,none⟩),.agg #[.int .i64 C,.int .i64 M,v,.slice none 0 0]] w fun e w'=>e=.returned (.bool true)∧Keep (fun k=>(1≤T k∧T k≤8)∨k=wb∨ps.ownBlock=some k) w w'∧∃T' tl' ls' kb qb ps',BookX T' w' bk tl' (mm+2) ls'∧ls'.length=ls.length+1∧(∀k,k<w.heap.size→T' k=T k)∧w'.heap[wb]?=some (.cells #[.pointer (some ⟨bk,0,none⟩),ps'] 78 (0,0))∧w'.ownsRow 0 83 2 ps' (np+1) (xs++[.pointer (some ⟨kb.kb,0,none⟩),.pointer (some ⟨qb.rb,0,none⟩)])∧(∀g,ps'.ownBlock=some g→ps.ownBlock=some g∨w.heap.size≤g∧T' g=0∧¬kb.foot g∧¬qb.foot g)∧PairOn kb qb w' (some (false,0,0,0))∧(∀k,kb.foot k→w.heap.size≤k∧T' k=0)∧(∀k,qb.foot k→w.heap.size≤k∧T' k=0)∧(∀k,kb.foot k→¬qb.foot k)∧(1≤kb.pc∧kb.N=C∧kb.M=M∧kb.L=N8∧kb.img=ah5 n img)∧(qb.C=C∧qb.M=M∧qb.L=N8∧qb.img=ah5 n img∧qb.L≤qb.ic∧qb.cr≠qb.sr∧qb.cr≠qb.qi∧qb.sr≠qb.qi∧qb.cr≠qb.rb∧qb.cr≠qb.qrb∧qb.cr≠qb.qb∧qb.sr≠qb.rb∧qb.sr≠qb.qrb∧qb.sr≠qb.qb∧qb.qi≠qb.rb∧qb.qi≠qb.qrb∧qb.qi≠qb.qb):=by
 have hn1:1≤n∧n≤128:=⟨hyes.2.1.1,hyes.2.1.2.1⟩
 have hn:n≤9000000:=by omega
 have h0:n=0→v=.slice none 0 0:=fun e=>by omega
 obtain⟨aps,cps,hpsf⟩:=ac1 hps
 obtain⟨s,c,rfl⟩:=hs.form
 have hn0:∀k,w.heap.size≤k→T k=0:=by obtain⟨_,_,_,_,h3,_⟩:=h;exact h3
 have lw:wb<w.heap.size:=ab2 hw
 have K1:Keep No w (w.alloc (.cells #[.int .i64 C,.int .i64 M,.slice s n c,.slice none 0 0] 25)):=(Keep.refl _ _).alloc _
 have hX:(w.alloc (.cells #[.int .i64 C,.int .i64 M,.slice s n c,.slice none 0 0] 25)).heap[w.heap.size]?=some (.cells #[.int .i64 C,.int .i64 M,.slice s n c,.slice none 0 0] 25 (0,0)):=aa4 rfl
 gi_enter Tryz.func30,Tryz.ntmps30
 gi_wp2_with fail
 refine(lend_calls _ (w.alloc (.cells #[.int .i64 C,.int .i64 M,.slice s n c,.slice none 0 0] 25)) C M n _ _ (hs.keep K1) h0).mono ?_
 generalize w.alloc (.cells #[.int .i64 C,.int .i64 M,.slice s n c,.slice none 0 0] 25)=w1 at*
 rintro e w2 ⟨k2,pb,pc,xb,xc,rfl,op,ox⟩
 have lp:=op.lt pb rfl
 have lx:=ox.lt xb rfl
 have k3:Keep No w2 (w2.alloc (.cells #[.int .i64 C,.int .i64 M,.slice (some ⟨pb,0,none⟩) n pc,.slice (some ⟨xb,0,none⟩) 0 xc,.slice (some ⟨pb,0,none⟩) (n+3) pc,.slice (some ⟨xb,0,none⟩) 2 xc,.slice none 0 0] 152)):=(Keep.refl _ _).alloc _
 have hY:(w2.alloc (.cells #[.int .i64 C,.int .i64 M,.slice (some ⟨pb,0,none⟩) n pc,.slice (some ⟨xb,0,none⟩) 0 xc,.slice (some ⟨pb,0,none⟩) (n+3) pc,.slice (some ⟨xb,0,none⟩) 2 xc,.slice none 0 0] 152)).heap[w2.heap.size]?=some (.cells #[.int .i64 C,.int .i64 M,.slice (some ⟨pb,0,none⟩) n pc,.slice (some ⟨xb,0,none⟩) 0 xc,.slice (some ⟨pb,0,none⟩) (n+3) pc,.slice (some ⟨xb,0,none⟩) 2 xc,.slice none 0 0] 152 (0,0)):=aa4 rfl
 gi_upto_region 2 with fail
 have K3:=(K1.then k2).then k3
 have hX3:=(k2.then k3).old hX id
 have op3:=aa3 op k3 (fun _ _ x=>x)
 have ox3:=aa3 ox k3 (fun _ _ x=>x)
 have sz1:=K1.size
 have sz2:=k2.size
 have sz3:=k3.size
 have lY:=ab2 hY
 clear k2 k3 hX op ox K1
 generalize w2.alloc (.cells #[.int .i64 C,.int .i64 M,.slice (some ⟨pb,0,none⟩) n pc,.slice (some ⟨xb,0,none⟩) 0 xc,.slice (some ⟨pb,0,none⟩) (n+3) pc,.slice (some ⟨xb,0,none⟩) 2 xc,.slice none 0 0] 152)=w3 at*
 generalize hLY:w2.heap.size=LY at*
 have y0:w3.cell? ⟨LY,0,none⟩=some (.int .i64 C):=by rw[aa0 hY];rfl
 have y1:w3.cell? ⟨LY,1,none⟩=some (.int .i64 M):=by rw[aa0 hY];rfl
 have y2:w3.cell? ⟨LY,2,none⟩=some (.slice (some ⟨pb,0,none⟩) n pc):=by rw[aa0 hY];rfl
 have y3:w3.cell? ⟨LY,3,none⟩=some (.slice (some ⟨xb,0,none⟩) 0 xc):=by rw[aa0 hY];rfl
 have slp:SlI w3 (.slice (some ⟨pb,0,none⟩) n pc) n (fun i=>img i):=by
  refine⟨by omega,_,pc,rfl,fun _=>⟨pb,0,rfl,fun i hi=>?_⟩⟩
  rw[Nat.zero_add]
  refine(op3.cellAt i (by omega)).trans ?_
  rw[List.getElem?_map,List.getElem?_range (by omega)]
  simp[lentF,hi]
 gi_wp2_with fail
 refine(kNew_ok _ w3 C M n N8 _ img (some ⟨xb,0,none⟩) xc slp hyes h8).mono ?_
 rintro e w4 ⟨k4,kb,rfl,kon,kft,kfacts⟩
 have K4:=K3.then k4
 have hX4:=k4.old hX3 id
 have hY4:=k4.old hY id
 have op4:=aa3 op3 k4 (fun _ _ x=>x)
 have ox4:=aa3 ox3 k4 (fun _ _ x=>x)
 have sz4:=k4.size
 have klt:∀k,kb.foot k→k<w4.heap.size:=let ⟨_,_,_,_,hh⟩:=kon;hh.lt
 have x0:w4.cell? ⟨w.heap.size,0,none⟩=some (.int .i64 C):=by rw[aa0 hX4];rfl
 have x1:w4.cell? ⟨w.heap.size,1,none⟩=some (.int .i64 M):=by rw[aa0 hX4];rfl
 have x2:w4.cell? ⟨w.heap.size,2,none⟩=some (.slice s n c):=by rw[aa0 hX4];rfl
 have x3:w4.cell? ⟨w.heap.size,3,none⟩=some (.slice none 0 0):=by rw[aa0 hX4];rfl
 clear k4 hX3 hY op3 ox3 K3 slp y0 y1 y2 y3
 gi_wp2_with fail
 refine(rNew_ok _ w4 C M n N8 _ img none 0 (hs.keep K4) hyes h8).mono ?_
 rintro e w5 ⟨k5,qb,rfl,qon,qft,qfacts⟩
 have K5:=K4.then k5
 have hX5:=k5.old hX4 id
 have hY5:=k5.old hY4 id
 have op5:=aa3 op4 k5 (fun _ _ x=>x)
 have ox5:=aa3 ox4 k5 (fun _ _ x=>x)
 have kon5:=kon.keep k5 (fun _ _ x=>x)
 have sz5:=k5.size
 have hW5:=K5.old hw id
 clear k5 hX4 hY4 op4 ox4 K4 x0 x1 x2 x3 kon
 gi_upto_region 4 with fail
 have x0:w5.cell? ⟨w.heap.size,0,none⟩=some (.int .i64 C):=by rw[aa0 hX5];rfl
 have x1:w5.cell? ⟨w.heap.size,1,none⟩=some (.int .i64 M):=by rw[aa0 hX5];rfl
 have x2:w5.cell? ⟨w.heap.size,2,none⟩=some (.slice s n c):=by rw[aa0 hX5];rfl
 have x3:w5.cell? ⟨w.heap.size,3,none⟩=some (.slice none 0 0):=by rw[aa0 hX5];rfl
 have y0:w5.cell? ⟨LY,0,none⟩=some (.int .i64 C):=by rw[aa0 hY5];rfl
 have y1:w5.cell? ⟨LY,1,none⟩=some (.int .i64 M):=by rw[aa0 hY5];rfl
 have y2:w5.cell? ⟨LY,2,none⟩=some (.slice (some ⟨pb,0,none⟩) n pc):=by rw[aa0 hY5];rfl
 have y3:w5.cell? ⟨LY,3,none⟩=some (.slice (some ⟨xb,0,none⟩) 0 xc):=by rw[aa0 hY5];rfl
 have y4:w5.cell? ⟨LY,4,none⟩=some (.slice (some ⟨pb,0,none⟩) (n+3) pc):=by rw[aa0 hY5];rfl
 have y5:w5.cell? ⟨LY,5,none⟩=some (.slice (some ⟨xb,0,none⟩) 2 xc):=by rw[aa0 hY5];rfl
 have y6:w5.cell? ⟨LY,6,none⟩=some (.slice none 0 0):=by rw[aa0 hY5];rfl
 have b0:w5.cell? ⟨wb,0,none⟩=some (.pointer (some ⟨bk,0,none⟩)):=by rw[aa0 hW5];rfl
 refine aa9 (P:=Tryz.prog) No _ rfl rfl (by kernel_rfl) 6 61 [0,1,2,3,4,5] [] (by kernel_rfl) (by rfl) (fun _ _ _=>True) (fun _ _ _ _ _ h _=>h) _ _ rfl rfl ?_
 gi_wp2
 refine⟨rfl,by kernel_rfl,?_,(fun i hi=>absurd hi (by simp)),?_⟩
 ·intro V hV
  have a0:=hV.has (w:=w5.drew) x0
  have a1:=hV.has (w:=w5.drew) x1
  have a2:=hV.has (w:=w5.drew) x2
  have a3:=hV.has (w:=w5.drew) x3
  have b0':=hV.has (w:=w5.drew) y0
  have b1:=hV.has (w:=w5.drew) y1
  have b2:=hV.has (w:=w5.drew) y2
  have b3:=hV.has (w:=w5.drew) y3
  have b4:=hV.has (w:=w5.drew) y4
  have b5:=hV.has (w:=w5.drew) y5
  have b6:=hV.has (w:=w5.drew) y6
  have b7:=hV.has (w:=w5.drew) b0
  repeat' (refine aa8 ?_ ?_)
  all_goals first|exact trivial|gi_wp2
 intro u V kV _
 simp only[putS]
 have KV:Keep No w V:=K5.drew.then kV
 have opV:=af0 (aa3 (w:=w5.drew) op5 kV (fun _ _ x=>x)) (Nat.zero_le _)
 have oxV:=af0 (aa3 (w:=w5.drew) ox5 kV (fun _ _ x=>x)) (Nat.zero_le _)
 clear x0 x1 x2 x3 y0 y1 y2 y3 y4 y5 y6 b0
 gi_wp2_with fail
 refine(back_calls _ V T bk mm tl ls (h.keepNo KV) C M n pb pc xb xc _ _ (hs.keep KV) opV oxV (hn0 pb (by omega)) (hn0 xb (by omega)) hn (by omega) hll).mono ?_
 rintro e w6 ⟨rfl,K6,T',tl',ls',B6,hl6,hT6⟩
 have szV:=KV.size
 have kfr:∀k,kb.foot k→w.heap.size≤k∧k≠pb∧k≠xb∧k<V.heap.size:=fun k hk=>by
  have q1:=kft k hk
  have q2:=klt k hk
  have q3:=kV.size
  have q3:w5.heap.size≤V.heap.size:=q3
  exact⟨by omega,by omega,by omega,by omega⟩
 have qfr:∀k,qb.foot k→w.heap.size≤k∧k≠pb∧k≠xb∧k<V.heap.size:=fun k hk=>by
  have q1:=qft k hk
  have q3:=kV.size
  have q3:w5.heap.size≤V.heap.size:=q3
  exact⟨by omega,by omega,by omega,by omega⟩
 have hp6:PairOn kb qb w6 (some (false,0,0,0)):=by
  have q1:PairOn kb qb V (some (false,0,0,0)):=PairOn.keep (w:=w5.drew) ⟨kon5.keep ((Keep.refl No w5).drew) (fun _ _ x=>x),qon.keep ((Keep.refl No w5).drew) (fun _ _ x=>x)⟩ kV (fun _ _ x=>x) (fun _ _ x=>x)
  refine q1.keep K6 (fun k hk e=>?_) (fun k hk e=>?_)
  ·have q2:=kfr k hk
   have q3:=hn0 k q2.1
   rcases e with e|e|e<;>omega
  ·have q2:=qfr k hk
   have q3:=hn0 k q2.1
   rcases e with e|e|e<;>omega
 have KW6:Keep (fun k=>1≤T k∧T k≤8) w w6:=KV.no.trans K6 (fun k hk e=>by
  rcases e with e|e|e
  ·exact e
  ·omega
  ·omega)
 have hW6:=KW6.old hw (fun e=>by omega)
 have hps6:=aa3 hps KW6 (fun g hg e=>by have:=tps g hg;omega)
 have old6:∀k,k<w.heap.size→T' k=T k:=fun k hk=>by rw[hT6 k (by omega),if_neg (by omega)]
 have kt6:∀k,kb.foot k→T' k=0:=fun k hk=>by
  have q2:=kfr k hk
  rw[hT6 k q2.2.2.2,if_neg (by omega)]
  exact hn0 k q2.1
 have qt6:∀k,qb.foot k→T' k=0:=fun k hk=>by
  have q2:=qfr k hk
  rw[hT6 k q2.2.2.2,if_neg (by omega)]
  exact hn0 k q2.1
 have sz6:=K6.size
 subst hpsf
 have g1:w6.cell? ⟨wb,1,none⟩=some (.slice aps np cps):=by rw[aa0 hW6];rfl
 obtain⟨i83,hi83,hi830,hi831,hi832⟩:=info_parts info83
 have KA:Keep No w6 (w6.alloc (.cells #[.pointer (some ⟨kb.kb,0,none⟩),.pointer (some ⟨qb.rb,0,none⟩)] 83)):=(Keep.refl No w6).alloc _
 have hA:(w6.alloc (.cells #[.pointer (some ⟨kb.kb,0,none⟩),.pointer (some ⟨qb.rb,0,none⟩)] 83)).heap[w6.heap.size]?=some (.cells #[.pointer (some ⟨kb.kb,0,none⟩),.pointer (some ⟨qb.rb,0,none⟩)] 83 (0,0)):=aa4 rfl
 have hsA:∀j u,([.pointer (some ⟨kb.kb,0,none⟩),.pointer (some ⟨qb.rb,0,none⟩)]:List Value)[j]?=some u→(w6.alloc (.cells #[.pointer (some ⟨kb.kb,0,none⟩),.pointer (some ⟨qb.rb,0,none⟩)] 83)).cell? ((⟨w6.heap.size,0,none⟩:Addr).add j)=some u:=fun j u hj=>by
  rw[Addr.add_lit,Nat.zero_add,aa0 hA,←hj]
  match j with
  | 0=>rfl
  | 1=>rfl
  | j+2=>simp
 have oA:=aa3 hps6 KA (fun _ _ x=>x)
 have hWA:=KA.old hW6 id
 gi_wp2_with (gi_at_builtin;refine ac3 _ rfl (.tmp 53) (.tmp 57) 76 rfl 0 83 i83 (.agg #[.pointer none,.pointer none]) 2 16 Tryz.underlying76 hi83 hi830 hi831 hi832 rfl (by decide) (.slice aps np cps) np xs rfl oA ⟨w6.heap.size,0,none⟩ 1 1 [.pointer (some ⟨kb.kb,0,none⟩),.pointer (some ⟨qb.rb,0,none⟩)] rfl (by simp) hsA (by simp[Value.oneCell']) (by unfold maxLen;omega) (by omega) (Nat.zero_le _) (by omega) ?_;intro vp w7 o7 K7 hG;have f7:=ac1 o7;obtain⟨ap,cp,hvp⟩:=f7;subst hvp;have hW7:=K7.old hWA (ad7 oA hWA (by decide));have c7:w7.cell? ⟨wb,1,none⟩=some (.slice aps np cps):=(by rw[aa0 hW7];rfl);have fz7:=ab3 hW7 1)
 go_ret
 have kS:Keep (Go.Fxa.At wb) w7 (w7.setCell ⟨wb,1,none⟩ (.slice ap (np+1) cp)):=Keep.set1 _
 have nps:∀k,T' k≠9→¬(Value.slice aps np cps).ownBlock=some k:=fun k hk e=>hk ((old6 k (hps.lt k e).2).trans (tps k e))
 have twb:T' wb=9:=(old6 wb lw).trans hwb
 have B7:=(B6.keepNo KA).keep K7 (fun k h1 h8'=>nps k (by omega))
 have B8:=B7.keep kS (fun k h1 h8' e=>by have e:k=wb:=e;subst e;omega)
 have hp8:=((hp6.keep KA (fun _ _ x=>x) (fun _ _ x=>x)).keep K7 (fun k hk=>nps k (by have:=kt6 k hk;omega)) (fun k hk=>nps k (by have:=qt6 k hk;omega))).keep kS (fun k hk e=>by have e:k=wb:=e;have:=kt6 k hk;subst e;omega) (fun k hk e=>by have e:k=wb:=e;have:=qt6 k hk;subst e;omega)
 have o8:=aa3 o7 kS (fun g hg e=>by have e:g=wb:=e;subst e;exact ad7 o7 hW7 (by decide) hg)
 refine⟨by simp,?_,T',tl',ls',kb,qb,.slice ap (np+1) cp,B8,hl6,old6,(aa2 hW7 _).trans rfl,o8,fun g hg=>?_,hp8,fun k hk=>⟨(kfr k hk).1,kt6 k hk⟩,fun k hk=>⟨(qfr k hk).1,qt6 k hk⟩,fun k hk hq=>?_,kfacts,qfacts⟩
 ·refine(((KW6.mono (fun k _ e=>.inl e)).then KA.no).trans K7 (fun k hk e=>.inr (.inr e))).trans kS (fun k hk e=>.inr (.inl e))
 ·rcases hG with e|⟨e,_⟩
  ·exact .inl (e ▸ hg)
  ·rw[hg]at e
   cases e
   have q:=KA.size
   refine .inr ⟨by omega,?_,fun hk=>?_,fun hk=>?_⟩
   ·obtain⟨_,_,_,_,h3,_⟩:=B6
    exact h3 _ KA.size
   ·have:=kfr _ hk;omega
   ·have:=qfr _ hk;omega
 ·have q1:=klt k hk
  have q2:=(qft k hq).1
  omega
end
end Go.Fxa
