/- The program's Look: its lists. The program's Look. The program's Look, whole. The document's Look. The document's Look of no process. Where an append to an own row goes: in place, or to a new block. -/
import Derived.Test.YtmhplpfpcnjekaaGreatK24
import Derived.Laws.OwnMore
namespace Go.Fxa
open Go.Conc
open Go.Proofs
open Go.RowKit
set_option maxRecDepth 1000000
section
variable (m:Nat) (w:World)
theorem eqn22 {ad:Addr} {n c:Nat}:(binOp .eql 22 (.slice (some ad) n c) (.slice none 0 0)).run Tryz.prog w=.ok (.bool false) w:=by kernel_rfl
theorem clone_ints (ad:Addr) (n c:Nat) (xs:List Value) (hl:xs.length=n) (hc:∀j u,xs[j]?=some u→w.cell? (ad.add j)=some u) (h1:∀u∈xs,u.oneCell'=true) (hn:n≤1000):CallsIn NF m Tryz.prog 102 #[.slice (some ad) n c] w fun e w'=>Keep No w w'∧∃v,e=.returned v∧w'.ownsRow w.heap.size 3 1 v n xs:=by
 obtain⟨i0,hi,hz0,hz1,hz2⟩:=info_parts info3
 have hq:=eqn22 w (ad:=ad) (n:=n) (c:=c)
 gi_enter Tryz.func102,Tryz.ntmps102
 gi_wp2_with (gi_at_builtin;refine wpListIn_append_own _ rfl (.tmp 5) (.tmp 6) 22 rfl w.heap.size 3 i0 (.int .i64 0) 1 8 Tryz.underlying22 hi hz0 hz1 hz2 rfl (by decide) _ 0 [] rfl owns_empty ad n c xs rfl (by omega) (fun j u hj=>((Keep.refl No w).alloc _).has (hc j u hj)) h1 (by unfold maxLen;omega) (by omega) (by simp) ?_;intro v' w1 hown hgrow _)
 go_ret
 refine⟨((Keep.refl No w).alloc (.cells #[] 3)).trans (ae7 (S:=At w.heap.size) hgrow (fun k h _=>(Option.some.inj (show some w.heap.size=some k from h)).symm)) (fun k hk h=>absurd hk (by rw[show k=w.heap.size from h];exact Nat.lt_irrefl _)),v',rfl,?_⟩
 simpa using hown
theorem RowT.set {T:TypeId} {k:IntKind} {w:World} {b n:Nat} {f:Nat→Int} (h:RowT T k w b n f) (i:Nat) (x:Int):RowT T k (w.setCell ⟨b,i,none⟩ (.int k x)) b n (upd f i x):=by
 obtain⟨cs,h1,h2,h3⟩:=h
 refine⟨_,aa2 h1 _,by simpa using h2,fun j hj=>?_⟩
 rw[Array.getElem?_setIfInBounds]
 by_cases e:i=j
 ·subst e;simp[upd,h2,hj]
 ·rw[if_neg e,h3 j hj];simp[upd,Ne.symm e]
theorem RowT.ext {T:TypeId} {k:IntKind} {w:World} {b n:Nat} {f g:Nat→Int} (h:RowT T k w b n f) (e:∀i,i<n→f i=g i):RowT T k w b n g:=by
 obtain⟨cs,h1,h2,h3⟩:=h
 exact⟨cs,h1,h2,fun i hi=>by rw[h3 i hi,e i hi]⟩
theorem RowT.fz {T:TypeId} {k:IntKind} {w:World} {b n:Nat} {f:Nat→Int} (h:RowT T k w b n f) (i:Nat):w.frozen? ⟨b,i,none⟩=false:=h.row.fz i
theorem made_row (n:Nat):RowT 3 .i64 (w.alloc (.cells (madeCells #[.int .i64 0] n) 3)) w.heap.size n (fun _=>0):=by
 refine⟨madeCells #[.int .i64 0] n,aa4 rfl,by simp[madeCells],fun i hi=>?_⟩
 simp[madeCells,hi,Nat.mod_one]
set_option maxHeartbeats 2000000 in
theorem toInts_calls (ib L:Nat) (img:Nat→Nat) (h:Row .u16 w ib L (fun i=>img i)) (hw:∀i,i<L→img i<65536) (hL:L≤128):CallsIn NF m Tryz.prog 101 #[.slice (some ⟨ib,0,none⟩) L L] w fun e w'=>Keep No w w'∧e=.returned (.slice (some ⟨w.heap.size,0,none⟩) L L)∧RowT 3 .i64 w' w.heap.size L (fun i=>img i):=by
 obtain⟨i0,hi,hz0,hz1,hz2⟩:=info_parts info3
 have hmk:=run_make (P:=Tryz.prog) w 22 3 i0 (.int .i64 0) Tryz.underlying22 hi hz0 .i64 .i64 L L (by omega) (by omega) (by rw[hz2];omega) (by omega)
 rw[hz1]at hmk
 simp only[Int.toNat_natCast,Nat.mul_one,Value.cells]at hmk
 have r0:=made_row w L
 have K0:Keep No w (w.alloc (.cells (madeCells #[.int .i64 0] L) 3)):=(Keep.refl _ _).alloc _
 generalize w.alloc (.cells (madeCells #[.int .i64 0] L) 3)=w1 at*
 have hb:=h.lt
 gi_enter Tryz.func101,Tryz.ntmps101
 gi_wp2
 gi_loopw [11] (fun i wr=>∃k:Nat,k≤L∧i=.int .i64 k∧Keep No w wr∧RowT 3 .i64 wr w.heap.size L (fun i=>if i<k then(img i:Int)else 0)) (fun i _=>L-(intOf i).toNat)
 case atStart=>exact⟨0,by omega,rfl,K0,r0.ext (fun i _=>by simp)⟩
 case round=>
  obtain⟨k,hk,rfl,KK,rr⟩:=hrel
  by_cases hlt:k<L
  ·have hw1:=hw k hlt
   have d:=KK.has (h.cell hlt)
   have e:=rr.cell hlt
   have f:=rr.fz k
   gi_wp2
   go_roundw
   case rel=>
    refine⟨k+1,by omega,by go_num,KK.setCell _ (fun hx=>absurd hx (Nat.lt_irrefl _)),(rr.set k (img k)).ext (fun i hi=>?_)⟩
    show(if i=k then(img k:Int)else if i<k then(img i:Int)else 0)=if i<k+1 then(img i:Int)else 0
    by_cases c1:i=k
    ·subst c1;rw[if_pos rfl,if_pos (by omega)]
    ·by_cases c2:i<k
     ·rw[if_neg c1,if_pos c2,if_pos (by omega)]
     ·rw[if_neg c1,if_neg c2,if_neg (by omega)]
   case measure=>simp[intOf];omega
  ·obtain rfl:k=L:=by omega
   gi_wp2
   go_ret
   exact⟨KK,by simp,rr.ext (fun i hi=>by simp[hi])⟩
end
def Ints (base:Nat) (v:Value) (n:Nat) (f:Nat→Int) (w:World):Prop:=∃rb c,base≤rb∧rb<w.heap.size∧n≤c∧v=.slice (some ⟨rb,0,none⟩) n c∧∀i,i<n→w.cell? ⟨rb,i,none⟩=some (.int .i64 (f i))
theorem Ints.keep {base:Nat} {v:Value} {n:Nat} {f:Nat→Int} {w w':World} {S:Nat→Prop} (h:Ints base v n f w) (hK:Keep S w w') (hn:∀k,base≤k→¬S k):Ints base v n f w':=by
 obtain⟨rb,c,h1,h2,h3,h4,h5⟩:=h
 exact⟨rb,c,h1,Nat.lt_of_lt_of_le h2 hK.size,h3,h4,fun i hi=>(hK.cell (p:=⟨rb,i,none⟩) h2 (hn rb h1)).trans (h5 i hi)⟩
theorem Ints.mono {base base':Nat} {v:Value} {n:Nat} {f:Nat→Int} {w:World} (h:Ints base v n f w) (hb:base'≤base):Ints base' v n f w:=by
 obtain⟨rb,c,h1,h2⟩:=h
 exact⟨rb,c,Nat.le_trans hb h1,h2⟩
theorem Row.ints {w:World} {rb n base:Nat} {f:Nat→Int} (h:Row .i64 w rb n f) (hb:base≤rb):Ints base (.slice (some ⟨rb,0,none⟩) n n) n f w:=⟨rb,n,hb,h.lt,Nat.le_refl _,rfl,fun _ hi=>h.cell hi⟩
theorem owns_ints {w:World} {base n:Nat} {v:Value} {xs:List Value} {f:Nat→Int} (h:w.ownsRow base 3 1 v n xs) (h0:0<n) (hx:∀i,i<n→xs[i]?=some (.int .i64 (f i))):Ints base v n f w:=by
 have h2:=h.2
 rcases h2 with⟨_,e⟩|⟨g,cap,cur,rfl,hb,hg,hc,_⟩
 ·omega
 ·exact⟨g,cap,hb,ab2 hg,hc,rfl,fun i hi=>(h.cellAt i (by omega)).trans (hx i hi)⟩
def IntsO (base:Nat) (v:Value) (n:Nat) (f:Nat→Int) (w:World):Prop:=Ints base v n f w∧∃rb c cs,v=.slice (some ⟨rb,0,none⟩) n c∧w.heap[rb]?=some (.cells cs 3 (0,0))∧cs.size=c∧c≤maxLen
theorem IntsO.keep {base:Nat} {v:Value} {n:Nat} {f:Nat→Int} {w w':World} {S:Nat→Prop} (h:IntsO base v n f w) (hK:Keep S w w') (hn:∀k,base≤k→¬S k):IntsO base v n f w':=by
 obtain⟨h0,rb,c,cs,rfl,h2,h3⟩:=h
 refine⟨h0.keep hK hn,rb,c,cs,rfl,hK.old h2 (hn rb ?_),h3⟩
 obtain⟨rb',c',h1,_,_,e,_⟩:=h0
 cases e
 exact h1
theorem IntsO.mono {base base':Nat} {v:Value} {n:Nat} {f:Nat→Int} {w:World} (h:IntsO base v n f w) (hb:base'≤base):IntsO base' v n f w:=⟨h.1.mono hb,h.2⟩
theorem RowT.intsO {w:World} {rb n base:Nat} {f:Nat→Int} (h:RowT 3 .i64 w rb n f) (hb:base≤rb) (hn:n≤maxLen):IntsO base (.slice (some ⟨rb,0,none⟩) n n) n f w:=
 ⟨Row.ints h.row hb,let ⟨cs,h1,h2,_⟩:=h;⟨rb,n,cs,rfl,h1,h2,hn⟩⟩
theorem owns_intsO {w:World} {base n:Nat} {v:Value} {xs:List Value} {f:Nat→Int} (h:w.ownsRow base 3 1 v n xs) (h0:0<n) (hx:∀i,i<n→xs[i]?=some (.int .i64 (f i))):IntsO base v n f w:=by
 refine⟨owns_ints h h0 hx,?_⟩
 rcases h.2 with⟨_,e⟩|⟨g,cap,cur,rfl,hb,hg,hc,hm,hs,_⟩
 ·omega
 ·exact⟨g,cap,cur,rfl,hg,by omega,hm⟩
theorem IntsO.owns {w:World} {base n:Nat} {v:Value} {f:Nat→Int} (h:IntsO base v n f w):∃xs,w.ownsRow base 3 1 v n xs:=by
 obtain⟨⟨rb,c,h1,h2,h3,rfl,h4⟩,rb',c',cs,e,h5,h6,h7⟩:=h
 cases e
 exact⟨cs.toList.take (n*1),by simp;omega,.inr ⟨rb,c,cs,rfl,h1,h5,h3,h7,by omega,rfl⟩⟩
def ao7 (A B P:Nat) (v7 v8:Value):Array Value:=#[.int .i64 1,.int .i64 0,.int .i64 0,.int .i64 A,.int .i64 B,.int .i64 P,.int .i64 0,v7,v8]
def look0:Array Value:=#[.int .i64 0,.int .i64 0,.int .i64 0,.int .i64 0,.int .i64 0,.int .i64 0,.int .i64 0,.slice none 0 0,.slice none 0 0]
theorem store_look {w:World} {rb:Nat} {x0 x1 x2 x3 x4 x5 x6 x7 x8:Value} {A B P n7 c7 n8 c8:Nat} {a7 a8:Option Addr} (h:w.heap[rb]?=some (.cells #[x0,x1,x2,x3,x4,x5,x6,x7,x8] 48 (0,0))):∃w',(Instr.storeAt 48 (.pointer (some ⟨rb,0,none⟩)) (.agg (ao7 A B P (.slice a7 n7 c7) (.slice a8 n8 c8)))).run Tryz.prog w=.ok () w'∧Keep (At rb) w w'∧w'.heap[rb]?=some (.cells (ao7 A B P (.slice a7 n7 c7) (.slice a8 n8 c8)) 48 (0,0)):=by
 have e:(Instr.storeAt 48 (.pointer (some ⟨rb,0,none⟩)) (.agg (ao7 A B P (.slice a7 n7 c7) (.slice a8 n8 c8)))).run Tryz.prog w=(stores rb 0 (ao7 A B P (.slice a7 n7 c7) (.slice a8 n8 c8)).toList (.pure ())).run Tryz.prog w:=by kernel_rfl
 obtain⟨w',h1,h2,h3⟩:=al1 (P:=Tryz.prog) (k:=Sem.pure ()) (ao7 A B P (.slice a7 n7 c7) (.slice a8 n8 c8)).toList 0 _ w h (by simp[ao7]) (by simp[ao7,Value.oneCell'])
 refine⟨w',?_,h2,?_⟩
 ·rw[e,h1];rfl
 ·rw[h3];simp[am7,ao7]
theorem build_look (w:World) (A B P n7 c7 n8 c8:Nat) (a7 a8:Option Addr):(Instr.build 48 #[(0,.int .i64 1),(1,.int .i64 0),(2,.int .i64 0),(3,.int .i64 A),(4,.int .i64 B),(5,.int .i64 P),(6,.int .i64 0),(7,.slice a7 n7 c7),(8,.slice a8 n8 c8)]).run Tryz.prog w=.ok (.agg (ao7 A B P (.slice a7 n7 c7) (.slice a8 n8 c8))) w:=by kernel_rfl
def PhiL (base L:Nat) (img:Nat→Nat) (i:Nat) (v:Value) (W:World):Prop:=(i=38→IntsO base v L (fun i=>img i) W)∧(i=43→IntsO base v 6 (fun _=>-1) W)
section
variable (m:Nat) (w:World)
set_option maxHeartbeats 8000000 in
theorem look_calls (pb A B P ib L fb:Nat) (co:Int) (img:Nat→Nat) (hp:w.heap[pb]?=some (proc A B P ib L fb co)) (hi:Row .u16 w ib L (fun j=>img j)) (hf:Row .i64 w fb 6 (fun _=>-1)) (hL':L≤128) (hw:∀i,i<L→img i<65536) (hA:A<65536) (hB:B<65536) (hP:P<65536):
  CallsIn NF m Tryz.prog 57 #[.pointer (some ⟨pb,0,none⟩)] w fun e w'=>Keep No w w'∧∃v7 v8,e=.returned (.agg (ao7 A B P v7 v8))∧IntsO w.heap.size v7 L (fun i=>img i) w'∧IntsO w.heap.size v8 6 (fun _=>-1) w':=by
 have K1:Keep No w (w.alloc (.cells look0 48)):=(Keep.refl _ _).alloc _
 have hb1:(w.alloc (.cells look0 48)).heap[w.heap.size]?=some (.cells look0 48 (0,0)):=aa4 rfl
 have hs1:w.heap.size≤(w.alloc (.cells look0 48)).heap.size:=K1.size
 have hal:w.alloc (.cells #[.int .i64 0,.int .i64 0,.int .i64 0,.int .i64 0,.int .i64 0,.int .i64 0,.int .i64 0,.slice none 0 0,.slice none 0 0] 48)=w.alloc (.cells look0 48):=rfl
 gi_enter Tryz.func57,Tryz.ntmps57
 gi_wp2
 try rw[hal]
 generalize w.alloc (.cells look0 48)=w1 at*
 have p1:=K1.old hp id
 have c0:w1.cell? ⟨pb,0,none⟩=some (.int .i64 1):=by rw[aa0 p1];rfl
 have c1:w1.cell? ⟨pb,1,none⟩=some (.int .i64 0):=by rw[aa0 p1];rfl
 have c2:w1.cell? ⟨pb,2,none⟩=some (.bool false):=by rw[aa0 p1];rfl
 have c3:w1.cell? ⟨pb,3,none⟩=some (.int .u16 0):=by rw[aa0 p1];rfl
 have c4:w1.cell? ⟨pb,4,none⟩=some .nilFunc:=by rw[aa0 p1];rfl
 have c5:w1.cell? ⟨pb,5,none⟩=some (.int .u16 A):=by rw[aa0 p1];rfl
 have c6:w1.cell? ⟨pb,6,none⟩=some (.int .u16 B):=by rw[aa0 p1];rfl
 have c7:w1.cell? ⟨pb,7,none⟩=some (.int .u16 P):=by rw[aa0 p1];rfl
 have c8:w1.cell? ⟨pb,8,none⟩=some (.slice (some ⟨ib,0,none⟩) L L):=by rw[aa0 p1];rfl
 have c9:w1.cell? ⟨pb,9,none⟩=some (.slice (some ⟨fb,0,none⟩) 6 6):=by rw[aa0 p1];rfl
 refine aa9 (P:=Tryz.prog) No _ rfl rfl (by kernel_rfl) 44 48 [0,1,2,3,4,5,6,7,8,9,10,11,12,13,14,15,16,17,18,19,20,21,22,23,24,25,26,27,28,29,30,31,32,33,34,35,36,37,39,40,41,42] [38,43] (by kernel_rfl) (by rfl) (PhiL w1.heap.size L img)
  (fun _ _ _ _ _ h hK=>⟨fun e=>(h.1 e).keep hK fun _ _ x=>x,fun e=>(h.2 e).keep hK fun _ _ x=>x⟩) _ _ rfl rfl ?_
 gi_wp2_with (gi_at_call 55;refine(state_ready _ w1.drew pb c2 c4).mono ?_;rintro e w2 ⟨rfl,hw2⟩;have hw2:=hw2.symm;subst hw2)
 refine⟨rfl,by kernel_rfl,?_,?_,?_⟩
 ·intro W hK
  have d0:=hK.has (w:=w1.drew) c0
  have d1:=hK.has (w:=w1.drew) c1
  have d2:=hK.has (w:=w1.drew) c2
  have d3:=hK.has (w:=w1.drew) c3
  have d4:=hK.has (w:=w1.drew) c4
  have d5:=hK.has (w:=w1.drew) c5
  have d6:=hK.has (w:=w1.drew) c6
  have d7:=hK.has (w:=w1.drew) c7
  have d8:=hK.has (w:=w1.drew) c8
  have d9:=hK.has (w:=w1.drew) c9
  repeat' (refine aa8 ?_ ?_)
  all_goals first|exact trivial|gi_wp2_with (gi_at_call 55;refine(state_ready _ W pb d2 d4).mono ?_;rintro e w2 ⟨rfl,hw2⟩;have hw2:=hw2.symm;subst hw2)
 ·intro i hx u W hK hu
  have KW:Keep No w W:=K1.drew.then hK
  rcases(by simpa using hx:i=38∨i=43)with rfl|rfl
  ·refine ac4 rfl fun KK hKK=>?_
   show wpListIn NF m Tryz.prog _ _ _ (Act.put (Act.put _ (some 41) (u 38)) (some 46) (u 43)) _
   gi_wp2_with (gi_at_call 101;refine(toInts_calls _ W ib L img (hi.keep KW id) hw hL').mono ?_;rintro e w2 ⟨K2,rfl,r2⟩)
   exact⟨_,rfl,K2,fun _=>r2.intsO hK.size (by unfold maxLen;omega),fun h=>absurd h (by decide)⟩
  ·refine ac4 rfl fun KK hKK=>?_
   show wpListIn NF m Tryz.prog _ _ _ (Act.put (Act.put _ (some 41) (u 38)) (some 46) (u 43)) _
   have hc:∀j v,(List.replicate 6 (Value.int .i64 (-1)))[j]?=some v→W.cell? ((⟨fb,0,none⟩:Addr).add j)=some v:=fun j v hj=>by
    have hj6:j<6:=by
     rcases Nat.lt_or_ge j 6 with h|h
     ·exact h
     ·rw[List.getElem?_eq_none (by simpa using h)]at hj;cases hj
    rw[List.getElem?_replicate_of_lt hj6]at hj
    rw[Addr.add_lit,Nat.zero_add,←hj]
    exact(hf.keep KW id).cell hj6
   gi_wp2_with (gi_at_call 102;refine(clone_ints _ W ⟨fb,0,none⟩ 6 6 _ (by simp) hc (by simp[Value.oneCell']) (by omega)).mono ?_;rintro e w2 ⟨K2,v,rfl,r2⟩)
   refine⟨_,rfl,K2,fun h=>absurd h (by decide),fun _=>owns_intsO (af0 r2 hK.size) (by omega) (fun i hi=>List.getElem?_replicate_of_lt hi)⟩
 ·intro u W hK hu
  have KW:Keep No w W:=K1.drew.then hK
  have i7:=(hu 38 (by simp)).1 rfl
  have i8:=(hu 43 (by simp)).2 rfl
  show wpListIn NF m Tryz.prog _ _ _ (Act.put (Act.put _ (some 41) (u 38)) (some 46) (u 43)) _
  generalize u 38=v7 at*
  generalize u 43=v8 at*
  obtain⟨r7,q7,h71,h72,h73,rfl,h74⟩:=id i7.1
  obtain⟨r8,q8,h81,h82,h83,rfl,h84⟩:=id i8.1
  have hbd:=build_look W A B P L q7 6 q8 (some ⟨r7,0,none⟩) (some ⟨r8,0,none⟩)
  have hW:=hK.old (heap_drew.trans hb1) id
  obtain⟨w3,hst,K3,b3⟩:=store_look (A:=A) (B:=B) (P:=P) (n7:=L) (c7:=q7) (n8:=6) (c8:=q8) (a7:=some ⟨r7,0,none⟩) (a8:=some ⟨r8,0,none⟩) hW
  gi_wp2_with (refine af2 rfl (.tmp 2) (.tmp 47) 48 rfl rfl rfl hst ?_)
  have g0:w3.cell? ⟨w.heap.size,0,none⟩=some (.int .i64 1):=by rw[aa0 b3];rfl
  have g1:w3.cell? ⟨w.heap.size,1,none⟩=some (.int .i64 0):=by rw[aa0 b3];rfl
  have g2:w3.cell? ⟨w.heap.size,2,none⟩=some (.int .i64 0):=by rw[aa0 b3];rfl
  have g3:w3.cell? ⟨w.heap.size,3,none⟩=some (.int .i64 A):=by rw[aa0 b3];rfl
  have g4:w3.cell? ⟨w.heap.size,4,none⟩=some (.int .i64 B):=by rw[aa0 b3];rfl
  have g5:w3.cell? ⟨w.heap.size,5,none⟩=some (.int .i64 P):=by rw[aa0 b3];rfl
  have g6:w3.cell? ⟨w.heap.size,6,none⟩=some (.int .i64 0):=by rw[aa0 b3];rfl
  have g7:w3.cell? ⟨w.heap.size,7,none⟩=some (.slice (some ⟨r7,0,none⟩) L q7):=by rw[aa0 b3];rfl
  have g8:w3.cell? ⟨w.heap.size,8,none⟩=some (.slice (some ⟨r8,0,none⟩) 6 q8):=by rw[aa0 b3];rfl
  refine bodyPost_ret (v:=.agg (ao7 A B P (.slice (some ⟨r7,0,none⟩) L q7) (.slice (some ⟨r8,0,none⟩) 6 q8))) (by simp[results,Tryz.results57,go_sem,ao7,g0,g1,g2,g3,g4,g5,g6,g7,g8]) rfl ?_
  have nb:∀k,w1.heap.size≤k→¬At w.heap.size k:=fun k hk e=>by
   have e:k=w.heap.size:=e
   have:=ab2 hb1
   omega
  exact⟨KW.trans K3 (fun k hk e=>absurd (show k=w.heap.size from e) (by omega)),_,_,rfl,(i7.keep K3 nb).mono hs1,(i8.keep K3 nb).mono hs1⟩
end
theorem store_look0 {w:World} {rb:Nat} {x0 x1 x2 x3 x4 x5 x6 x7 x8:Value} (h:w.heap[rb]?=some (.cells #[x0,x1,x2,x3,x4,x5,x6,x7,x8] 48 (0,0))):∃w',(Instr.storeAt 48 (.pointer (some ⟨rb,0,none⟩)) (.agg look0)).run Tryz.prog w=.ok () w'∧Keep (At rb) w w'∧w'.heap[rb]?=some (.cells look0 48 (0,0)):=by
 have e:(Instr.storeAt 48 (.pointer (some ⟨rb,0,none⟩)) (.agg look0)).run Tryz.prog w=(stores rb 0 look0.toList (.pure ())).run Tryz.prog w:=by kernel_rfl
 obtain⟨w',h1,h2,h3⟩:=al1 (P:=Tryz.prog) (k:=Sem.pure ()) look0.toList 0 _ w h (by simp[look0]) (by simp[look0,Value.oneCell'])
 refine⟨w',?_,h2,?_⟩
 ·rw[e,h1];rfl
 ·rw[h3];simp[am7,look0]
theorem build_look0 (w:World):(Instr.build 48 #[]).run Tryz.prog w=.ok (.agg look0) w:=by kernel_rfl
section
variable (m:Nat) (w:World)
set_option maxHeartbeats 4000000 in
theorem kLook_on (b:KB) (ok:b.Ok) (fit:b.Fit) (co:Bool) (A B P:Nat) (h:b.on co A B P w):CallsIn NF m Tryz.prog 20 #[.pointer (some ⟨b.kb,0,none⟩),.int .i64 1] w fun e w'=>Keep No w w'∧∃v7 v8,e=.returned (.tuple #[.agg (ao7 A B P v7 v8),.int .i64 0])∧IntsO w.heap.size v7 b.L (fun i=>b.img i) w'∧IntsO w.heap.size v8 6 (fun _=>-1) w':=by
 obtain⟨ks,prs,x0,x1,h⟩:=h
 have K1:Keep No w (w.alloc (.cells look0 48)):=(Keep.refl _ _).alloc _
 have hb1:(w.alloc (.cells look0 48)).heap[w.heap.size]?=some (.cells look0 48 (0,0)):=aa4 rfl
 have hs1:w.heap.size≤(w.alloc (.cells look0 48)).heap.size:=K1.size
 have hal:w.alloc (.cells #[.int .i64 0,.int .i64 0,.int .i64 0,.int .i64 0,.int .i64 0,.int .i64 0,.int .i64 0,.slice none 0 0,.slice none 0 0] 48)=w.alloc (.cells look0 48):=rfl
 gi_enter Tryz.func20,Tryz.ntmps20
 gi_wp2_with fail
 try rw[hal]
 generalize w.alloc (.cells look0 48)=w1 at*
 have h1:=h.keep K1 (fun _ _ x=>x)
 have c2:w1.cell? ⟨b.kb,2,none⟩=some (.slice (some ⟨b.prb,0,none⟩) 1 b.pc):=(aa0 h1.k 2).trans h1.k2
 have r0:w1.cell? ⟨b.prb,0,none⟩=some (.pointer (some ⟨b.pb,0,none⟩)):=(aa0 h1.r 0).trans h1.r0
 have p0:w1.cell? ⟨b.pb,0,none⟩=some (.int .i64 1):=by rw[aa0 h1.p];rfl
 refine(find_hit _ w1 b.kb b.prb b.pb b.pc c2 r0 p0).mono ?_
 rintro e w2 ⟨rfl,hw⟩
 have hw:=hw.symm
 subst hw
 gi_wp2_with fail
 refine(look_calls _ w1 b.pb A B P b.ib b.L b.fb _ b.img h1.p h1.i.row h1.f.row ok.L2 fit h1.a h1.bb h1.pp).mono ?_
 rintro e w2 ⟨K2,v7,v8,rfl,i7,i8⟩
 obtain⟨r7,q7,h71,h72,h73,rfl,h74⟩:=id i7.1
 obtain⟨r8,q8,h81,h82,h83,rfl,h84⟩:=id i8.1
 have hW:=K2.old hb1 id
 obtain⟨w3,hst,K3,b3⟩:=store_look (A:=A) (B:=B) (P:=P) (n7:=b.L) (c7:=q7) (n8:=6) (c8:=q8) (a7:=some ⟨r7,0,none⟩) (a8:=some ⟨r8,0,none⟩) hW
 gi_wp2_with (refine af2 rfl (.tmp 4) (.tmp 14) 48 rfl rfl rfl hst ?_)
 have g0:w3.cell? ⟨w.heap.size,0,none⟩=some (.int .i64 1):=by rw[aa0 b3];rfl
 have g1:w3.cell? ⟨w.heap.size,1,none⟩=some (.int .i64 0):=by rw[aa0 b3];rfl
 have g2:w3.cell? ⟨w.heap.size,2,none⟩=some (.int .i64 0):=by rw[aa0 b3];rfl
 have g3:w3.cell? ⟨w.heap.size,3,none⟩=some (.int .i64 A):=by rw[aa0 b3];rfl
 have g4:w3.cell? ⟨w.heap.size,4,none⟩=some (.int .i64 B):=by rw[aa0 b3];rfl
 have g5:w3.cell? ⟨w.heap.size,5,none⟩=some (.int .i64 P):=by rw[aa0 b3];rfl
 have g6:w3.cell? ⟨w.heap.size,6,none⟩=some (.int .i64 0):=by rw[aa0 b3];rfl
 have g7:w3.cell? ⟨w.heap.size,7,none⟩=some (.slice (some ⟨r7,0,none⟩) b.L q7):=by rw[aa0 b3];rfl
 have g8:w3.cell? ⟨w.heap.size,8,none⟩=some (.slice (some ⟨r8,0,none⟩) 6 q8):=by rw[aa0 b3];rfl
 refine bodyPost_ret (v:=.tuple #[.agg (ao7 A B P (.slice (some ⟨r7,0,none⟩) b.L q7) (.slice (some ⟨r8,0,none⟩) 6 q8)),.int .i64 0]) (by simp[results,Tryz.results20,go_sem,ao7,g0,g1,g2,g3,g4,g5,g6,g7,g8]) rfl ?_
 have nb:∀k,w1.heap.size≤k→¬Go.Fxa.At w.heap.size k:=fun k hk e=>by
  have e:k=w.heap.size:=e
  have:=ab2 hb1
  omega
 exact⟨(K1.then K2).trans K3 (fun k hk e=>absurd (show k=w.heap.size from e) (by omega)),_,_,rfl,(i7.keep K3 nb).mono hs1,(i8.keep K3 nb).mono hs1⟩
theorem kfind_no (b:KB) (pid:Int) (h:(∃co A B P,b.on co A B P w)∧pid≠1∨b.off w):CallsIn NF m Tryz.prog 54 #[.pointer (some ⟨b.kb,0,none⟩),.int .i64 pid] w fun e w'=>e=.returned (.pointer none)∧w'=w:=by
 rcases h with⟨⟨co,A,B,P,ks,prs,x0,x1,h⟩,hp⟩|⟨ks,a,c,h1,h2⟩
 ·exact find_miss m w b.kb b.prb b.pb b.pc pid hp ((aa0 h.k 2).trans h.k2) ((aa0 h.r 0).trans h.r0) (by rw[aa0 h.p];rfl)
 ·exact find_none m w b.kb c a pid ((aa0 h1 2).trans h2)
set_option maxHeartbeats 4000000 in
theorem kLook_no (b:KB) (pid:Int) (h:(∃co A B P,b.on co A B P w)∧pid≠1∨b.off w):CallsIn NF m Tryz.prog 20 #[.pointer (some ⟨b.kb,0,none⟩),.int .i64 pid] w fun e w'=>Keep No w w'∧e=.returned (.tuple #[.agg look0,.int .i64 2]):=by
 have K1:Keep No w (w.alloc (.cells look0 48)):=(Keep.refl _ _).alloc _
 have hb1:(w.alloc (.cells look0 48)).heap[w.heap.size]?=some (.cells look0 48 (0,0)):=aa4 rfl
 have hal:w.alloc (.cells #[.int .i64 0,.int .i64 0,.int .i64 0,.int .i64 0,.int .i64 0,.int .i64 0,.int .i64 0,.slice none 0 0,.slice none 0 0] 48)=w.alloc (.cells look0 48):=rfl
 have h1:(∃co A B P,b.on co A B P (w.alloc (.cells look0 48)))∧pid≠1∨b.off (w.alloc (.cells look0 48)):=by
  rcases h with⟨⟨co,A,B,P,h⟩,hp⟩|h
  ·exact .inl ⟨⟨co,A,B,P,h.keep K1 fun _ _ x=>x⟩,hp⟩
  ·exact .inr (h.keep K1 id)
 gi_enter Tryz.func20,Tryz.ntmps20
 gi_wp2_with fail
 try rw[hal]
 generalize w.alloc (.cells look0 48)=w1 at*
 refine(kfind_no _ w1 b pid h1).mono ?_
 rintro e w2 ⟨rfl,hw⟩
 have hw:=hw.symm
 subst hw
 have hbd:=build_look0 w1
 obtain⟨w3,hst,K3,b3⟩:=store_look0 hb1
 clear hal
 gi_wp2_with (refine af2 rfl (.tmp 4) (.tmp 12) 48 rfl rfl rfl hst ?_)
 have g0:w3.cell? ⟨w.heap.size,0,none⟩=some (.int .i64 0):=by rw[aa0 b3];rfl
 have g1:w3.cell? ⟨w.heap.size,1,none⟩=some (.int .i64 0):=by rw[aa0 b3];rfl
 have g2:w3.cell? ⟨w.heap.size,2,none⟩=some (.int .i64 0):=by rw[aa0 b3];rfl
 have g3:w3.cell? ⟨w.heap.size,3,none⟩=some (.int .i64 0):=by rw[aa0 b3];rfl
 have g4:w3.cell? ⟨w.heap.size,4,none⟩=some (.int .i64 0):=by rw[aa0 b3];rfl
 have g5:w3.cell? ⟨w.heap.size,5,none⟩=some (.int .i64 0):=by rw[aa0 b3];rfl
 have g6:w3.cell? ⟨w.heap.size,6,none⟩=some (.int .i64 0):=by rw[aa0 b3];rfl
 have g7:w3.cell? ⟨w.heap.size,7,none⟩=some (.slice none 0 0):=by rw[aa0 b3];rfl
 have g8:w3.cell? ⟨w.heap.size,8,none⟩=some (.slice none 0 0):=by rw[aa0 b3];rfl
 refine bodyPost_ret (v:=.tuple #[.agg look0,.int .i64 2]) (by simp[results,Tryz.results20,go_sem,look0,g0,g1,g2,g3,g4,g5,g6,g7,g8]) rfl ?_
 exact⟨K1.trans K3 (fun k hk e=>absurd (show k=w.heap.size from e) (by omega)),rfl⟩
end
theorem build_look3 (w:World):(Instr.build 48 #[(0,.int .i64 1),(1,.int .i64 0),(2,.int .i64 0)]).run Tryz.prog w=.ok (.agg (ao7 0 0 0 (.slice none 0 0) (.slice none 0 0))) w:=by kernel_rfl
def Phi9 (base:Nat) (_i:Nat) (v:Value) (W:World):Prop:=∃lb,base≤lb∧v=.pointer (some ⟨lb,0,none⟩)∧W.heap[lb]?=some (.cells look0 48 (0,0))
def Phi8 (base:Nat) (_i:Nat) (v:Value) (W:World):Prop:=∃vb,base≤vb∧v=.slice (some ⟨vb,0,none⟩) 1 1∧W.heap[vb]?=some (.cells #[.int .i64 (-1)] 3 (0,0))
structure LookI (w:World) (lb A B P base8:Nat) (v7 v8:Value) (k:Nat) (wr:World):Prop where
 blk:wr.heap[lb]?=some (.cells (ao7 A B P v7 v8) 48 (0,0))
 keep:Keep No w wr
 own:wr.ownsRow base8 3 1 v8 k (List.replicate k (.int .i64 (-1)))
 le:base8≤wr.heap.size
 one:∃a n c,v8=.slice a n c
def LookR (w:World) (b:QB) (lb A B P r7 q7 base8:Nat) (i:Value) (wr:World):Prop:=
 ∃(k:Nat) (v8:Value),k≤6∧i=.int .i64 k∧LookI w lb A B P base8 (.slice (some ⟨r7,0,none⟩) b.L q7) v8 k wr∧(∀i,i<b.L→wr.cell? ⟨r7,i,none⟩=some (.int .i64 (b.img i)))∧wr.heap[w.heap.size]?=some (.cells look0 48 (0,0))
section
variable (m:Nat) (w:World)
set_option maxHeartbeats 8000000 in
theorem rLook_on (b:QB) (ok:b.Ok) (co:Bool) (A B P:Nat) (h:b.on co A B P w):CallsIn NF m Tryz.prog 85 #[.pointer (some ⟨b.rb,0,none⟩),.int .i64 1] w fun e w'=>Keep No w w'∧∃v7 v8,e=.returned (.tuple #[.agg (ao7 A B P v7 v8),.int .i64 0])∧Ints w.heap.size v7 b.L (fun i=>b.img i) w'∧Ints w.heap.size v8 6 (fun _=>-1) w':=by
 obtain⟨⟨hA,hB,hP⟩,told0,ks,qs,fc,fs,h,hI,hc⟩:=h
 obtain⟨i0,hi0,hz0,hz1,hz2⟩:=info_parts info3
 have L2:=ok.L2
 have K1:Keep No w (w.alloc (.cells look0 48)):=(Keep.refl _ _).alloc _
 have hb1:(w.alloc (.cells look0 48)).heap[w.heap.size]?=some (.cells look0 48 (0,0)):=aa4 rfl
 have hs1:w.heap.size≤(w.alloc (.cells look0 48)).heap.size:=K1.size
 have hal:w.alloc (.cells #[.int .i64 0,.int .i64 0,.int .i64 0,.int .i64 0,.int .i64 0,.int .i64 0,.int .i64 0,.slice none 0 0,.slice none 0 0] 48)=w.alloc (.cells look0 48):=rfl
 gi_enter Tryz.func85,Tryz.ntmps85
 gi_wp2_with fail
 try rw[hal]
 generalize w.alloc (.cells look0 48)=w1 at*
 clear hal
 have h1:=h.keep K1 (fun _ _ x=>x)
 have c2:w1.cell? ⟨b.rb,2,none⟩=some (.slice (some ⟨b.qrb,0,none⟩) 1 b.qc):=(aa0 h1.k 2).trans h1.k2
 have q0:w1.cell? ⟨b.qrb,0,none⟩=some (.pointer (some ⟨b.qb,0,none⟩)):=(aa0 h1.q 0).trans h1.q0
 have p0:w1.cell? ⟨b.qb,0,none⟩=some (.bool true):=by rw[aa0 h1.p];rfl
 have p1:w1.cell? ⟨b.qb,1,none⟩=some (.bool false):=by rw[aa0 h1.p];rfl
 have p2:w1.cell? ⟨b.qb,2,none⟩=some (.bool false):=by rw[aa0 h1.p];rfl
 have p4:w1.cell? ⟨b.qb,4,none⟩=some (.int .i64 0):=by rw[aa0 h1.p];rfl
 refine(rfind_one _ w1 b.rb b.qrb b.qb b.qc true c2 q0 p0).mono ?_
 rintro e w2 ⟨rfl,hw⟩
 have hw:=hw.symm
 subst hw
 simp only[if_true]
 gi_wp2
 have hbd:=build_look3 w1.drew
 refine aa9 (P:=Tryz.prog) No _ rfl rfl (by kernel_rfl) 10 73 [0,1,2,3,4,5,6,7,8] [9] (by kernel_rfl) (by rfl) (Phi9 w1.heap.size)
  (fun _ _ _ _ _ h hK=>let ⟨lb,x1,x2,x3⟩:=h;⟨lb,x1,x2,hK.old x3 id⟩) _ _ rfl rfl ?_
 gi_wp2_with (gi_at_call 72;refine(rstate_ready _ w1.drew b.rb b.qb p1 p2).mono ?_;rintro e w2 ⟨rfl,hw2⟩;have hw2:=hw2.symm;subst hw2)
 refine⟨rfl,by kernel_rfl,?_,?_,?_⟩
 ·intro W hK
  have d1:=hK.has (w:=w1.drew) p1
  have d2:=hK.has (w:=w1.drew) p2
  have d4:=hK.has (w:=w1.drew) p4
  have hbd:=build_look3 W
  repeat' (refine aa8 ?_ ?_)
  all_goals first|exact trivial|gi_wp2_with (gi_at_call 72;refine(rstate_ready _ W b.rb b.qb d1 d2).mono ?_;rintro e w2 ⟨rfl,hw2⟩;have hw2:=hw2.symm;subst hw2)
 ·intro i hx u W hK hu
  obtain rfl:i=9:=by simpa using hx
  refine ac4 rfl fun KK hKK=>?_
  show wpListIn NF m Tryz.prog _ _ _ (Act.put _ (some 7) (u 9)) _
  gi_wp2
  exact⟨_,rfl,(Keep.refl _ _).alloc _,_,hK.size,rfl,aa4 rfl⟩
 intro u W hK hu
 obtain⟨lb,hlb,hv,hb2⟩:=hu 9 (by simp)
 show wpListIn NF m Tryz.prog _ _ _ (Act.put _ (some 7) (u 9)) _
 rw[hv]
 have KW:Keep No w W:=K1.drew.then hK
 have bW:=hK.old (heap_drew.trans hb1) id
 have w1lt:=ab2 hb1
 have W1:w1.heap.size≤W.heap.size:=hK.size
 obtain⟨w2,hst,K2,b2⟩:=store_look (A:=0) (B:=0) (P:=0) (n7:=0) (c7:=0) (n8:=0) (c8:=0) (a7:=none) (a8:=none) hb2
 have hst:(Instr.storeAt 48 (.pointer (some ⟨lb,0,none⟩)) (.agg #[.int .i64 1,.int .i64 0,.int .i64 0,.int .i64 0,.int .i64 0,.int .i64 0,.int .i64 0,.slice none 0 0,.slice none 0 0])).run Tryz.prog W=.ok () w2:=hst
 have lbne:∀k,k<w1.heap.size→¬Go.Fxa.At lb k:=fun k hk e=>by have e:k=lb:=e;omega
 have KK2:Keep No w w2:=KW.trans K2 (fun k hk e=>absurd e (lbne k (by omega)))
 have bt2:=K2.old bW (lbne _ w1lt)
 clear c2 q0 p0 p1 p2 p4 hbd K2 hK hu hv
 refine af2 rfl (.tmp 7) (.tmp 23) 48 rfl rfl rfl hst ?_
 have A2:=h.keep KK2 (fun _ _ x=>x)
 have I2:=hI.keep KK2 (fun x=>x)
 have lq:=ab2 h.p
 have qne:b.qb≠lb:=by omega
 clear hc h1 KW K1 bW hst hb2
 have e1:w2.cell? ⟨b.qb,1,none⟩=some (.bool false):=by rw[aa0 A2.p];rfl
 have e5:w2.cell? ⟨b.qb,5,none⟩=some (.int .i64 A):=by rw[aa0 A2.p];rfl
 have l3:w2.cell? ⟨lb,3,none⟩=some (.int .i64 (0:Nat)):=by rw[aa0 b2];rfl
 have f3:=ab3 b2 3
 have ba:=aa2 (i:=3) b2 (.int .i64 A)
 have Ka:Keep (Go.Fxa.At lb) w2 (w2.setCell ⟨lb,3,none⟩ (.int .i64 A)):=Keep.set1 _
 have pa:=Ka.old A2.p (fun e=>qne e)
 have e6:(w2.setCell ⟨lb,3,none⟩ (.int .i64 A)).cell? ⟨b.qb,6,none⟩=some (.int .i64 B):=by rw[aa0 pa];rfl
 have l4:(w2.setCell ⟨lb,3,none⟩ (.int .i64 A)).cell? ⟨lb,4,none⟩=some (.int .i64 (0:Nat)):=by rw[aa0 ba];rfl
 have f4:=ab3 ba 4
 have bb:=aa2 (i:=4) ba (.int .i64 B)
 have Kb:Keep (Go.Fxa.At lb) (w2.setCell ⟨lb,3,none⟩ (.int .i64 A)) ((w2.setCell ⟨lb,3,none⟩ (.int .i64 A)).setCell ⟨lb,4,none⟩ (.int .i64 B)):=Keep.set1 _
 have pb:=Kb.old pa (fun e=>qne e)
 have e7:((w2.setCell ⟨lb,3,none⟩ (.int .i64 A)).setCell ⟨lb,4,none⟩ (.int .i64 B)).cell? ⟨b.qb,7,none⟩=some (.int .i64 P):=by rw[aa0 pb];rfl
 have l5:((w2.setCell ⟨lb,3,none⟩ (.int .i64 A)).setCell ⟨lb,4,none⟩ (.int .i64 B)).cell? ⟨lb,5,none⟩=some (.int .i64 (0:Nat)):=by rw[aa0 bb];rfl
 have f5:=ab3 bb 5
 gi_wp2
 have K3:Keep (Go.Fxa.At lb) w2 (((w2.setCell ⟨lb,3,none⟩ (.int .i64 A)).setCell ⟨lb,4,none⟩ (.int .i64 B)).setCell ⟨lb,5,none⟩ (.int .i64 P)):=(Ka.then Kb).setCell _ (fun _=>rfl)
 have b3:(((w2.setCell ⟨lb,3,none⟩ (.int .i64 A)).setCell ⟨lb,4,none⟩ (.int .i64 B)).setCell ⟨lb,5,none⟩ (.int .i64 P)).heap[lb]?=some (.cells (ao7 A B P (.slice none 0 0) (.slice none 0 0)) 48 (0,0)):=(aa2 (i:=5) bb (.int .i64 P)).trans rfl
 generalize ((w2.setCell ⟨lb,3,none⟩ (.int .i64 A)).setCell ⟨lb,4,none⟩ (.int .i64 B)).setCell ⟨lb,5,none⟩ (.int .i64 P)=w3 at*
 have KK3:Keep No w w3:=KK2.trans K3 (fun k hk e=>absurd e (lbne k (by omega)))
 have A3:=h.keep KK3 (fun _ _ x=>x)
 have I3:=hI.keep KK3 (fun x=>x)
 have bt3:=K3.old bt2 (lbne _ w1lt)
 clear e1 e5 l3 f3 ba Ka pa e6 l4 f4 bb Kb pb e7 l5 f5 A2 I2 bt2 KK2 K3 b2
 have l7:w3.cell? ⟨lb,7,none⟩=some (.slice none 0 0):=by rw[aa0 b3];rfl
 have q8:w3.cell? ⟨b.qb,8,none⟩=some (.slice (some ⟨b.qi,0,none⟩) b.L b.ic):=by rw[aa0 A3.p];rfl
 refine aa9 (P:=Tryz.prog) No _ rfl rfl (by kernel_rfl) 6 73 [0,1,2,3,4,5] [] (by kernel_rfl) (by rfl) (fun _ _ _=>True) (fun _ _ _ _ _ h _=>h) _ _ rfl rfl ?_
 gi_wp2
 refine⟨rfl,by kernel_rfl,?_,(fun i hi=>absurd hi (by simp)),?_⟩
 ·intro V hK
  have d7:=hK.has (w:=w3.drew) l7
  have d8:=hK.has (w:=w3.drew) q8
  repeat' (refine aa8 ?_ ?_)
  all_goals first|exact trivial|gi_wp2
 intro u4 V hV _
 simp only[putS]
 have KV:Keep No w3 V:=(Keep.refl No w3).drew.then hV
 have IV:=I3.keep KV (fun x=>x)
 have bV:=KV.old b3 id
 have hcell:∀q u,((List.range b.L).map fun i=>Value.int .i64 (b.img i))[q]?=some u→V.cell? ((⟨b.qi,0,none⟩:Addr).add q)=some u:=fun q u hq=>by
  have hq6:q<b.L:=by
   rcases Nat.lt_or_ge q b.L with h|h
   ·exact h
   ·rw[List.getElem?_eq_none (by simpa using h)]at hq;cases hq
  rw[Addr.add_lit,Nat.zero_add,IV.c q hq6]
  simpa [hq6]using hq
 clear l7 q8
 gi_wp2_with (gi_at_builtin;refine wpListIn_append_own _ rfl (.tmp 50) (.tmp 54) 22 rfl w3.heap.size 3 i0 (.int .i64 0) 1 8 Tryz.underlying22 hi0 hz0 hz1 hz2 rfl (by decide) (.slice none 0 0) 0 [] rfl (World.ownsRow_nil _ _ _ _) ⟨b.qi,0,none⟩ b.L b.ic ((List.range b.L).map fun i=>Value.int .i64 (b.img i)) rfl (by simp) hcell (by simp[Value.oneCell']) (by unfold maxLen;omega) (by omega) KV.size ?_;intro v' w4 hown hgrow _;have K4:Keep No V w4:=(ae7 hgrow fun k hk _=>hk).mono (fun k _ e=>by cases e);have i7:=owns_ints (f:=fun i=>(b.img i:Int)) (by simpa using hown) ok.L1 (fun i hi=>by simp[hi]);obtain⟨r7,q7,h71,h72,h73,rfl,h74⟩:=i7;have b4:=K4.old bV id;have l7:w4.cell? ⟨lb,7,none⟩=some (.slice none 0 0):=(by rw[aa0 b4];rfl);have f7:=ab3 b4 7;clear hown hgrow)
 have K5:Keep (Go.Fxa.At lb) w4 (w4.setCell ⟨lb,7,none⟩ (.slice (some ⟨r7,0,none⟩) b.L q7)):=Keep.set1 _
 have b5:(w4.setCell ⟨lb,7,none⟩ (.slice (some ⟨r7,0,none⟩) b.L q7)).heap[lb]?=some (.cells (ao7 A B P (.slice (some ⟨r7,0,none⟩) b.L q7) (.slice none 0 0)) 48 (0,0)):=(aa2 (i:=7) b4 _).trans rfl
 have KK5:Keep No w (w4.setCell ⟨lb,7,none⟩ (.slice (some ⟨r7,0,none⟩) b.L q7)):=((KK3.then KV).then K4).trans K5 (fun k hk e=>absurd e (lbne k (by omega)))
 have bt5:=K5.old (K4.old (KV.old bt3 id) id) (lbne _ w1lt)
 have lb3:=ab2 b3
 have c75:∀i,i<b.L→(w4.setCell ⟨lb,7,none⟩ (.slice (some ⟨r7,0,none⟩) b.L q7)).cell? ⟨r7,i,none⟩=some (.int .i64 (b.img i)):=fun i hi=>(K5.cell (p:=⟨r7,i,none⟩) h72 (fun e=>by have e:r7=lb:=e;omega)).trans (h74 i hi)
 have h75:r7<(w4.setCell ⟨lb,7,none⟩ (.slice (some ⟨r7,0,none⟩) b.L q7)).heap.size:=Nat.lt_of_lt_of_le h72 K5.size
 generalize w4.setCell ⟨lb,7,none⟩ (.slice (some ⟨r7,0,none⟩) b.L q7)=w5 at*
 have lb5:=ab2 b5
 clear l7 f7 K5 b4 h74 h72 K4 KV IV bV hcell bt3 b3 A3 I3 KK3 hV
 gi_loopw [8] (LookR w b lb A B P r7 q7 w5.heap.size) (fun i _=>6-(intOf i).toNat)
 case atStart=>exact⟨0,_,by omega,rfl,⟨b5,KK5,World.ownsRow_nil _ _ _ _,Nat.le_refl _,_,_,_,rfl⟩,c75,bt5⟩
 case round=>
  clear b5 KK5 bt5 c75
  obtain⟨k,v8,hk,rfl,I,c7,bt⟩:=hrel
  obtain⟨a8,n8,q8,rfl⟩:=I.one
  have Ar:=h.keep I.keep (fun _ _ x=>x)
  by_cases hlt:k<6
  ·have l8:wr.cell? ⟨lb,8,none⟩=some (.slice a8 n8 q8):=by rw[aa0 I.blk];rfl
   have d9:wr.cell? ⟨b.qb,9+k,none⟩=some (.int .i64 (-1)):=by
    rw[aa0 Ar.p]
    match k,hlt with
    | 0,_=>rfl
    | 1,_=>rfl
    | 2,_=>rfl
    | 3,_=>rfl
    | 4,_=>rfl
    | 5,_=>rfl
   gi_wp2
   refine aa9 (P:=Tryz.prog) No _ rfl rfl (by kernel_rfl) 9 73 [0,1,2,3,4,5,6,7] [8] (by kernel_rfl) (by rfl) (Phi8 wr.heap.size)
    (fun _ _ _ _ _ h hK=>let ⟨vb,x1,x2,x3⟩:=h;⟨vb,x1,x2,hK.old x3 id⟩) _ _ rfl rfl ?_
   gi_wp2
   refine⟨rfl,by kernel_rfl,?_,?_,?_⟩
   ·intro V hK
    have e8:=hK.has (w:=wr.drew) l8
    have e9:=hK.has (w:=wr.drew) d9
    repeat' (refine aa8 ?_ ?_)
    all_goals first|exact trivial|gi_wp2
   ·intro i hx u V hK hu
    obtain rfl:i=8:=by simpa using hx
    refine ac4 rfl fun KK hKK=>?_
    show wpListIn NF m Tryz.prog _ _ _ (Act.put _ (some 69) (u 8)) _
    gi_wp2
    exact⟨_,rfl,(Keep.refl _ _).alloc _,_,hK.size,rfl,aa4 rfl⟩
   intro u6 V hV hu
   obtain⟨vb,hvb,hv,hb8⟩:=hu 8 (by simp)
   show wpListIn NF m Tryz.prog _ _ _ (Act.put _ (some 69) (u6 8)) _
   rw[hv]
   have KV:Keep No wr V:=(Keep.refl No wr).drew.then hV
   have bV:=KV.old I.blk id
   have oV:V.ownsRow w5.heap.size 3 1 (.slice a8 n8 q8) k (List.replicate k (.int .i64 (-1))):=ad1 I.own KV (fun _ _ x=>x)
   have hcell:∀q u,([.int .i64 (-1)]:List Value)[q]?=some u→V.cell? ((⟨vb,0,none⟩:Addr).add q)=some u:=fun q u hq=>by
    match q,hq with
    | 0,hq=>
     rw[Addr.add_lit]
     refine(aa0 hb8 0).trans ?_
     simpa using hq
   have own8:∀x,(Value.slice a8 n8 q8).ownBlock=some x→w5.heap.size≤x:=fun x hx=>(World.ownsRow.lt oV x hx).1
   clear l8 d9 hu hv
   gi_wp2_with (gi_at_builtin;refine wpListIn_append_own _ rfl (.tmp 62) (.tmp 69) 22 rfl w5.heap.size 3 i0 (.int .i64 0) 1 8 Tryz.underlying22 hi0 hz0 hz1 hz2 rfl (by decide) (.slice a8 n8 q8) k (List.replicate k (.int .i64 (-1))) rfl oV ⟨vb,0,none⟩ 1 1 [.int .i64 (-1)] rfl (by simp) hcell (by simp[Value.oneCell']) (by unfold maxLen;omega) (by omega) (Nat.le_trans I.le KV.size) ?_;intro v' w4 hown hgrow _;have K4:Keep (fun x=>w5.heap.size≤x) V w4:=ae7 hgrow (fun x hx _=>own8 x hx);have o4:w4.ownsRow w5.heap.size 3 1 v' (k+1) (List.replicate (k+1) (.int .i64 (-1))):=(by rw[List.replicate_succ'];exact hown);have s4:∃a n c,v'=.slice a n c:=(by rcases o4.2 with⟨rfl,_⟩|⟨g,cap,cur,rfl,_⟩<;>exact⟨_,_,_,rfl⟩);obtain⟨a9,n9,q9,rfl⟩:=s4;have b4:=K4.old bV (by omega);have l8:w4.cell? ⟨lb,8,none⟩=some (.slice a8 n8 q8):=(by rw[aa0 b4];rfl);have f8:=ab3 b4 8;clear hown hgrow)
   have K6:Keep (Go.Fxa.At lb) w4 (w4.setCell ⟨lb,8,none⟩ (.slice a9 n9 q9)):=Keep.set1 _
   have b6:(w4.setCell ⟨lb,8,none⟩ (.slice a9 n9 q9)).heap[lb]?=some (.cells (ao7 A B P (.slice (some ⟨r7,0,none⟩) b.L q7) (.slice a9 n9 q9)) 48 (0,0)):=(aa2 (i:=8) b4 _).trans rfl
   have sz5:w.heap.size≤w5.heap.size:=by omega
   go_roundw
   case rel=>
    refine⟨k+1,_,by omega,by go_num,⟨b6,((I.keep.then KV).trans K4 (fun x hx e=>by omega)).trans K6 (fun x hx e=>absurd e (lbne x (by omega))),ad1 o4 K6 (fun x hx e=>by have e:x=lb:=e;omega),Nat.le_trans (Nat.le_trans I.le KV.size) (Nat.le_trans K4.size K6.size),_,_,_,rfl⟩,fun i hi=>?_,?_⟩
    ·have x1:=KV.has (c7 i hi)
     have x2:=(K4.cell (p:=⟨r7,i,none⟩) (World.block_lt_of_cell? _ _ x1) (by show ¬w5.heap.size≤r7;omega)).trans x1
     exact(K6.cell (p:=⟨r7,i,none⟩) (World.block_lt_of_cell? _ _ x2) (fun e=>by have e:r7=lb:=e;omega)).trans x2
    ·exact K6.old (K4.old (KV.old bt id) (by show ¬w5.heap.size≤w.heap.size;omega)) (lbne _ w1lt)
   case measure=>simp[intOf];omega
  ·obtain rfl:k=6:=by omega
   have i8:=owns_ints (f:=fun _=>-1) I.own (by omega) (fun i hi=>List.getElem?_replicate_of_lt hi)
   obtain⟨r8,q8,h81,h82,h83,e8,h84⟩:=id i8
   cases e8
   have g0:wr.cell? ⟨lb,0,none⟩=some (.int .i64 1):=by rw[aa0 I.blk];rfl
   have g1:wr.cell? ⟨lb,1,none⟩=some (.int .i64 0):=by rw[aa0 I.blk];rfl
   have g2:wr.cell? ⟨lb,2,none⟩=some (.int .i64 0):=by rw[aa0 I.blk];rfl
   have g3:wr.cell? ⟨lb,3,none⟩=some (.int .i64 A):=by rw[aa0 I.blk];rfl
   have g4:wr.cell? ⟨lb,4,none⟩=some (.int .i64 B):=by rw[aa0 I.blk];rfl
   have g5:wr.cell? ⟨lb,5,none⟩=some (.int .i64 P):=by rw[aa0 I.blk];rfl
   have g6:wr.cell? ⟨lb,6,none⟩=some (.int .i64 0):=by rw[aa0 I.blk];rfl
   have g7:wr.cell? ⟨lb,7,none⟩=some (.slice (some ⟨r7,0,none⟩) b.L q7):=by rw[aa0 I.blk];rfl
   have g8:wr.cell? ⟨lb,8,none⟩=some (.slice (some ⟨r8,0,none⟩) 6 q8):=by rw[aa0 I.blk];rfl
   obtain⟨w7,hst,K7,b7⟩:=store_look (A:=A) (B:=B) (P:=P) (n7:=b.L) (c7:=q7) (n8:=6) (c8:=q8) (a7:=some ⟨r7,0,none⟩) (a8:=some ⟨r8,0,none⟩) bt
   have hst:(Instr.storeAt 48 (.pointer (some ⟨w.heap.size,0,none⟩)) (.agg #[.int .i64 1,.int .i64 0,.int .i64 0,.int .i64 A,.int .i64 B,.int .i64 P,.int .i64 0,.slice (some ⟨r7,0,none⟩) b.L q7,.slice (some ⟨r8,0,none⟩) 6 q8])).run Tryz.prog wr=.ok () w7:=hst
   gi_wp2_with (refine af2 rfl (.tmp 4) (.tmp 72) 48 rfl rfl rfl hst ?_)
   have k0:w7.cell? ⟨w.heap.size,0,none⟩=some (.int .i64 1):=by rw[aa0 b7];rfl
   have k1:w7.cell? ⟨w.heap.size,1,none⟩=some (.int .i64 0):=by rw[aa0 b7];rfl
   have k2:w7.cell? ⟨w.heap.size,2,none⟩=some (.int .i64 0):=by rw[aa0 b7];rfl
   have k3:w7.cell? ⟨w.heap.size,3,none⟩=some (.int .i64 A):=by rw[aa0 b7];rfl
   have k4:w7.cell? ⟨w.heap.size,4,none⟩=some (.int .i64 B):=by rw[aa0 b7];rfl
   have k5:w7.cell? ⟨w.heap.size,5,none⟩=some (.int .i64 P):=by rw[aa0 b7];rfl
   have k6:w7.cell? ⟨w.heap.size,6,none⟩=some (.int .i64 0):=by rw[aa0 b7];rfl
   have k7:w7.cell? ⟨w.heap.size,7,none⟩=some (.slice (some ⟨r7,0,none⟩) b.L q7):=by rw[aa0 b7];rfl
   have k8:w7.cell? ⟨w.heap.size,8,none⟩=some (.slice (some ⟨r8,0,none⟩) 6 q8):=by rw[aa0 b7];rfl
   refine bodyPost_ret (v:=.tuple #[.agg (ao7 A B P (.slice (some ⟨r7,0,none⟩) b.L q7) (.slice (some ⟨r8,0,none⟩) 6 q8)),.int .i64 0]) (by simp[results,Tryz.results85,go_sem,ao7,k0,k1,k2,k3,k4,k5,k6,k7,k8]) rfl ?_
   have nb:∀k,w1.heap.size≤k→¬Go.Fxa.At w.heap.size k:=fun k hk e=>by have e:k=w.heap.size:=e;omega
   have x7:Ints w1.heap.size (.slice (some ⟨r7,0,none⟩) b.L q7) b.L (fun i=>b.img i) wr:=⟨r7,q7,by omega,Nat.lt_of_lt_of_le h75 I.le,h73,rfl,c7⟩
   exact⟨I.keep.trans K7 (fun k hk e=>absurd (show k=w.heap.size from e) (by omega)),_,_,rfl,(x7.keep K7 nb).mono hs1,((i8.mono (by omega)).keep K7 nb).mono hs1⟩
end
section
variable (m:Nat) (w:World)
theorem QB.has.keep {b:QB} {th:Bool} {w w':World} (h:b.has th w) (hK:Keep No w w'):b.has th w':=⟨hK.has h.1,hK.has h.2.1,hK.has h.2.2⟩
set_option maxHeartbeats 4000000 in
theorem rLook_no (b:QB) (th:Bool) (pid:Int) (h:b.has th w) (hp:th=false∨pid≠1):CallsIn NF m Tryz.prog 85 #[.pointer (some ⟨b.rb,0,none⟩),.int .i64 pid] w fun e w'=>Keep No w w'∧e=.returned (.tuple #[.agg look0,.int .i64 2]):=by
 have K1:Keep No w (w.alloc (.cells look0 48)):=(Keep.refl _ _).alloc _
 have hb1:(w.alloc (.cells look0 48)).heap[w.heap.size]?=some (.cells look0 48 (0,0)):=aa4 rfl
 have hal:w.alloc (.cells #[.int .i64 0,.int .i64 0,.int .i64 0,.int .i64 0,.int .i64 0,.int .i64 0,.int .i64 0,.slice none 0 0,.slice none 0 0] 48)=w.alloc (.cells look0 48):=rfl
 have h1:=h.keep K1
 gi_enter Tryz.func85,Tryz.ntmps85
 gi_wp2_with fail
 try rw[hal]
 generalize w.alloc (.cells look0 48)=w1 at*
 refine(rfind_no _ w1 b th pid h1 hp).mono ?_
 rintro e w2 ⟨rfl,hw⟩
 have hw:=hw.symm
 subst hw
 have hbd:=build_look0 w1
 obtain⟨w3,hst,K3,b3⟩:=store_look0 hb1
 clear hal
 gi_wp2_with (refine af2 rfl (.tmp 4) (.tmp 14) 48 rfl rfl rfl hst ?_)
 have g0:w3.cell? ⟨w.heap.size,0,none⟩=some (.int .i64 0):=by rw[aa0 b3];rfl
 have g1:w3.cell? ⟨w.heap.size,1,none⟩=some (.int .i64 0):=by rw[aa0 b3];rfl
 have g2:w3.cell? ⟨w.heap.size,2,none⟩=some (.int .i64 0):=by rw[aa0 b3];rfl
 have g3:w3.cell? ⟨w.heap.size,3,none⟩=some (.int .i64 0):=by rw[aa0 b3];rfl
 have g4:w3.cell? ⟨w.heap.size,4,none⟩=some (.int .i64 0):=by rw[aa0 b3];rfl
 have g5:w3.cell? ⟨w.heap.size,5,none⟩=some (.int .i64 0):=by rw[aa0 b3];rfl
 have g6:w3.cell? ⟨w.heap.size,6,none⟩=some (.int .i64 0):=by rw[aa0 b3];rfl
 have g7:w3.cell? ⟨w.heap.size,7,none⟩=some (.slice none 0 0):=by rw[aa0 b3];rfl
 have g8:w3.cell? ⟨w.heap.size,8,none⟩=some (.slice none 0 0):=by rw[aa0 b3];rfl
 refine bodyPost_ret (v:=.tuple #[.agg look0,.int .i64 2]) (by simp[results,Tryz.results85,go_sem,look0,g0,g1,g2,g3,g4,g5,g6,g7,g8]) rfl ?_
 exact⟨K1.trans K3 (fun k hk e=>absurd (show k=w.heap.size from e) (by omega)),rfl⟩
end
end Go.Fxa
namespace Go.Fxa
open Go.Conc
open Go.Proofs
open Go.RowKit
theorem append_where {P:Program} (w:World) (base:Nat) (t ty e:TypeId) (i:TypeInfo) (z:Value) (size bytes:Nat) (ht:P.underlying t=some (.slice e)) (hi:P.info? e=some i) (hz:i.zero=some z)
  (hsize:i.size=size) (hby:i.bytes=bytes) (hzs:z.cells.size=size) (hsz:0<size) (v:Value) (n:Nat) (xs:List Value) (hown:w.ownsRow base e size v n xs)
  (a:Addr) (m c:Nat) (news:List Value) (hl:news.length=m*size) (hnews:∀j u,news[j]?=some u→w.cell? (a.add j)=some u) (h1:∀u∈news,u.oneCell'=true)
  (h63:n+m≤maxLen) (hbytes:(n+m)*bytes≤140737488355328) (hbase:base≤w.heap.size) (hm:0<m):
  ∃v' w',(Builtin.append_ #[t,t] ty #[v,.slice (some a) m c]).run P w=.ok v' w'∧w'.ownsRow base e size v' (n+m) (xs++news)∧w.grownBy w' v.ownBlock∧
   (v'.ownBlock=v.ownBlock∨v'.ownBlock=some w.heap.size∧Keep No w w'):=by
 obtain⟨v',w',hr,r1,r2,_⟩:=run_append_own (P:=P) w base t ty e i z size bytes ht hi hz hsize hby hzs hsz v n xs hown a m c news hl hnews h1 h63 hbytes hbase
 refine⟨v',w',hr,r1,r2,?_⟩
 subst hsize
 subst hby
 have hsmall:n+m≤9223372036854775807:=by simp only[maxLen]at h63;omega
 rcases hown.2 with⟨rfl,rfl⟩|⟨g,cap,cur,rfl,hbg,hg,hnc,hcm,hcs,htake⟩
 ·have q:=run_append_nil (P:=P) w t ty e i z ht hi hz a m c news hl hnews (by omega) (by omega) (by have hb:=hbytes;simp only[Nat.zero_add]at hb;omega)
  rw[q]at hr
  injection hr with e1 e2
  subst e1 e2
  exact .inr ⟨rfl,(Keep.refl No w).drew.alloc _⟩
 ·by_cases hroom:n+m≤cap
  ·have hfit:n*i.size+news.length≤cur.size:=by rw[hl,hcs,←Nat.add_mul];exact Nat.mul_le_mul_right _ hroom
   have q:=run_append_room (P:=P) w t ty e i ht hi g n cap cur hg a m c news hl hnews h1 hroom hfit
   rw[q]at hr
   injection hr with e1 e2
   subst e1 e2
   exact .inl rfl
  ·have q:=run_append_grow (P:=P) w t ty e i z ht hi hz ⟨g,0,none⟩ n cap xs hown.1 (hown.cells (g:=g) rfl) a m c news hl hnews (by omega) (by omega) (growslice_fits (by omega) hbytes)
   rw[q]at hr
   injection hr with e1 e2
   subst e1 e2
   exact .inr ⟨rfl,(Keep.refl No w).drew.alloc _⟩
theorem ac3 {F:Fence} {k:Nat} {P:Program} (w:World) {ops:Array Oper} {rest:List Oper} {o:Oper} {a:Act} {Q:Exit→Act→World→Prop}
  (hg:o.guard=none) (s x:Operand) (t:TypeId) (hop:o.op=Op.call { callee:=Callee.builtin Builtin.append,args:=#[s,x],argTypes:=#[t,t] })
  (base:Nat) (e:TypeId) (i:TypeInfo) (z:Value) (size bytes:Nat) (ht:P.underlying t=some (.slice e)) (hi:P.info? e=some i) (hz:i.zero=some z) (hsize:i.size=size) (hby:i.bytes=bytes) (hzs:z.cells.size=size) (hsz:0<size)
  (v:Value) (n:Nat) (xs:List Value) (hs:a.eval s=v) (hown:w.ownsRow base e size v n xs) (ad:Addr) (m c:Nat) (news:List Value) (hx:a.eval x=.slice (some ad) m c) (hl:news.length=m*size)
  (hnews:∀j u,news[j]?=some u→w.cell? (ad.add j)=some u) (h1:∀u∈news,u.oneCell'=true) (h63:n+m≤maxLen) (hbytes:(n+m)*bytes≤140737488355328) (hbase:base≤w.heap.size) (hm:0<m)
  (hK:∀v' w',w'.ownsRow base e size v' (n+m) (xs++news)→Keep (fun b=>v.ownBlock=some b) w w'→(v'.ownBlock=v.ownBlock∨v'.ownBlock=some w.heap.size∧Keep No w w')→wpListIn F k P ops Q rest (a.put o.dst v') w'):
  wpListIn F k P ops Q (o::rest) a w:=by
 obtain⟨v',w',hr,r1,r2,r3⟩:=append_where (P:=P) w base t o.type e i z size bytes ht hi hz hsize hby hzs hsz v n xs hown ad m c news hl hnews h1 h63 hbytes hbase hm
 exact aj3 hg s x #[t,t] hop hs hx hr (hK v' w' r1 (ae7 r2 fun b hb _=>hb) r3)
def Bk (T:Nat→Nat) (k:Nat):Prop:=1≤T k∧T k≤6
theorem aa3 {w w':World} {base:Nat} {e:TypeId} {size:Nat} {v:Value} {n:Nat} {xs:List Value} {S:Nat→Prop} (h:w.ownsRow base e size v n xs) (hK:Keep S w w') (hn:∀g,v.ownBlock=some g→¬S g):w'.ownsRow base e size v n xs:=by
 obtain⟨h1,h2⟩:=h
 refine⟨h1,?_⟩
 rcases h2 with h2|⟨g,cap,cur,rfl,b,c,d⟩
 ·exact .inl h2
 ·exact .inr ⟨g,cap,cur,rfl,b,hK.old c (hn g rfl),d⟩
end Go.Fxa
