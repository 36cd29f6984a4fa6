/- Lists of numbers are made: wor -/
import Derived.Test.YtmhplpfpcnjekaaGreatA25
import Derived.Sort.CutIn
namespace Go.Fxa
open Conc Proofs RowKit Proofs.Tryz
set_option maxRecDepth 1000000
set_option maxHeartbeats 0
def Eo (T:TypeId) (k:IntKind) (w:World) (b n:Nat) (f:Nat->Int):Prop:=∃cs,w.heap[b]?=some (.cells cs T (0,0))/\cs.size=n/\∀i,i<n->cs[i]?=some (.int k (f i))
theorem Eo.row {T:TypeId} {k:IntKind} {w:World} {b n:Nat} {f:Nat->Int} (h:Eo T k w b n f):Row k w b n f:=let ⟨cs,h1,h2,h3⟩:=h;⟨cs,T,h1,h2,h3⟩
theorem Eo.keep {T:TypeId} {k:IntKind} {w w':World} {b n:Nat} {f:Nat->Int} {S:Nat->Prop} (h:Eo T k w b n f) (hK:Ab S w w') (hn:¬S b):Eo T k w' b n f:=let ⟨cs,h1,h2,h3⟩:=h;⟨cs,hK.old h1 hn,h2,h3⟩
theorem Eo.cell {T:TypeId} {k:IntKind} {w:World} {b n:Nat} {f:Nat->Int} (h:Eo T k w b n f) {i:Nat} (hi:i<n):w.cell? (T_ b i)=some (.int k (f i)):=h.row.cell hi
def Words (n:Nat) (f:Nat->Int):Prop:=∀i,i<n->0<=f i/\f i<=65535
def WT (n:Nat) (f:Nat->Int) (e:Ending):Prop:=∃r:Bool,e=.returned (.bool r)/\(r=true ↔ Words n f)
theorem WT.yes {n:Nat} {f:Nat->Int} (h:Words n f):WT n f (.returned (.bool true)):=⟨true,rfl,by simpa using h⟩
theorem WT.no {n:Nat} {f:Nat->Int} (h:¬Words n f):WT n f (.returned (.bool false)):=⟨false,rfl,by simpa using h⟩
section
variable (m:Nat) (w:World)
theorem Eo.set {T:TypeId} {k:IntKind} {w:World} {b n:Nat} {f:Nat->Int} (h:Eo T k w b n f) (i:Nat) (x:Int):Eo T k (w.setCell (T_ b i) (.int k x)) b n (upd f i x):=by
 obtain⟨cs,h1,h2,h3⟩:=h;refine⟨_,Aj h1 _,by simpa using h2,fun j hj=>?_⟩;rw[Array.getElem?_setIfInBounds];by_cases e:i=j
 ·subst e;simp[upd,h2,hj]
 ·rw[if_neg e,h3 j hj];simp[upd,Ne.symm e]
theorem Eo.ext {T:TypeId} {k:IntKind} {w:World} {b n:Nat} {f g:Nat->Int} (h:Eo T k w b n f) (e:∀i,i<n->f i=g i):Eo T k w b n g:=by
 obtain⟨cs,h1,h2,h3⟩:=h;exact⟨cs,h1,h2,fun i hi=>by rw[h3 i hi,e i hi]⟩
theorem Eo.fz {T:TypeId} {k:IntKind} {w:World} {b n:Nat} {f:Nat->Int} (h:Eo T k w b n f) (i:Nat):w.frozen? (T_ b i)=false:=h.row.fz i
theorem XT (n:Nat):Eo 3 .i64 (w.alloc (.cells (madeCells #[.int .i64 0] n) 3)) w.heap.size n (fun _=>0):=by
 refine⟨madeCells #[.int .i64 0] n,heap_alloc_new rfl,by simp[madeCells],fun i hi=>?_⟩;simp[madeCells,hi,Nat.mod_one]
theorem Ab.xS {S:Nat->Prop} {a w:World} (h:Ab S a w) {g:Nat} (cs:X_) (hp:g<a.heap.size->S g):Ab S a (w.setRow g cs):=
 ⟨h.os,h.output,by rw[setRow_size];exact h.size,fun k hk hn=>(setRow_other w g k cs (fun e=>hn (e ▸ hp (e ▸ hk)))).trans (h.block k hk hn)⟩
theorem OH (n:Nat):Eo 123 .u16 (w.alloc (.cells (madeCells #[.int .u16 0] n) 123)) w.heap.size n (fun _=>0):=by
 refine⟨madeCells #[.int .u16 0] n,heap_alloc_new rfl,by simp[madeCells],fun i hi=>?_⟩;simp[madeCells,hi,Nat.mod_one]
theorem VW (ib L:Nat) (Ah:Nat->Nat) (c:Nat) (h:∀i,i<L->w.cell? (T_ ib i)=some (.int .u16 (Ah i))) (hw:∀i,i<L->Ah i<65536) (hL:L<=128):CallsIn NF m prog 101 #[.slice (some (S_ ib)) L c] w fun e w'=>Ab No w w'/\e=.returned (.slice (some (S_ w.heap.size)) L L)/\Eo 3 .i64 w' w.heap.size L (fun i=>Ah i):=by
 obtain⟨i0,hi,hz0,hz1,hz2⟩:=info_parts info3;have hmk:=run_make (P:=prog) w 22 3 i0 (.int .i64 0) underlying22 hi hz0 .i64 .i64 L L (by omega) (by omega) (by rw[hz2];omega) (by omega);rw[hz1]at hmk;simp only[Int.toNat_natCast,Nat.mul_one,Value.cells]at hmk;have r0:=XT w L;have K0:Ab No w (w.alloc (.cells (madeCells #[.int .i64 0] L) 3)):=(Ab.refl _ _).alloc _;generalize w.alloc (.cells (madeCells #[.int .i64 0] L) 3)=w1 at*;gi_enter func101,ntmps101;gi_wp2;gi_loopw [11] (fun i wr=>∃k:Nat,k<=L/\i=.int .i64 k/\Ab No w wr/\Eo 3 .i64 wr w.heap.size L (fun i=>if i<k then(Ah i:Int)else 0)) (fun i _=>L-(intOf i).toNat)
 case atStart=>exact⟨0,by omega,rfl,K0,r0.ext (fun i _=>by simp)⟩
 case round=>
  obtain⟨k,hk,rfl,KK,rr⟩:=hrel
  by_cases BC:k<L
  ·have hw1:=hw k BC;have d:=KK.has (h k BC);have e:=rr.cell BC;have f:=rr.fz k;gi_wp2;go_roundw
   case rel=>
    refine⟨k+1,by omega,by go_num,KK.setCell _ (fun hx=>absurd hx (Nat.lt_irrefl _)),(rr.set k (Ah k)).ext (fun i hi=>?_)⟩
    show(if i=k then(Ah k:Int)else if i<k then(Ah i:Int)else 0)=if i<k+1 then(Ah i:Int)else 0
    by_cases c1:i=k
    ·subst c1;rw[if_pos rfl,if_pos (by omega)]
    ·by_cases c2:i<k
     ·rw[if_neg c1,if_pos c2,if_pos (by omega)]
     ·rw[if_neg c1,if_neg c2,if_neg (by omega)]
   case measure=>simp[intOf];omega
  ·obtain rfl:k=L:=(by omega);gi_wp2;go_ret;exact⟨KK,by simp,rr.ext (fun i hi=>by simp[hi])⟩
theorem aO:CallsIn NF m prog 101 #[.slice none 0 0] w fun e w'=>Ab No w w'/\e=.returned (.slice (some (S_ w.heap.size)) 0 0):=by
 obtain⟨i0,hi,hz0,hz1,hz2⟩:=info_parts info3;have hmk:=run_make (P:=prog) w 22 3 i0 (.int .i64 0) underlying22 hi hz0 .i64 .i64 0 0 (by omega) (by omega) (by rw[hz2];omega) (by omega);rw[hz1]at hmk;have hmk:(Instr.makeSlice 22 (.int .i64 0) (.int .i64 0)).run prog w=.ok (.slice (some (S_ w.heap.size)) 0 0) (w.alloc (.cells (madeCells #[.int .i64 0] 0) 3)):=hmk;have K0:Ab No w (w.alloc (.cells (madeCells #[.int .i64 0] 0) 3)):=(Ab.refl _ _).alloc _;gi_enter func101,ntmps101;gi_wp2;refine wpIn_loop_once ?_;gi_wp2;go_ret;exact⟨K0,by simp⟩
theorem PW (v:Value) (n:Nat) (f:Nat->Int) (h:sN w v n f):CallsIn NF m prog 87 #[v] w fun e w'=>WT n f e/\w'=w:=by
 obtain⟨hn,s,c,rfl,hs⟩:=h;by_cases h0:n=0
 ·subst h0;gi_enter func87,ntmps87;gi_wp2;refine wpIn_loop_once ?_;gi_wp2;go_ret;exact⟨WT.yes (fun i hi=>absurd hi (by omega)),rfl⟩
 ·obtain⟨b,o,rfl,hc⟩:=hs (by omega);clear hs;gi_enter func87,ntmps87;gi_wp2;gi_loopw [7] (fun i wr=>wr=w/\∃k:Nat,k<=n/\i=.int .i64 k/\Words k f) (fun i _=>n-(intOf i).toNat)
  case atStart=>exact⟨rfl,0,Nat.zero_le _,rfl,fun i hi=>absurd hi (by omega)⟩
  case round=>
   obtain⟨hw,k,hk,rfl,hW⟩:=hrel
   subst hw
   by_cases BC:k<n
   ·have g1:=hc k BC;have hwr:wrap64 (IntKind.u16.wrap (f k))=f k % 65536:=(by rw[wrap_u16];unfold wrap64;omega);by_cases c1:f k % 65536=f k
    ·have hb:(f k !=wrap64 (IntKind.u16.wrap (f k)))=false:=(by rw[hwr,c1];simp);gi_wp2;go_roundw
     case rel=>
      refine⟨trivial,k+1,by omega,by go_num,fun i hi=>?_⟩
      by_cases e:i=k
      ·subst e;omega
      ·exact hW i (by omega)
     case measure=>simp[intOf];omega
    ·have hb:(f k !=wrap64 (IntKind.u16.wrap (f k)))=true:=by rw[hwr];simp only[bne_iff_ne,ne_eq];exact fun e=>c1 e.symm
     gi_wp2;go_ret;exact⟨WT.no (fun hx=>by have:=hx k BC;omega),rfl⟩
   ·obtain rfl:k=n:=(by omega);gi_wp2;go_ret;exact⟨WT.yes hW,rfl⟩
theorem TZ (b o L c:Nat) (Ah:Nat->Nat) (hc:∀i,i<L->w.cell? (T_ b (o+i))=some (.int .i64 (Ah i))) (hw:∀i,i<L->Ah i<65536) (hL1:1<=L) (hL:L<=128):CallsIn NF m prog 45 #[.slice (some (T_ b o)) L c] w fun e w'=>Ab No w w'/\e=.returned (.slice (some (S_ w.heap.size)) L L)/\Eo 123 .u16 w' w.heap.size L (fun i=>Ah i):=by
 obtain⟨i0,hi,hz0,hz1,hz2⟩:=info_parts O7;have hmk:=run_make (P:=prog) w 116 123 i0 (.int .u16 0) underlying116 hi hz0 .i64 .i64 L L (by omega) (by omega) (by rw[hz2];omega) (by omega);rw[hz1]at hmk;simp only[Int.toNat_natCast,Nat.mul_one,Value.cells]at hmk;have r0:=OH w L;have K0:Ab No w (w.alloc (.cells (madeCells #[.int .u16 0] L) 123)):=(Ab.refl _ _).alloc _;generalize w.alloc (.cells (madeCells #[.int .u16 0] L) 123)=w1 at*;gi_enter func45,ntmps45;gi_wp2;gi_loopw [11] (fun i wr=>∃k:Nat,k<=L/\i=.int .i64 k/\Ab No w wr/\Eo 123 .u16 wr w.heap.size L (fun i=>if i<k then(Ah i:Int)else 0)) (fun i _=>L-(intOf i).toNat)
 case atStart=>exact⟨0,by omega,rfl,K0,r0.ext (fun i _=>by simp)⟩
 case round=>
  obtain⟨k,hk,rfl,KK,rr⟩:=hrel
  by_cases BC:k<L
  ·have hw1:=hw k BC;have hwr:(Ah k:Int) % 65536=Ah k:=(by omega);have d:=KK.has (hc k BC);have e:=rr.cell BC;have f:=rr.fz k;gi_wp2;go_roundw
   case rel=>
    refine⟨k+1,by omega,by go_num,KK.setCell _ (fun hx=>absurd hx (Nat.lt_irrefl _)),(rr.set k (Ah k)).ext (fun i hi=>?_)⟩
    show(if i=k then(Ah k:Int)else if i<k then(Ah i:Int)else 0)=if i<k+1 then(Ah i:Int)else 0
    by_cases c1:i=k
    ·subst c1;rw[if_pos rfl,if_pos (by omega)]
    ·by_cases c2:i<k
     ·rw[if_neg c1,if_pos c2,if_pos (by omega)]
     ·rw[if_neg c1,if_neg c2,if_neg (by omega)]
   case measure=>simp[intOf];omega
  ·obtain rfl:k=L:=(by omega);gi_wp2;go_ret;exact⟨KK,by simp,rr.ext (fun i hi=>by simp[hi])⟩
theorem Ym (s:Option Addr) (c:Nat):CallsIn NF m prog 45 #[.slice s 0 c] w fun e w'=>Ab No w w'/\e=.returned (.slice (some (S_ w.heap.size)) 0 0)/\Eo 123 .u16 w' w.heap.size 0 (fun _=>0):=by
 obtain⟨i0,hi,hz0,hz1,hz2⟩:=info_parts O7;have hmk:=run_make (P:=prog) w 116 123 i0 (.int .u16 0) underlying116 hi hz0 .i64 .i64 0 0 (by omega) (by omega) (by rw[hz2];omega) (by omega);rw[hz1]at hmk;have hmk:(Instr.makeSlice 116 (.int .i64 0) (.int .i64 0)).run prog w=.ok (.slice (some (S_ w.heap.size)) 0 0) (w.alloc (.cells (madeCells #[.int .u16 0] 0) 123)):=hmk;have r0:=OH w 0;have K0:Ab No w (w.alloc (.cells (madeCells #[.int .u16 0] 0) 123)):=(Ab.refl _ _).alloc _;gi_enter func45,ntmps45;gi_wp2;refine wpIn_loop_once ?_;gi_wp2;go_ret;exact⟨K0,by simp,r0⟩
def padded (n:Nat) (Ah:Nat->Nat) (i:Nat):Nat:=if i<n then Ah i else 0
theorem Un (ab n nb N8:Nat) (Ah:Nat->Nat) (h:Eo 123 .u16 w ab n (fun i=>Ah i)) (h8:8*nb=N8) (hn:n<=N8) (hb:N8<=128):CallsIn NF m prog 47 #[.slice (some (S_ ab)) n n,.int .i64 nb] w fun e w'=>Ab No w w'/\e=.returned (.slice (some (S_ w.heap.size)) N8 N8)/\Eo 123 .u16 w' w.heap.size N8 (fun i=>padded n Ah i):=by
 obtain⟨i0,hi,hz0,hz1,hz2⟩:=info_parts O7;have hmk:=run_make (P:=prog) w 116 123 i0 (.int .u16 0) underlying116 hi hz0 .i64 .i64 N8 N8 (by omega) (by omega) (by rw[hz2];omega) (by omega);rw[hz1]at hmk;simp only[Int.toNat_natCast,Nat.mul_one,Value.cells]at hmk;have r0:=OH w N8;have K0:Ab No w (w.alloc (.cells (madeCells #[.int .u16 0] N8) 123)):=(Ab.refl _ _).alloc _;generalize w.alloc (.cells (madeCells #[.int .u16 0] N8) 123)=w1 at*;have h1:=h.keep K0 id;have e8:(nb:Int)*8=N8:=by omega
 obtain⟨cs,q1,q2,q3⟩:=r0;have hsrc:∀j v,((List.range n).map fun i=>Value.int .u16 (Ah i))[j]?=some v->w1.cell? (((S_ ab):Addr).add j)=some v:=fun j v hj=>by
  have hj':j<n:=by
   rcases Nat.lt_or_ge j n with h|h
   ·exact h
   ·rw[List.getElem?_eq_none (by simpa using h)]at hj;cases hj
  rw[Addr.add_lit,Nat.zero_add,h1.cell hj',<-hj];simp[hj']
 have hcp:=run_copy_row (P:=prog) w1 116 116 3 123 w.heap.size 0 N8 N8 (S_ ab) n n cs 123 ((List.range n).map fun i=>Value.int .u16 (Ah i)) underlying116 (by simp[hi,hz1]) q1 (by simp;exact(Nat.min_eq_left hn).symm) hsrc (by simp;omega) (by simp[Value.oneCell']);have hg2:=setRow_heap w1 w.heap.size cs (cs.toList.take 0++((List.range n).map fun i=>Value.int .u16 (Ah i))++cs.toList.drop (0+((List.range n).map fun i=>Value.int .u16 (Ah i)).length)).toArray 123 (0,0) q1;have K2:=K0.xS (g:=w.heap.size) (cs.toList.take 0++((List.range n).map fun i=>Value.int .u16 (Ah i))++cs.toList.drop (0+((List.range n).map fun i=>Value.int .u16 (Ah i)).length)).toArray (fun hx=>absurd hx (Nat.lt_irrefl _));generalize w1.setRow w.heap.size _=w2 at*;gi_enter func47,ntmps47;gi_wp2_with (refine Js rfl (.tmp 9) (.tmp 10) _ rfl rfl rfl hcp ?_);go_ret;refine⟨K2,by simp,_,hg2,by simp;omega,fun i hi=>?_⟩;by_cases hin:i<n
 ·simp[padded,hin,List.getElem?_append_left]
 ·have:=q3 i hi;rw[<-Array.getElem?_toList]at this;simp[padded,hin,List.getElem?_append_right (show((List.range n).map fun i=>Value.int .u16 (Ah i)).length<=i by simp;omega)];rw[show n+(i-n)=i by omega];simpa using this
theorem xg (N:Nat):(Instr.build 186 #[(1,.int .i64 N)]).run prog w=.ok (.agg #[.int .i64 0,.int .i64 N]) w:=by kernel_rfl
theorem xe (N:Nat):(Instr.build 188 #[(1,.int .i64 N)]).run prog w=.ok (.agg #[.int .i64 0,.int .i64 N]) w:=by kernel_rfl
theorem dh (N:Nat) (h1:1<=N):CallsIn NF m prog 42 #[.int .i64 N] w fun e w'=>Ab No w w'/\∃cb,w.heap.size<=cb/\e=.returned (.agg #[.slice (some (S_ cb)) 1 1])/\w'.heap[cb]?=some (.cells #[.int .i64 0,.int .i64 N] 186 (0,0)):=by
 gi_enter func42,ntmps42;gi_wp2;have c0:((w.alloc (.cells #[.slice (some (S_ (w.heap.size+1))) 1 1] 92)).alloc (.cells #[.int .i64 0,.int .i64 N] 186)).cell? (S_ w.heap.size)=some (.slice (some (S_ (w.heap.size+1))) 1 1):=by
  rw[Ag ((heap_alloc_old (by simp)).trans (heap_alloc_new rfl))];rfl
 refine bodyPost_ret (v:=.agg #[.slice (some (S_ (w.heap.size+1))) 1 1]) (by simp[results,results42,go_sem,c0]) rfl ?_;exact⟨((Ab.refl No w).alloc _).alloc _,w.heap.size+1,by omega,rfl,heap_alloc_new (by simp)⟩
theorem cO (N:Nat) (h1:1<=N):CallsIn NF m prog 43 #[.int .i64 N] w fun e w'=>Ab No w w'/\∃cb,w.heap.size<=cb/\e=.returned (.agg #[.slice (some (S_ cb)) 1 1])/\w'.heap[cb]?=some (.cells #[.int .i64 0,.int .i64 N] 188 (0,0)):=by
 gi_enter func43,ntmps43;gi_wp2;have c0:((w.alloc (.cells #[.slice (some (S_ (w.heap.size+1))) 1 1] 97)).alloc (.cells #[.int .i64 0,.int .i64 N] 188)).cell? (S_ w.heap.size)=some (.slice (some (S_ (w.heap.size+1))) 1 1):=by
  rw[Ag ((heap_alloc_old (by simp)).trans (heap_alloc_new rfl))];rfl
 refine bodyPost_ret (v:=.agg #[.slice (some (S_ (w.heap.size+1))) 1 1]) (by simp[results,results43,go_sem,c0]) rfl ?_;exact⟨((Ab.refl No w).alloc _).alloc _,w.heap.size+1,by omega,rfl,heap_alloc_new (by simp)⟩
theorem ko:CallsIn NF m prog 90 #[.int .u64 1,.int .u64 6] w fun e w'=>e=.returned (.tuple #[.int .u64 0,.int .u64 6])/\w'=w:=by
 gi_enter func90,ntmps90;gi_wp2;refine bodyPost_ret (v:=.tuple #[.int .u64 0,.int .u64 6]) (by kernel_rfl) rfl ?_;exact⟨rfl,rfl⟩
end
def pre6 (k:Nat) (i:Nat):Int:=if i<k then -1 else 0
theorem Xw {W:World} {fb k c d n cap sb so:Nat} (h:Eo 3 .i64 W fb 6 (pre6 k)) (hk:k<=6) (hd:6-k=d) (hc:Nat.min n d=c) (hs:∀j,j<c->W.cell? (T_ sb (so+j))=some (.int .i64 (-1))):∃W',(Builtin.copy_ #[22,22] 3 #[.slice (some (T_ fb k)) d d,.slice (some (T_ sb so)) n cap]).run prog W=.ok (.int .i64 c) W'/\Ab (At fb) W W'/\Eo 3 .i64 W' fb 6 (pre6 (k+c)):=by
 obtain⟨i0,hi,hz0,hz1,hz2⟩:=info_parts info3;obtain⟨cs,q1,q2,q3⟩:=id h;have hcd:c<=d:=by rw[<-hc];exact Nat.min_le_right _ _
 have hsrc:∀j v,(List.replicate c (Value.int .i64 (-1)))[j]?=some v->W.cell? (((T_ sb so):Addr).add j)=some v:=fun j v hj=>by
  have hj':j<c:=by
   rcases Nat.lt_or_ge j c with h|h
   ·exact h
   ·rw[List.getElem?_eq_none (by simpa using h)]at hj;cases hj
  rw[Addr.add_lit,hs j hj',<-hj,List.getElem?_replicate_of_lt hj']
 have hcp:=run_copy_row (P:=prog) W 22 22 3 3 fb k d d (T_ sb so) n cap cs 3 (List.replicate c (Value.int .i64 (-1))) underlying22 (by simp[hi,hz1]) q1 (by simp[hc]) hsrc (by simp;omega) (by simp[Value.oneCell']);refine⟨_,by simpa [goInt]using hcp,(Ab.refl _ W).xS _ (fun _=>rfl),_,setRow_heap W fb cs _ 3 (0,0) q1,by simp;omega,fun i hi=>?_⟩;have q:=q3 i hi;rw[<-Array.getElem?_toList]at q;simp only[List.getElem?_toArray,pre6];by_cases c1:i<k
 ·rw[List.getElem?_append_left (by simp;omega),List.getElem?_take_of_lt c1,q];have c2:i<k+c:=by omega
  simp[pre6,c1,c2]
 ·by_cases c2:i<k+c
  ·rw[List.getElem?_append_right (by simp;omega),List.getElem?_append_left (by simp;omega),List.getElem?_replicate_of_lt (by simp;omega)];simp[c2]
  ·rw[List.getElem?_append_right (by simp;omega),List.getElem?_append_right (by simp;omega),List.getElem?_drop];rw[show k+c+(i-(List.take k cs.toList).length-(List.replicate c (Value.int .i64 (-1))).length)=i by simp;omega,q];simp[pre6,c1,c2]
section
variable (m:Nat) (w:World)
def aq2 (g k c:Nat) (v:Value) (W:World):Prop:=v=.int .i64 c/\Eo 3 .i64 W g 6 (pre6 (k+c))
theorem Wi (vb:Nat) (hv:w.heap[vb]?=some (.cells #[.int .i64 (-1)] 3 (0,0))):CallsIn NF m prog 49 #[.slice (some (S_ vb)) 1 1,.int .i64 6] w fun e w'=>Ab No w w'/\e=.returned (.slice (some (S_ w.heap.size)) 6 6)/\Eo 3 .i64 w' w.heap.size 6 (fun _=>-1):=by
 obtain⟨i0,hi,hz0,hz1,hz2⟩:=info_parts info3;have hmk:=run_make (P:=prog) w 22 3 i0 (.int .i64 0) underlying22 hi hz0 .i64 .i64 6 6 (by omega) (by omega) (by rw[hz2];omega) (by omega);rw[hz1]at hmk;have hmk:(Instr.makeSlice 22 (.int .i64 6) (.int .i64 6)).run prog w=.ok (.slice (some (S_ w.heap.size)) 6 6) (w.alloc (.cells (madeCells #[.int .i64 0] 6) 3)):=hmk;have r0:=(XT w 6).ext (g:=pre6 0) (fun i _=>by simp[pre6]);have K0:Ab No w (w.alloc (.cells (madeCells #[.int .i64 0] 6) 3)):=(Ab.refl _ _).alloc _;have hv0:=K0.old hv id;have hs0:∀j,j<1->(w.alloc (.cells (madeCells #[.int .i64 0] 6) 3)).cell? (T_ vb (0+j))=some (.int .i64 (-1)):=fun j hj=>by
  obtain rfl:j=0:=by omega
  rw[Ag hv0];rfl
 obtain⟨w2,hcp,K2,r2⟩:=Xw (c:=1) (d:=6) (n:=1) (cap:=1) (sb:=vb) (so:=0) r0 (by omega) rfl rfl hs0;have K02:Ab No w w2:=K0.trans K2 (fun k hk e=>absurd (show k=w.heap.size from e) (by omega));gi_enter func49,ntmps49;gi_wp2_with (first|(gi_at_call 90;refine(ko _ w).mono ?_;rintro e w2 ⟨rfl,hw⟩;have hw:=hw.symm;subst hw)|(refine Js rfl (.tmp 31) (.tmp 32) _ rfl rfl rfl hcp ?_));gi_loopw [8] (fun i wr=>∃k:Nat,(k=1\/k=2\/k=4\/k=6)/\i=.int .i64 k/\Ab No w wr/\Eo 3 .i64 wr w.heap.size 6 (pre6 k)) (fun i _=>6-(intOf i).toNat)
 case atStart=>exact⟨1,.inl rfl,rfl,K02,r2⟩
 case round=>
  obtain⟨k,hk,rfl,KK,rr⟩:=hrel
  by_cases h6:k=6
  ·subst h6;gi_wp2;go_ret;exact⟨KK,by simp,rr.ext (fun i hi=>by simp[pre6,hi])⟩
  obtain⟨d,c,hkc,hc1,hd,hc⟩:∃d c,(k+c=2\/k+c=4\/k+c=6)/\1<=c/\6-k=d/\Nat.min k d=c:=by
   rcases hk with rfl|rfl|rfl|rfl
   ·exact⟨5,1,by omega,by omega,rfl,rfl⟩
   ·exact⟨4,2,by omega,by omega,rfl,rfl⟩
   ·exact⟨2,2,by omega,by omega,rfl,rfl⟩
   ·exact absurd rfl h6
  have BC:k<6:=by omega
  have Ih:d=6-k:=hd.symm;have hlt':(k:Int)<6:=by omega
  have rr0:Eo 3 .i64 wr.drew w.heap.size 6 (pre6 k):=rr;obtain⟨W',hcp,KC,rC⟩:=Xw (c:=c) (d:=d) (n:=k) (cap:=6) (sb:=w.heap.size) (so:=0) rr0 (by omega) hd hc (fun j hj=>by
   have hjk:j<k:=Nat.lt_of_lt_of_le hj (by rw[<-hc];exact Nat.min_le_left _ _)
   rw[Nat.zero_add,rr0.cell (by omega)]
   simp[pre6,hjk]);gi_wp2;refine BZ (P:=prog) _ rfl rfl (by kernel_rfl) 8 48 [0,1,2,3,4,5,6] [7] (by kernel_rfl) (by rfl)
   (J2 (Go.Fxa.At w.heap.size) wr.drew 7 (aq2 w.heap.size k c) []) (EF (by simp) (by simp)) _ _ rfl rfl ?_;subst Ih;gi_wp2;refine⟨rfl,by kernel_rfl,Dg,?_,?_,?_⟩
  ·intro L' u W hI
   repeat' (refine Ao ?_ ?_)
   all_goals first|exact trivial|gi_wp2
  ·intro i hi L' u W hI Nf hu;obtain rfl:i=7:=(by simpa using hi);obtain rfl:=hI.2.1 Nf;refine Bh rfl fun KK Ko=>?_
   show wpListIn NF m prog _ _ _ (Act.put _ (some 45) (u 7)) _;gi_wp2_with (refine Js rfl (.tmp 41) (.tmp 44) _ rfl rfl rfl hcp ?_);exact⟨_,rfl,EG hI (by simp) KC ⟨rfl,rC⟩⟩
  ·intro L' u W hI hL;obtain⟨e7,h1⟩:=hI.2.2.1 (hL 7 (by simp));show wpListIn NF m prog _ _ _ (Act.put _ (some 45) (u 7)) _;rw[e7];gi_wp2;go_roundw
   case rel=>exact⟨k+c,by omega,by rw[Int.natCast_add],(KK.drew.trans hI.1 (fun x hx e=>absurd (show x=w.heap.size from e) (by omega))),h1⟩
   case measure=>simp[intOf];omega
end
def Zp (w:World) (v:Value) (n:Nat) (f:Nat->Int):Prop:=(∃s c,v=.slice s n c)/\(n<=128->sN w v n f)
theorem Zp.kp {w w':World} {v:Value} {n:Nat} {f:Nat->Int} (h:Zp w v n f) (hK:Ab No w w'):Zp w' v n f:=⟨h.1,fun hn=>(h.2 hn).keep hK⟩
def Qc (w:World) (v:Value) (nf:Nat) (ff:Nat->Value×Nat×(Nat->Int)):Prop:=∃s c,v=.slice s nf c/\(0<nf->∃b o,s=some (T_ b o)/\∀i,i<nf->w.cell? (T_ b (o+i))=some (ff i).1/\Zp w (ff i).1 (ff i).2.1 (ff i).2.2)
theorem Qc.kp {w w':World} {v:Value} {nf:Nat} {ff:Nat->Value×Nat×(Nat->Int)} (h:Qc w v nf ff) (hK:Ab No w w'):Qc w' v nf ff:=let ⟨s,c,e,h2⟩:=h;⟨s,c,e,fun hp=>let ⟨b,o,e',h3⟩:=h2 hp;⟨b,o,e',fun i hi=>⟨hK.has (h3 i hi).1,(h3 i hi).2.kp hK⟩⟩⟩
def oo (ff:Nat->Value×Nat×(Nat->Int)) (k:Nat):Prop:=∀i,i<k->(ff i).2.1<=64/\Words (ff i).2.1 (ff i).2.2
def jv (nf:Nat) (ff:Nat->Value×Nat×(Nat->Int)) (e:Ending):Prop:=∃r:Bool,e=.returned (.bool r)/\(r=true->nf<=16/\oo ff nf)/\(nf=0->r=true)
theorem jv.no {nf:Nat} {ff:Nat->Value×Nat×(Nat->Int)} (h:nf≠0):jv nf ff (.returned (.bool false)):=⟨false,rfl,(fun h=>by cases h),fun e=>absurd e h⟩
def UF (core swap:Int) (n:Nat) (f:Nat->Int):Prop:=(16<=core/\core<=64/\1<=swap/\swap<=256)/\(1<=n/\n<=128/\Words n f)/\(Ap n:Int)<=swap
def Rz (core swap:Int) (n:Nat) (f:Nat->Int) (nf:Nat) (ff:Nat->Value×Nat×(Nat->Int)) (e:Ending):Prop:=∃r:Bool,e=.returned (.bool r)/\(r=true->UF core swap n f/\nf<=16/\oo ff nf)/\(nf=0->UF core swap n f->r=true)
theorem Rz.no {core swap:Int} {n nf:Nat} {f:Nat->Int} {ff:Nat->Value×Nat×(Nat->Int)} (h:¬UF core swap n f):Rz core swap n f nf ff (.returned (.bool false)):=⟨false,rfl,(fun h=>by cases h),fun _ e=>absurd e h⟩
theorem di {n:Nat} (h:n<=64):Ap n<=8:=by unfold Ap;omega
section
variable (m:Nat) (w:World)
theorem Qw {F:Fence} {n:Nat} {P:Program} {ops:Array Oper} {Q:Exit->Act->World->Prop} {a:Act} {w:World} {rest:List Oper} {o:Oper} (hw:Region.wanted o (yielded ops a.tmps)=false) (ha:o.about P w a.eval=none) (hp:a.put o.dst undef=a) (h:wpListIn F n P ops Q rest a w):wpListIn F n P ops Q (o::rest) a w:=
 wpListIn_skip hw ha (by rw[hp];exact h)
theorem dm (v:Value) (nf:Nat) (ff:Nat->Value×Nat×(Nat->Int)) (h:Qc w v nf ff):CallsIn NF m prog 88 #[v] w fun e w'=>Ab No w w'/\jv nf ff e:=by
 obtain⟨s,c,rfl,hs⟩:=h;by_cases h0:nf=0
 ·subst h0;gi_enter func88,ntmps88;gi_wp2;refine wpIn_loop_once ?_;gi_wp2;go_ret;exact⟨Ab.refl _ _,true,by simp,fun _=>⟨by omega,fun i hi=>absurd hi (by omega)⟩,fun _=>rfl⟩
 by_cases h16:(16:Int)<nf
 ·gi_enter func88,ntmps88;gi_wp2;go_ret;exact⟨Ab.refl _ _,jv.no h0⟩
 obtain⟨b,o,rfl,hc⟩:=hs (by omega);clear hs;gi_enter func88,ntmps88;gi_wp2;gi_loopw [3,11] (fun a i wr=>∃(k:Nat) (x:Int),k<=nf/\a=.int .i64 x/\0<=x/\x<=8*k/\i=.int .i64 k/\Ab No w wr/\oo ff k) (fun _ i _=>nf-(intOf i).toNat)
 case atStart=>exact⟨0,0,by omega,rfl,by omega,by omega,rfl,Ab.refl _ _,fun i hi=>absurd hi (by omega)⟩
 case round=>
  obtain⟨k,x,hk,rfl,hx0,hx8,rfl,KK,hg⟩:=hrel
  by_cases BC:k<nf
  ·obtain⟨d0,⟨s',c',hv⟩,hI⟩:=hc k BC;generalize hq:ff k=q at*;obtain⟨v',n',f'⟩:=q;simp only at d0 hv hI;subst hv;have d1:=KK.has d0;by_cases h64:(64:Int)<n'
   ·gi_wp2_with (refine Qw rfl rfl rfl ?_);go_ret;exact⟨KK,jv.no h0⟩
   ·have hS:=(hI (by omega)).keep KK;gi_wp2_with (gi_at_call 87;refine(PW _ _ _ n' f' hS).mono ?_;rintro e w1 ⟨⟨r,rfl,hr⟩,hw⟩;have hw:=hw.symm;subst hw;cases r<;>first|(have hW:Words n' f':=hr.1 rfl;clear hr)|clear hr)
    ·go_ret;exact⟨KK,jv.no h0⟩
    ·have hb8:=di (n:=n') (by omega);gi_wp2_with (gi_at_call 48;refine(EH _ _ n' (by omega)).mono ?_;rintro e w1 ⟨rfl,hw⟩;have hw:=hw.symm;subst hw);go_roundw
     case rel=>
      refine⟨k+1,x+Ap n',by omega,by go_num,by omega,by omega,by go_num,KK,fun i hi=>?_⟩
      by_cases e:i=k
      ·subst e;rw[hq];exact⟨by show n'<=64;omega,hW⟩
      ·exact hg i (by omega)
     case measure=>simp[intOf];omega
  ·obtain rfl:k=nf:=(by omega);gi_wp2;go_ret;refine⟨KK,_,rfl,fun _=>⟨by omega,hg⟩,fun e=>absurd e h0⟩
theorem vo (core swap:Int) (v fv:Value) (n nf:Nat) (f:Nat->Int) (ff:Nat->Value×Nat×(Nat->Int)) (h:Zp w v n f) (hF:Qc w fv nf ff):CallsIn NF m prog 41 #[.agg #[.int .i64 core,.int .i64 swap,v,fv]] w fun e w'=>Ab No w w'/\Rz core swap n f nf ff e:=by
 obtain⟨⟨s,c,rfl⟩,hS⟩:=h;obtain⟨fa,fc,rfl⟩:∃s c,fv=.slice s nf c:=let ⟨s,c,e,_⟩:=hF;⟨s,c,e⟩
 have K1:Ab No w (w.alloc (.cells #[.int .i64 core,.int .i64 swap,.slice s n c,.slice fa nf fc] 25)):=(Ab.refl _ _).alloc _;gi_enter func41,ntmps41;by_cases g1:core<16
 ·gi_wp2;go_ret;exact⟨K1,Rz.no (fun hx=>by have:=hx.1;omega)⟩
 by_cases g2:64<core
 ·gi_wp2;go_ret;exact⟨K1,Rz.no (fun hx=>by have:=hx.1;omega)⟩
 by_cases g3:swap<1
 ·gi_wp2;go_ret;exact⟨K1,Rz.no (fun hx=>by have:=hx.1;omega)⟩
 by_cases g4:256<swap
 ·gi_wp2;go_ret;exact⟨K1,Rz.no (fun hx=>by have:=hx.1;omega)⟩
 by_cases g5:(n:Int)<1
 ·gi_wp2;go_ret;exact⟨K1,Rz.no (fun hx=>by have:=hx.2.1;omega)⟩
 by_cases g6:128<(n:Int)
 ·gi_wp2;go_ret;exact⟨K1,Rz.no (fun hx=>by have:=hx.2.1;omega)⟩
 have h1:=(hS (by omega)).keep K1;have hF1:=hF.kp K1;clear hS hF;gi_wp2_with fail;refine(PW _ (w.alloc (.cells #[.int .i64 core,.int .i64 swap,.slice s n c,.slice fa nf fc] 25)) _ n f h1).mono ?_;rintro e w1 ⟨⟨r,rfl,hr⟩,hw⟩;have hw:=hw.symm;subst hw;cases r
 ·gi_wp2;go_ret;exact⟨K1,Rz.no (fun hx=>by have:=hr.2 hx.2.1.2.2;cases this)⟩
 have hW:Words n f:=hr.1 rfl;clear hr;have Jv:(w.alloc (.cells #[.int .i64 core,.int .i64 swap,.slice s n c,.slice fa nf fc] 25)).heap[w.heap.size]?=some (.cells #[.int .i64 core,.int .i64 swap,.slice s n c,.slice fa nf fc] 25 (0,0)):=heap_alloc_new rfl;have c1:(w.alloc (.cells #[.int .i64 core,.int .i64 swap,.slice s n c,.slice fa nf fc] 25)).cell? (T_ w.heap.size 1)=some (.int .i64 swap):=bce Jv rfl;have c3:(w.alloc (.cells #[.int .i64 core,.int .i64 swap,.slice s n c,.slice fa nf fc] 25)).cell? (T_ w.heap.size 3)=some (.slice fa nf fc):=bce Jv rfl;gi_wp2;generalize w.alloc (.cells #[.int .i64 core,.int .i64 swap,.slice s n c,.slice fa nf fc] 25)=w1 at*;refine AA (P:=prog) No _ rfl rfl (by kernel_rfl) 4 47 [0,1,2,3] [] (by kernel_rfl) (by rfl) (fun _ _ _=>True) (fun _ _ _ _ _ h _=>h) _ _ rfl rfl ?_;gi_wp2_with (gi_at_call 48;refine(EH _ w1.drew n (by omega)).mono ?_;rintro e w2 ⟨rfl,hw2⟩;have hw2:=hw2.symm;subst hw2);refine⟨rfl,by kernel_rfl,?_,(fun i hi=>absurd hi (by simp)),?_⟩
 ·intro V hK;have d1:=hK.has (w:=w1.drew) c1
  repeat' (refine Ao ?_ ?_)
  all_goals first|exact trivial|gi_wp2_with (gi_at_call 48;refine(EH _ V n (by omega)).mono ?_;rintro e w2 ⟨rfl,hw2⟩;have hw2:=hw2.symm;subst hw2)
 intro u1 V hV _;simp only[C9];have KV:Ab No w V:=K1.drew.then hV;have d1:=hV.has (w:=w1.drew) c1;have d3:=hV.has (w:=w1.drew) c3;have hFV:=(hF1.kp (w':=w1.drew) (Ab.refl No w1).drew).kp hV;by_cases g7:(Ap n:Int)<=swap
 ·have hM:UF core swap n f:=⟨⟨by omega,by omega,by omega,by omega⟩,⟨by omega,by omega,hW⟩,g7⟩;gi_wp2_with (gi_at_call 88;refine(dm _ V _ nf ff hFV).mono ?_;rintro e w2 ⟨KF,r,rfl,Gy,hr2⟩);go_ret;exact⟨KV.then KF,r,by simp,fun h=>⟨hM,Gy h⟩,fun h _=>hr2 h⟩
 ·gi_wp2_with (refine Qw rfl rfl rfl ?_);go_ret;exact⟨KV,Rz.no (fun hx=>by have:=hx.2.2;omega)⟩
end
theorem vG:(prog.info? 119).map (fun i=>(i.zero,i.size,i.bytes))=some (some (.pointer none),1,8):=by kernel_rfl
def WW (ib L fb:Nat):X_:=#[.int .i64 0,.int .i64 0,.bool false,.int .u16 0,.nilFunc,.int .u16 0,.int .u16 0,.int .u16 0,.slice (some (S_ ib)) L L,.slice (some (S_ fb)) 6 6,.int .i64 0,.int .i64 0]
def Er (ib fb:Nat) (Ah:List Nat):PR:=⟨1,0,0,0,0,0,0,false,-1,.nilFunc,.slice (some (S_ ib)) Ah.length Ah.length,.slice (some (S_ fb)) 6 6,Ah,[-1,-1,-1,-1,-1,-1]⟩
def aq1 (kb sb sc n M:Nat) (ks:X_) (v:Value) (W:World):Prop:=v=.tuple #[.int .i64 0,.bool true]/\W.heap[kb]?=some (.cells (ks.setIfInBounds 1 (.slice (some (S_ sb)) (Aw [(0,M)] n).2.length sc)) 114 (0,0))/\Mp 188 W sb sc (Aw [(0,M)] n).2
theorem take_one {M n:Nat} (h1:1<=n) (h:n<=M):Aw [(0,M)] n=(some 0,if M=n then[]else[(n,M-n)]):=by
 unfold Aw;rw[if_neg (by omega)];simp[h]
section
variable (m:Nat) (w:World)
theorem an6 (kb i:Nat) (ks:X_) (a:Option Addr) (n c:Nat) (hk:w.heap[kb]?=some (.cells ks 114 (0,0))) (hi:i<16) (hs:ks[4+i]?=some (.pointer none)):
  CallsIn NF m prog 44 #[.pointer (some (T_ kb 4)),.int .i64 (i:Nat),.slice a n c] w fun e w'=>e=.returned (.tuple #[])/\Ab (At kb) w w'/\w'.heap[kb]?=some (.cells (ks.setIfInBounds (4+i) (ptr w.heap.size)) 114 (0,0))/\w'.heap[w.heap.size]?=some (.cells #[.slice a n c,.int .i64 0] 191 (0,0)):=by
 have f1:(i:Int)<16:=by omega
 have hK:Ab No w (w.alloc (.cells #[.slice a n c,.int .i64 0] 191)):=(Ab.refl _ _).alloc _;have G8:=hK.old hk id;have c1:=(Ag G8 (4+i)).trans hs;have z1:=BF G8 (4+i);have BC:=Co hk;gi_enter func44,ntmps44;gi_wp2;go_end0;have Ks:Ab (At kb) w ((w.setCell (T_ kb (4+i)) (R_ w.heap.size)).alloc (.cells #[.slice a n c,.int .i64 0] 191)):=Ab.alloc (Ab.Kq _) _;exact⟨by simp,Ks,((Ab.refl No _).alloc _).old (Aj hk _) id,heap_alloc_new (by simp)⟩
theorem ad8 (kb pb sb sc M ib L fb:Nat) (ks:X_) (hp:w.heap[pb]?=some (.cells (WW ib L fb) 128 (0,0))) (hk:w.heap[kb]?=some (.cells ks 114 (0,0))) (hs:ks[1]?=some (.slice (some (S_ sb)) 1 sc)) (hs2:ks[2]?=some (.slice none 0 0)) (hs3:ks[3]?=some (.int .i64 0)) (hf:Mp 188 w sb sc [(0,M)]) (hn:Ap L<=M) (hL:1<=L) (hL':L<=128) (hM:M<=500):
  CallsIn NF m prog 46 #[R_ kb,R_ pb] w fun e w'=>e=.returned (.bool true)/\Ab (fun b=>b=kb\/b=sb\/b=pb) w w'/\(∀Ah:List Nat,Ah.length=L->w'.heap[pb]?=some (Er ib fb Ah).obj)/\∃g c,w.heap.size<=g/\w'.heap[kb]?=some (.cells (((ks.setIfInBounds 1 (.slice (some (S_ sb)) (Aw [(0,M)] (Ap L)).2.length sc)).setIfInBounds 3 (.int .i64 1)).setIfInBounds 2 (.slice (some (S_ g)) 1 c)) 114 (0,0))/\Mp 188 w' sb sc (Aw [(0,M)] (Ap L)).2/\Rw 119 1 w' g 1 c (Bf [pb]):=by
 have q8:w.cell? (T_ pb 8)=some (.slice (some (S_ ib)) L L):=bce hp rfl;have hpk:pb≠kb:=BG hp hk (by decide);have hd:Hd 188 w kb 1 114 ks sb sc [(0,M)]:=⟨hk,hs,hf,by decide⟩;have hkc:kb≠sb:=hd.apart;have hpc:pb≠sb:=by obtain⟨cur,hc,_⟩:=hf.blk;exact BG hp hc (by decide)
 have n1:1<=Ap L:=by unfold Ap;omega
 have htk:=take_one n1 hn;obtain⟨i9,hi9,hz90,hz91,hz92⟩:=info_parts vG;gi_enter func46,ntmps46;gi_wp2;refine BZ (P:=prog) _ rfl rfl (by kernel_rfl) 10 49 [0,1,2,3,4] [5,6,7,8,9] (by kernel_rfl) (by rfl)
  (J2 (TM kb sb) w.drew 5 (aq1 kb sb sc (Ap L) M ks) [(6,.tuple #[.int .i64 0,.bool true]),(7,.int .i64 0),(8,.bool true),(9,.int .i64 0)]) (EF (by simp) (by simp)) _ _ rfl rfl ?_;gi_wp2_with (gi_at_call 58;refine(El _ w.drew pb _ _ _ q8 (by omega)).mono ?_;rintro e w1 ⟨rfl,rfl⟩);refine⟨rfl,by kernel_rfl,Dg,?_,?_,?_⟩
 ·intro L' u W hI;have d8:=(hI.1.cell (w:=w.drew) (p:=(T_ pb 8)) (Co hp) (by rintro(h|h)<;>contradiction)).trans q8
  repeat' (refine Ao ?_ ?_)
  all_goals first|exact trivial|gi_wp2_with (gi_at_call 58;refine(El _ W pb _ _ _ d8 (by omega)).mono ?_;rintro e w1 ⟨rfl,rfl⟩)
 ·intro i hi L' u W hI Nf hu;rcases(by simpa using hi:i=5\/i=6\/i=7\/i=8\/i=9)with rfl|rfl|rfl|rfl|rfl
  ·obtain rfl:=hI.2.1 Nf;refine Bh rfl fun KK Ko=>?_
   show wpListIn NF m prog _ _ _ (Act.put (Act.put (Act.put (Act.put (Act.put _ (some 13) (u 5)) (some 7) (u 6)) (some 14) (u 7)) (some 15) (u 8)) (some 5) (u 9)) _;gi_wp2_with fail;refine(xO _ w.drew kb sb sc (Ap L) M 114 ks [(0,M)] (hd.keep (Ab.refl No w).drew id id) ⟨by simp;omega,fun i r hr=>by match i,hr with|0,hr=>cases hr;simp⟩ (by omega) (by unfold Ap;omega)).mono ?_;rintro e w1 ⟨rfl,hK1,h1,h2⟩;rw[show J6 (Aw [(0,M)] (Ap L)).1=.tuple #[.int .i64 0,.bool true] by rw[htk];rfl];gi_wp2;exact⟨_,rfl,EG hI (by simp) hK1 ⟨rfl,h1,h2⟩⟩
  ·have e5:=(hI.2.2.1 (hu 5 (by simp) (by decide))).1;exact Xe rfl rfl rfl ⟨_,rfl,Es hI (by decide) e5 (by simp)⟩
  ·have e6:=hI.2.2.2 (6,.tuple #[.int .i64 0,.bool true]) (by simp) (hu 6 (by simp) (by decide));exact NV rfl rfl rfl e6 rfl ⟨_,rfl,EK hI (by decide) (by simp)⟩
  ·have e6:=hI.2.2.2 (6,.tuple #[.int .i64 0,.bool true]) (by simp) (hu 6 (by simp) (by decide));exact NV rfl rfl rfl e6 rfl ⟨_,rfl,EK hI (by decide) (by simp)⟩
  ·have e7:=hI.2.2.2 (7,.int .i64 0) (by simp) (hu 7 (by simp) (by decide));exact Xf rfl rfl rfl ⟨_,rfl,Es hI (by decide) e7 (by simp)⟩
 ·intro L' u W hI hL;obtain⟨e5,h1,h2⟩:=hI.2.2.1 (hL 5 (by simp));have e8:=hI.2.2.2 (8,.bool true) (by simp) (hL 8 (by simp));have e9:=hI.2.2.2 (9,.int .i64 0) (by simp) (hL 9 (by simp));have e6:=hI.2.2.2 (6,.tuple #[.int .i64 0,.bool true]) (by simp) (hL 6 (by simp));have e7:=hI.2.2.2 (7,.int .i64 0) (by simp) (hL 7 (by simp));simp only at e6 e7 e8 e9;show wpListIn NF m prog _ _ _ (Act.put (Act.put (Act.put (Act.put (Act.put _ (some 13) (u 5)) (some 7) (u 6)) (some 14) (u 7)) (some 15) (u 8)) (some 5) (u 9)) _;rw[e5,e6,e7,e8,e9];clear htk;generalize yR:(Aw [(0,M)] (Ap L)).2=l' at*;generalize hv':Value.slice (some (S_ sb)) l'.length sc=v' at*;have hp':=hI.1.old (w:=w.drew) hp (by rintro(h|h)<;>contradiction);have KW:Ab (fun b=>b=kb\/b=sb\/b=pb) w W:=(Ab.refl _ w).drew.trans hI.1 (by rintro k _ (h|h);exact .inl h;exact .inr (.inl h));have c3:W.cell? (T_ kb 3)=some (.int .i64 0):=(Ag h1 3).trans ((Bt (by decide)).trans hs3);have f3:=BF h1 3;clear hI e5 e6 e7 e8 e9 hL;gi_upto_region 5 with fail;have h3:=Aj (i:=3) h1 (.int .i64 1);have hp3:=(Fz (p:=(T_ kb 3)) (.int .i64 1) hpk).trans hp';have t3:=Rw.keep h2 (Ab.Kq (w:=W) (b:=kb) (o:=3) (.int .i64 1)) (fun e=>hkc e.symm);have K3:=KW.setCell (p:=(T_ kb 3)) (.int .i64 1) (fun _=>.inl rfl);generalize W.setCell (T_ kb 3) (.int .i64 1)=W3 at*;clear c3 f3 h1 h2 hp' KW;have d3:W3.cell? (T_ kb 3)=some (.int .i64 1):=(Ag h3 3).trans (Kb ((Bt (by decide)).trans hs3));have p0:W3.cell? (S_ pb)=some (.int .i64 0):=bce hp3 rfl;have f0:=BF hp3 0;have hp4:=Aj (i:=0) hp3 (.int .i64 1);have p10:(W3.setCell (S_ pb) (.int .i64 1)).cell? (T_ pb 10)=some (.int .i64 0):=bce hp4 rfl;have f10:=BF hp4 10;have rZ:=Aj (i:=10) hp4 (.int .i64 0);have p11:((W3.setCell (S_ pb) (.int .i64 1)).setCell (T_ pb 10) (.int .i64 0)).cell? (T_ pb 11)=some (.int .i64 0):=bce rZ rfl;have f11:=BF rZ 11;have hp6:=Aj (i:=11) rZ (.int .i64 (-1));gi_upto_region 6 with fail;have hp6:∀Ah:List Nat,Ah.length=L->(((W3.setCell (S_ pb) (.int .i64 1)).setCell (T_ pb 10) (.int .i64 0)).setCell (T_ pb 11) (.int .i64 (-1))).heap[pb]?=some (Er ib fb Ah).obj:=fun Ah hl=>by
   rw[hp6]
   simp[Er,WW,PR.obj,PR.arr,hl]
  have k1:Ab (Go.Fxa.At pb) W3 (W3.setCell (S_ pb) (.int .i64 1)):=Ab.Kq _;have k2:Ab (Go.Fxa.At pb) (W3.setCell (S_ pb) (.int .i64 1)) ((W3.setCell (S_ pb) (.int .i64 1)).setCell (T_ pb 10) (.int .i64 0)):=Ab.Kq _;have k3:Ab (Go.Fxa.At pb) ((W3.setCell (S_ pb) (.int .i64 1)).setCell (T_ pb 10) (.int .i64 0)) (((W3.setCell (S_ pb) (.int .i64 1)).setCell (T_ pb 10) (.int .i64 0)).setCell (T_ pb 11) (.int .i64 (-1))):=Ab.Kq _;have xL:=(k1.then k2).then k3;clear k1 k2 k3;generalize ((W3.setCell (S_ pb) (.int .i64 1)).setCell (T_ pb 10) (.int .i64 0)).setCell (T_ pb 11) (.int .i64 (-1))=W6 at*;have h6:=xL.old h3 (fun e=>hpk e.symm);have t6:=t3.keep xL (fun e=>hpc e.symm);have K6:Ab (fun b=>b=kb\/b=sb\/b=pb) w W6:=K3.trans xL (fun k _ e=>.inr (.inr e));clear d3 p0 f0 hp4 p10 f10 rZ p11 f11 xL t3 h3 hp3 K3;have d2:W6.cell? (T_ kb 2)=some (.slice none 0 0):=(Ag h6 2).trans ((Bt (by decide)).trans ((Bt (by decide)).trans hs2));have KA:Ab No W6 (W6.alloc (.cells #[R_ pb] 119)):=(Ab.refl No W6).alloc _;have hcA:∀j u,([R_ pb]:U_)[j]?=some u->(W6.alloc (.cells #[R_ pb] 119)).cell? (((S_ W6.heap.size):Addr).add j)=some u:=fun j u hj=>by
   match j,hj with
   | 0,hj=>
    have ea:((S_ W6.heap.size):Addr).add 0=(S_ W6.heap.size):=by rw[Addr.add_lit,Nat.zero_add]
    rw[ea,Ag (heap_alloc_new (w:=W6) (o:=.cells #[R_ pb] 119) rfl)]
    simpa using hj
  gi_wp2_with (gi_at_builtin;refine wpListIn_append_own _ rfl (.tmp 43) (.tmp 45) 100 rfl w.heap.size 119 i9 (.pointer none) 1 8 underlying100 hi9 hz90 hz91 hz92 rfl (by decide) (.slice none 0 0) 0 [] rfl (World.ownsRow_nil _ _ _ _) (S_ W6.heap.size) 1 1 [R_ pb] rfl (by simp) hcA (by simp[Value.oneCell']) (by unfold maxLen;omega) (by omega) (Nat.le_trans K6.size KA.size) ?_;intro va wB oB Iq _;have KB:Ab No (W6.alloc (.cells #[R_ pb] 119)) wB:=Gi Iq (fun k h _=>by cases h);obtain⟨aa,ca,hva⟩:∃a c,va=.slice a 1 c:=(by rcases oB.2 with⟨_,hx⟩|⟨g,cap,cur,hv,_⟩;(· omega);(· exact⟨_,_,hv⟩));subst hva;have bB:=KB.old (KA.old h6 id) id;have gB:=BF bB 2;have eB:=(Ag bB 2).trans ((Bt (by decide)).trans ((Bt (by decide)).trans hs2)));go_ret;have KB':Ab No W6 wB:=KA.then KB;have hkB:=KB'.old h6 id;have tB:=t6.keep KB' id;have Kc:Ab (Go.Fxa.At kb) wB (wB.setCell (T_ kb 2) (.slice aa 1 ca)):=Ab.Kq _;rcases oB.2 with⟨_,hx⟩|⟨g,cap,cur,hv,hbg,hg,hc1,hmx,hcs,htk⟩
  ·omega
  ·injection hv with e1 _ e3;subst e1 e3;have hgk:g≠kb:=BG hg hkB (by decide);have hR:Rw 119 1 wB g 1 ca (Bf [pb]):=⟨⟨cur,hg,hcs,htk⟩,hc1,hmx,rfl,by simp[Bf,ptr,Value.oneCell']⟩;subst hv' yR;exact⟨by simp,(K6.trans (S':=No) KB' (fun _ _ e=>e.elim)).trans Kc (fun k _ e=>.inl e),fun Ah hl=>Kc.old (KB'.old (hp6 Ah hl) id) hpk,g,hbg,ca,Aj hkB _,Rw.keep tB Kc (fun e=>hkc e.symm),hR.keep Kc hgk⟩
end
theorem Eo.rw {T:TypeId} {k:IntKind} {w:World} {b n:Nat} {f:Nat->Int} (h:Eo T k w b n f) (hn:n<=1000):Rw T 1 w b n n ((List.range n).map fun i=>.int k (f i)):=by
 obtain⟨cs,h1,h2,h3⟩:=h;refine⟨⟨cs,h1,by omega,?_⟩,Nat.le_refl _,by unfold maxLen;omega,by simp,fun x hx=>?_⟩
 ·refine List.ext_getElem? fun i=>?_
  rw[Nat.mul_one];by_cases hi:i<n
  ·rw[List.getElem?_take_of_lt hi,Array.getElem?_toList,h3 i hi];simp[hi]
  ·rw[List.getElem?_eq_none (by simp;omega),List.getElem?_eq_none (by simp;omega)]
 ·obtain⟨i,_,rfl⟩:=List.mem_map.1 hx
  rfl
def WL (n N8:Nat) (Ah:Nat->Nat):List Nat:=(List.range N8).map (padded n Ah)
structure GU (kb base k:Nat) (lJ ks:X_) (T:Tag) (nm:Nat->Option Nat) (w:World):Prop where
 kh:w.heap[kb]?=some (.cells ks 114 (0,0))
 off:∀j,j<4\/20<=j->ks[j]?=lJ[j]?
 nmv:∀i,i<16->ks[4+i]?=some (Ut (nm i))
 nmT:∀i b,nm i=some b->T b=(10,0)
 inj:∀i j f,nm i=some f->nm j=some f->i=j
 out:∀i,k<=i->nm i=none
 tg:∀b,T b≠(0,0)->base<=b/\b<w.heap.size/\(T b=(10,0)\/∃f,T b=(15,f))
 fl:∀b,T b=(10,0)->∃v,w.heap[b]?=some (.cells #[v,.int .i64 0] 191 (0,0))/\OP T w b 64 v
theorem GU.start {kb base:Nat} {ks:X_} {w:World} (h:w.heap[kb]?=some (.cells ks 114 (0,0))) (hn:∀i,i<16->ks[4+i]?=some (.pointer none)):GU kb base 0 ks ks (fun _=>(0,0)) (fun _=>none) w:=
 ⟨h,fun _ _=>rfl,hn,(fun _ _ h=>by cases h),(fun _ _ _ h=>by cases h),fun _ _=>rfl,fun _ h=>absurd rfl h,(fun _ h=>by simp at h)⟩
theorem GU.kp {kb base k:Nat} {lJ ks:X_} {T:Tag} {nm:Nat->Option Nat} {w w':World} (h:GU kb base k lJ ks T nm w) (hK:Ab No w w'):GU kb base k lJ ks T nm w':=
 ⟨hK.old h.kh id,h.off,h.nmv,h.nmT,h.inj,h.out,fun b hb=>let ⟨a,c,d⟩:=h.tg b hb;⟨a,Nat.lt_of_lt_of_le c hK.size,d⟩,fun b hb=>let ⟨v,a,c⟩:=h.fl b hb;⟨v,hK.old a id,c.keep (Q:=fun _=>False) hK.no (fun h=>h)⟩⟩
theorem GU.make {kb base k g n:Nat} {lJ ks:X_} {T:Tag} {nm:Nat->Option Nat} {w w':World} {Ah:Nat->Nat} (h:GU kb base k lJ ks T nm w) (hk:k<16) (hb:kb<base) (hs:base<=w.heap.size) (hg:base<=g) (hgT:T g=(0,0)) (hR:Eo 123 .u16 w g n (fun i=>Ah i)) (hn:n<=64) (hw:∀i,i<n->Ah i<65536)
  (hK:Ab (At kb) w w') (hk':w'.heap[kb]?=some (.cells (ks.setIfInBounds (4+k) (ptr w.heap.size)) 114 (0,0))) (hf:w'.heap[w.heap.size]?=some (.cells #[.slice (some (S_ g)) n n,.int .i64 0] 191 (0,0))):
  GU kb base (k+1) lJ (ks.setIfInBounds (4+k) (ptr w.heap.size)) (A8 (A8 T g (15,w.heap.size)) w.heap.size (10,0)) (Az nm k (some w.heap.size)) w':=by
 have BC:g<w.heap.size:=by obtain⟨_,h1,_⟩:=hR;exact Co h1
 have hs4:4+k<ks.size:=(Array.getElem?_eq_some_iff.1 (h.nmv k hk)).1;have fT:T w.heap.size=(0,0):=by
  cases Decidable.em (T w.heap.size=(0,0))with
  | inl e=>exact e
  | inr e=>have:=(h.tg _ e).2.1;omega
 have tag:∀{b t},T b=t->t≠(0,0)->A8 (A8 T g (15,w.heap.size)) w.heap.size (10,0) b=t:=fun {b t} h1 h2=>by
  rw[AY (by rintro rfl;exact h2 (h1.symm.trans fT)),AY (by rintro rfl;exact h2 (h1.symm.trans hgT))];exact h1
 have tg':A8 (A8 T g (15,w.heap.size)) w.heap.size (10,0) g=(15,w.heap.size):=by rw[AY (by omega),BB]
 have nk:∀{b t},T b=t->t≠(0,0)->¬At kb b:=fun {b t} h1 h2 e=>by
  have:=(h.tg b (by rw[h1];exact h2)).1
  have e:b=kb:=e
  omega
 refine⟨hk',fun j hj=>?_,fun i hi=>?_,fun i b e=>?_,fun i j f h1 h2=>?_,fun i hi=>?_,fun b e=>?_,fun b e=>?_⟩
 ·rw[FE (by omega)];exact h.off j hj
 ·by_cases e:i=k
  ·subst e;rw[Array.getElem?_setIfInBounds_self_of_lt hs4];simp[Az,Ut]
  ·rw[FE (by omega)];simpa [Az,e]using h.nmv i hi
 ·by_cases e':i=k
  ·subst e';obtain rfl:w.heap.size=b:=(by simpa [Az]using e);exact BB
  ·exact tag (h.nmT i b (by simpa [Az,e']using e)) (by simp)
 ·by_cases e1:i=k<;>by_cases e2:j=k
  ·omega
  ·exfalso;obtain rfl:w.heap.size=f:=(by simpa [Az,e1]using h1);have:=h.nmT j _ (by simpa [Az,e2]using h2);rw[fT]at this;simp at this
  ·exfalso;obtain rfl:w.heap.size=f:=(by simpa [Az,e2]using h2);have:=h.nmT i _ (by simpa [Az,e1]using h1);rw[fT]at this;simp at this
  ·exact h.inj i j f (by simpa [Az,e1]using h1) (by simpa [Az,e2]using h2)
 ·simpa [Az,show i≠k by omega]using h.out i (by omega)
 ·by_cases e1:b=w.heap.size
  ·subst e1;exact⟨hs,Co hf,.inl BB⟩
  ·by_cases e2:b=g
   ·subst e2;exact⟨hg,Nat.lt_of_lt_of_le BC hK.size,.inr ⟨_,tg'⟩⟩
   ·rw[AY e1,AY e2]at e ⊢;obtain⟨a,c,d⟩:=h.tg b e;exact⟨a,Nat.lt_of_lt_of_le c hK.size,d⟩
 ·by_cases e1:b=w.heap.size
  ·subst e1;refine⟨_,hf,.inr ⟨g,n,(List.range n).map Ah,?_,?_,by simpa using hn,fun x hx=>?_,tg'⟩⟩
   ·simp
   ·have:=(hR.rw (by omega)).keep hK (fun e=>by have e:g=kb:=e;omega);simpa [Aq,Function.comp_def]using this
   ·obtain⟨i,hi,rfl⟩:=List.mem_map.1 hx;exact hw i (by simpa using hi)
  ·have e2:T b=(10,0):=by
    by_cases e2:b=g
    ·subst e2;rw[tg']at e;simp at e
    ·rwa [AY e1,AY e2]at e
   obtain⟨v,a,c⟩:=h.fl b e2;refine⟨v,hK.old a (nk e2 (by simp)),?_⟩;rcases c with c|⟨g',c',ws,a1,a2,a3,a4,a5⟩
   ·exact .inl c
   ·exact .inr ⟨g',c',ws,a1,a2.keep hK (nk a5 (by simp)),a3,a4,tag a5 (by simp)⟩
def Jz (kb cb sb g pb ib fb:Nat) (T:Tag):Tag:=A8 (A8 (A8 (A8 (A8 (A8 (A8 T kb (1,0)) cb (2,0)) sb (3,0)) g (4,0)) pb (6,pb)) ib (7,pb)) fb (8,pb)
def Lj (kb cb sb g c pb ib fb C:Nat) (l:List (W_)) (nm:Nat->Option Nat) (T:Tag) (Ah:List Nat):KS:=
 { kb:=kb,cg:=cb,cc:=1,sg:=sb,sc:=1,pg:=g,pc:=c,BM:=1,core:=[(0,C)],swap:=l,AJ:=[pb],nl:=[],desc:=fun _=>0,op:=fun _=>0,nm:=nm,ef:=fun _=>none,ps:=Cu (fun _=>none) pb (Er ib fb Ah),T:=Jz kb cb sb g pb ib fb T }
section
variable {kb base k cb sb g c pb ib fb C M:Nat} {lJ ks ks':X_} {T:Tag} {nm:Nat->Option Nat} {w w0:World} {l:List (W_)} {Ah:List Nat}
theorem AQ.fresh (hF:GU kb base k lJ ks T nm w0) (hK:Ab (fun b=>b=kb\/b=sb\/b=pb) w0 w) (hk:w.heap[kb]?=some (.cells ks' 114 (0,0))) (k0:ks'[0]?=some (.slice (some (S_ cb)) 1 1)) (k1:ks'[1]?=some (.slice (some (S_ sb)) l.length 1)) (k2:ks'[2]?=some (.slice (some (S_ g)) 1 c)) (k3:ks'[3]?=some (.int .i64 1)) (kn:∀i,i<16->ks'[4+i]?=ks[4+i]?) (k20:ks'[20]?=some (.slice none 0 0)) (ke:∀i,i<20->ks'[21+i*2]?=some .nilIface/\ks'[21+i*2+1]?=some (.int .i64 0))
  (mc:Mp 186 w cb 1 [(0,C)]) (ms:Mp 188 w sb 1 l) (pr:Rw 119 1 w g 1 c (Bf [pb])) (hp:w.heap[pb]?=some (Er ib fb Ah).obj) (hi:Rw 123 1 w ib Ah.length Ah.length (Aq Ah)) (hf:Rw 3 1 w fb 6 6 (Ep [-1,-1,-1,-1,-1,-1])) (tkb:kb<base) (tsb:sb<base) (tcb:cb<base) (tz:T g=(0,0)/\T pb=(0,0)/\T ib=(0,0)/\T fb=(0,0)):AQ (Lj kb cb sb g c pb ib fb C l nm T Ah) w:=by
 have low:∀{x},x<base->T x=(0,0):=fun {x} hx=>by
  cases Decidable.em (T x=(0,0))with
  | inl e=>exact e
  | inr e=>have:=(hF.tg _ e).1;omega
 obtain⟨tg,tp,ti,tf⟩:=tz;obtain⟨_,b1,_⟩:=mc.blk;obtain⟨_,b2,_⟩:=ms.blk;obtain⟨_,b3,_⟩:=pr.blk;obtain⟨_,b4,_⟩:=hi.blk;obtain⟨_,b5,_⟩:=hf.blk;have n1:kb≠cb:=BG hk b1 (by decide);have n2:kb≠sb:=BG hk b2 (by decide);have n3:kb≠g:=BG hk b3 (by decide);have n4:kb≠pb:=BG hk hp (by decide);have n5:kb≠ib:=BG hk b4 (by decide);have n6:kb≠fb:=BG hk b5 (by decide);have n7:cb≠sb:=BG b1 b2 (by decide);have n8:cb≠g:=BG b1 b3 (by decide);have n9:cb≠pb:=BG b1 hp (by decide);have n10:cb≠ib:=BG b1 b4 (by decide);have n11:cb≠fb:=BG b1 b5 (by decide);have n12:sb≠g:=BG b2 b3 (by decide);have n13:sb≠pb:=BG b2 hp (by decide);have n14:sb≠ib:=BG b2 b4 (by decide);have n15:sb≠fb:=BG b2 b5 (by decide);have n16:g≠pb:=BG b3 hp (by decide);have n17:g≠ib:=BG b3 b4 (by decide);have n18:g≠fb:=BG b3 b5 (by decide);have n19:pb≠ib:=BG hp b4 (by decide);have n20:pb≠fb:=BG hp b5 (by decide);have n21:ib≠fb:=BG b4 b5 (by decide);have t1:Jz kb cb sb g pb ib fb T kb=(1,0):=by simp[Jz,A8,n1,n2,n3,n4,n5,n6]
 have t2:Jz kb cb sb g pb ib fb T cb=(2,0):=by simp[Jz,A8,n7,n8,n9,n10,n11]
 have t3:Jz kb cb sb g pb ib fb T sb=(3,0):=by simp[Jz,A8,n12,n13,n14,n15]
 have t4:Jz kb cb sb g pb ib fb T g=(4,0):=by simp[Jz,A8,n16,n17,n18]
 have t6:Jz kb cb sb g pb ib fb T pb=(6,pb):=by simp[Jz,A8,n19,n20]
 have t7:Jz kb cb sb g pb ib fb T ib=(7,pb):=by simp[Jz,A8,n21]
 have t8:Jz kb cb sb g pb ib fb T fb=(8,pb):=by simp[Jz,A8]
 have tag:∀{b t},T b=t->t≠(0,0)->Jz kb cb sb g pb ib fb T b=t:=fun {b t} h1 h2=>by
  have ne:∀{x},T x=(0,0)->b≠x:=fun hx e=>by subst e;exact h2 (h1.symm.trans hx)
  unfold Jz
  rw[AY (ne tf),AY (ne ti),AY (ne tp),AY (ne tg),AY (ne (low tsb)),AY (ne (low tcb)),AY (ne (low tkb))]
  exact h1
 have back:∀{b t},Jz kb cb sb g pb ib fb T b=t->9<=t.1->T b=t:=fun {b t} h1 h2=>by
  by_cases e1:b=fb
  ·subst e1;rw[t8]at h1;subst h1;simp at h2
  by_cases e2:b=ib
  ·subst e2;rw[t7]at h1;subst h1;simp at h2
  by_cases e3:b=pb
  ·subst e3;rw[t6]at h1;subst h1;simp at h2
  by_cases e4:b=g
  ·subst e4;rw[t4]at h1;subst h1;simp at h2
  by_cases e5:b=sb
  ·subst e5;rw[t3]at h1;subst h1;simp at h2
  by_cases e6:b=cb
  ·subst e6;rw[t2]at h1;subst h1;simp at h2
  by_cases e7:b=kb
  ·subst e7;rw[t1]at h1;subst h1;simp at h2
  unfold Jz at h1
  rwa [AY e1,AY e2,AY e3,AY e4,AY e5,AY e6,AY e7]at h1
 have tq:∀{b t},T b=t->t≠(0,0)->¬t=(10,0)->(∀f,¬t=(15,f))->False:=fun {b t} h1 h2 h3 h4=>by
  rcases(hF.tg b (by rw[h1];exact h2)).2.2 with e|⟨f,e⟩
  ·exact h3 (h1.symm.trans e)
  ·exact h4 f (h1.symm.trans e)
 have nk:∀{b t},T b=t->t≠(0,0)->¬(b=kb\/b=sb\/b=pb):=fun {b t} h1 h2 e=>by
  rcases e with rfl|rfl|rfl
  ·exact h2 (h1.symm.trans (low tkb))
  ·exact h2 (h1.symm.trans (low tsb))
  ·exact h2 (h1.symm.trans tp)
 refine⟨⟨ks',hk,⟨k0,k1,k2,k3,fun i hi=>⟨(kn i hi).trans (hF.nmv i hi),fun b e=>tag (hF.nmT i b e) (by simp)⟩,⟨_,k20,.inl ⟨rfl,rfl⟩,fun _ h=>by cases h⟩,fun i hi=>⟨.nilIface,(ke i hi).1,(ke i hi).2,rfl,fun h=>absurd h (by simp[Lj])⟩⟩⟩,mc,ms,pr,fun b r e=>?_,⟨fun b e=>?_,fun b e=>?_,fun b f e=>?_,fun b e=>?_,fun b e=>?_⟩,t1,t2,t3,t4,fun b hb=>?_⟩
 ·have e:Cu (fun _=>none) pb (Er ib fb Ah) b=some r:=e;by_cases e':b=pb
  ·subst e';rw[Al]at e;cases e;exact⟨t6,hp,fun _=>⟨ib,Ah.length,rfl,hi,t7⟩,fun _=>⟨fb,6,rfl,hf,t8⟩,.inl rfl,fun h=>by cases h⟩
  ·rw[BI e']at e;cases e
 ·have e:=back e (by simp);obtain⟨v,a,d⟩:=hF.fl b e;refine⟨v,hK.old a (nk e (by simp)),?_⟩;rcases d with d|⟨x,y,ws,a1,a2,a3,a4,a5⟩
  ·exact .inl d
  ·exact .inr ⟨x,y,ws,a1,a2.keep hK (nk a5 (by simp)),a3,a4,tag a5 (by simp)⟩
 ·exact(tq (back e (by simp)) (by simp) (by simp) (by simp)).elim
 ·exact(tq (back e (by simp)) (by simp) (by simp) (by simp)).elim
 ·exact(tq (back e (by simp)) (by simp) (by simp) (by simp)).elim
 ·exact(tq (back e (by simp)) (by simp) (by simp) (by simp)).elim
 ·have l0:=Co hk;have l1:=Co b1;have l2:=Co b2;have l3:=Co b3;have l4:=Co b4;have l5:=Co b5;have l6:=Co hp;show Jz kb cb sb g pb ib fb T b=(0,0);unfold Jz;rw[AY (by omega),AY (by omega),AY (by omega),AY (by omega),AY (by omega),AY (by omega),AY (by omega)];cases Decidable.em (T b=(0,0))with
  | inl e=>exact e
  | inr e=>have:=(hF.tg _ e).2.1;have:=hK.size;omega
theorem DZ.fresh (hC:16<=C/\C<=64) (hM:M<=256) (hi:∃q,Ah.length=8*q/\1<=q/\q<=16) (hw:∀x∈Ah,x<65536) (hn:Ap Ah.length<=M) (hl:l=(Aw [(0,M)] (Ap Ah.length)).2) (inj:∀i j f,nm i=some f->nm j=some f->i=j):DZ C M (Lj kb cb sb g c pb ib fb C l nm T Ah):=by
 obtain⟨q,q1,q2,q3⟩:=hi;have Jv:1<=Ap Ah.length:=by rw[q1];unfold Ap;omega
 have hq:Ap Ah.length=q:=by rw[q1];unfold Ap;omega
 have get:∀{b r},(Lj kb cb sb g c pb ib fb C l nm T Ah).ps b=some r->b=pb/\r=Er ib fb Ah:=fun {b r} e=>by
  have e:Cu (fun _=>none) pb (Er ib fb Ah) b=some r:=e
  by_cases e':b=pb
  ·subst e';rw[Al]at e;cases e;exact⟨rfl,rfl⟩
  ·rw[BI e']at e;cases e
 have here:(Lj kb cb sb g c pb ib fb C l nm T Ah).ps pb=some (Er ib fb Ah):=by simp[Lj,Cu]
 have hl':l=if M=Ap Ah.length then[]else[(Ap Ah.length,M-Ap Ah.length)]:=by rw[hl,take_one Jv hn]
 refine⟨fun b hb=>?_,by simp[Lj],by simp[Lj],⟨by omega,?_,?_,fun b r e=>?_⟩,⟨by omega,?_,?_,fun b r e _=>?_⟩,fun b r e=>?_,fun b r e=>?_,fun b r b' r' _ _ e e' _=>?_,by simp[Lj],?_⟩
 ·obtain rfl:b=pb:=by simpa [Lj]using hb
  exact⟨_,here⟩
 ·intro r hr;obtain rfl:r=(0,C):=by simpa [Lj]using hr
  simp;omega
 ·show Dw [(0,C)]+CS (Mf _) [pb]+0=C;simp only[Dw,CS];rw[DV here];simp[Er]
 ·obtain⟨rfl,rfl⟩:=get e;exact⟨by show Ah.length<=128;omega,.inl rfl⟩
 ·intro r hr;have hr:r∈l:=hr;rw[hl']at hr;split at hr
  ·cases hr
  ·obtain rfl:r=(Ap Ah.length,M-Ap Ah.length):=(by simpa using hr);simp;omega
 ·show Dw l+CS (Vk _) [pb]+0=M;simp only[CS];rw[GX here];show Dw l+(Ap Ah.length+0)+0=M;rw[hl'];split
  ·simp[Dw];omega
  ·simp[Dw];omega
 ·obtain⟨rfl,rfl⟩:=get e;show 0+Ap Ah.length<=M;omega
 ·obtain⟨rfl,rfl⟩:=get e;refine⟨by simp[Er],by simp[Er],by simp[Er],by simp[Er],by simp[Er],by simp[Er],hw,fun _=>rfl,fun n hn=>.inl (by simpa [Er]using hn),fun _=>⟨q,q1,q2,q3⟩,fun h=>by cases h⟩
 ·obtain⟨rfl,rfl⟩:=get e;simp[Er,Lj]
 ·obtain⟨rfl,_⟩:=get e;obtain⟨rfl,_⟩:=get e'
  rfl
 ·have hz:∀i,Bi (Lj kb cb sb g c pb ib fb C l nm T Ah).ps [pb] i=0:=fun i=>by
   unfold Bi
   simp only[CS]
   rw[Fw here]
   have:(Er ib fb Ah).fds.count (i:Int)=0:=by
    rw[List.count_eq_zero]
    intro h
    simp[Er]at h
   omega
  refine⟨fun i _=>(hz i).symm,fun i _=>by rw[show(Lj kb cb sb g c pb ib fb C l nm T Ah).AJ=[pb]from rfl,hz];omega,fun f=>?_,by simp[Lj],(fun f hf=>by simp[Lj]at hf),fun i j f _ _=>inj i j f,fun i f _ _ h=>by simp[Lj]at h⟩;have:Dj (fun _=>0) (fun _=>none) f=0:=by
   cases hz:Dj (fun _=>0) (fun _=>none) f with
   | zero=>rfl
   | succ n=>
    obtain⟨i,_,h1⟩:=Pt (f:=fun i=>if 0<(fun _:Nat=>0) i/\(fun _:Nat=>(none:Option Nat)) i=some f then 1 else 0) (l:=List.range 20) (by unfold Dj at hz;omega)
    simp at h1
  exact this.symm
end
end Go.Fxa
