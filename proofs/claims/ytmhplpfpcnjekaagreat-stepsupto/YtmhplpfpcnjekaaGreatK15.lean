/- Start makes its channels and its Run, in whatever order. What a call leaves as it was: all blocks but some; words for blocks of memory. The plain functions, one by one. -/
import Derived.Test.YtmhplpfpcnjekaaGreatK14
import Derived.OrdersIn
import Derived.Below
import Derived.WalkSmall
namespace Go.Fxa
open Go.Conc
open Go.Proofs
def dta (l:List Nat):Array Edge:=(l.map fun n=>{ on:=n,ground:=Ground.data }).toArray
def mkCh (t d:Nat):Oper:={ dst:=some d,op:=Op.makeChan t (Operand.const (Value.int IntKind.i64 0)),type:=t,pos:= "run.go:22",after:=#[],guard:=none }
def oBuild:Oper:={ dst:=some 10,op:=Op.build 257 #[(0,Operand.tmp 6),(1,Operand.tmp 7),(2,Operand.tmp 8),(3,Operand.tmp 9)],type:=257,pos:= "run.go:22",after:=dta [0,1,2,3],guard:=none }
def oBox:Oper:={ dst:=some 11,op:=Op.box 257 (Operand.tmp 10),type:=200,pos:= "run.go:22",after:=dta [4],guard:=none }
def oAlloc:Oper:={ dst:=some 5,op:=Op.alloc 200,type:=0,pos:= "run.go:22",after:=#[],guard:=none }
def oStore:Oper:={ dst:=none,op:=Op.store 200 (Operand.tmp 5) (Operand.tmp 11),type:=0,pos:= "run.go:22",after:=dta [6,5]++([0,1,2,3,4,5,6].map fun n=>{ on:=n,ground:=Ground.phase }).toArray,guard:=none }
def S1o:Array Oper:=#[mkCh 244 6,mkCh 245 7,mkCh 246 8,mkCh 247 9,oBuild,oBox,oAlloc,oStore]
theorem S1_eq:S1 Tryz.prog=Code.region 1 S1o true:=by kernel_rfl
def chObj:Obj:=.chan 0 #[] false 0 0 false
def AG (q:Nat→Nat):Array Value:=#[chn (q 0),chn (q 1),chn (q 2),chn (q 3),.int .u64 0,.int .u32 0]
def sl (a:Act) (i:Nat):Value:=a.tmps.getD i undef
structure Made (v:World) (b2 b3:Nat) (ls:Nat→Bool) (a:Act) (w:World) (q:Nat→Nat) (b r:Nat):Prop where
 size:a.tmps.size=18
 defers:a.defers=[]
 t2:sl a 2=pr b2
 t3:sl a 3=pr b3
 grows:Grows v w
 ch:∀k,k<4→ls k=true→sl a (6+k)=chn (q k)∧w.heap[q k]?=some chObj∧v.heap.size≤q k
 ne:∀k k',k<4→k'<4→k≠k'→ls k=true→ls k'=true→q k≠q k'
 al:ls 6=true→sl a 5=pr b∧w.heap[b]?=some (.cells #[.pointer none] 200 (0,0))∧v.heap.size≤b
 bd:ls 4=true→sl a 10=.agg (AG q)∧∀k,k<4→ls k=true
 bx:ls 5=true→sl a 11=pr r∧w.heap[r]?=some (.cells (AG q) 257 (0,0))∧v.heap.size≤r∧ls 4=true
section
variable {v w:World} {b2 b3:Nat} {ls:Nat→Bool} {a:Act} {q:Nat→Nat} {b r:Nat}
theorem sl_put (h:a.tmps.size=18) {d:Nat} (hd:d<18) (x:Value) (i:Nat):sl (a.put (some d) x) i=if i=d then x else sl a i:=by
 unfold sl Act.put
 simp only[Array.getD_eq_getD_getElem?,Array.getElem?_setIfInBounds]
 by_cases e:d=i
 ·subst e;simp[h,hd]
 ·simp[e,Ne.symm e]
theorem grows_old {o:Obj} {x:Nat} {ob:Obj} (h:w.heap[x]?=some ob):(w.alloc o).heap[x]?=some ob:=by
 have:=(Array.getElem?_eq_some_iff.1 h).1
 exact((aj5 w o).2.1 x this).trans h
theorem alloc_new (o:Obj):(w.alloc o).heap[w.heap.size]?=some o:=by
 show(w.heap.push o)[w.heap.size]?=some o
 simp
def onl (ls:Nat→Bool) (i:Nat) (j:Nat):Bool:=if j=i then true else ls j
theorem Made.chan (M:Made v b2 b3 ls a w q b r) {k:Nat} (hk:k<4) (h4:ls 4=false):Made v b2 b3 (onl ls k) (a.put (some (6+k)) (chn w.heap.size)) (w.alloc chObj) (fun j=>if j=k then w.heap.size else q j) b r:=by
 have hs:=sl_put M.size (d:=6+k) (by omega) (chn w.heap.size)
 have hq:∀j,j<4→ls j=true→q j<w.heap.size:=fun j hj h=>(Array.getElem?_eq_some_iff.1 (M.ch j hj h).2.1).1
 refine⟨by simp[Act.put,M.size],by simp[Act.put,M.defers],?_,?_,M.grows.trans (aj5 _ _),fun j hj hl=>?_,fun j j' hj hj' hne h h'=>?_,fun h=>?_,fun h=>?_,fun h=>?_⟩
 ·rw[hs,if_neg (by omega)];exact M.t2
 ·rw[hs,if_neg (by omega)];exact M.t3
 ·by_cases e:j=k
  ·subst e
   simp only[if_true]
   exact⟨by rw[hs,if_pos rfl],alloc_new _,M.grows.1⟩
  ·simp only[onl,if_neg e]at hl ⊢
   obtain⟨k1,k2,k3⟩:=M.ch j hj hl
   exact⟨by rw[hs,if_neg (by omega)];exact k1,grows_old k2,k3⟩
 ·simp only[onl]at h h'
  by_cases e:j=k
  ·by_cases e':j'=k
   ·omega
   ·simp only[if_pos e,if_neg e']at h' ⊢
    have:=hq j' hj' h'
    omega
  ·by_cases e':j'=k
   ·simp only[if_neg e,if_pos e']at h ⊢
    have:=hq j hj h
    omega
   ·simp only[if_neg e,if_neg e']at h h' ⊢
    exact M.ne j j' hj hj' hne h h'
 ·simp only[onl,if_neg (show ¬(6=k) by omega)]at h
  obtain⟨k1,k2,k3⟩:=M.al h
  exact⟨by rw[hs,if_neg (by omega)];exact k1,grows_old k2,k3⟩
 ·simp only[onl,if_neg (show ¬(4=k) by omega),h4]at h
  cases h
 ·simp only[onl,if_neg (show ¬(5=k) by omega)]at h
  have:=(M.bx h).2.2.2
  rw[h4]at this
  cases this
theorem Made.alloc (M:Made v b2 b3 ls a w q b r):Made v b2 b3 (onl ls 6) (a.put (some 5) (pr w.heap.size)) (w.alloc (.cells #[.pointer none] 200)) q w.heap.size r:=by
 have hs:=sl_put M.size (d:=5) (by omega) (pr w.heap.size)
 refine⟨by simp[Act.put,M.size],by simp[Act.put,M.defers],?_,?_,M.grows.trans (aj5 _ _),fun j hj hl=>?_,fun j j' hj hj' hne h h'=>?_,fun h=>?_,fun h=>?_,fun h=>?_⟩
 ·rw[hs,if_neg (by omega)];exact M.t2
 ·rw[hs,if_neg (by omega)];exact M.t3
 ·simp only[onl,if_neg (show ¬(j=6) by omega)]at hl
  obtain⟨k1,k2,k3⟩:=M.ch j hj hl
  exact⟨by rw[hs,if_neg (by omega)];exact k1,grows_old k2,k3⟩
 ·simp only[onl,if_neg (show ¬(j=6) by omega),if_neg (show ¬(j'=6) by omega)]at h h'
  exact M.ne j j' hj hj' hne h h'
 ·exact⟨by rw[hs,if_pos rfl],alloc_new _,M.grows.1⟩
 ·obtain⟨k1,k2⟩:=M.bd h
  exact⟨by rw[hs,if_neg (by omega)];exact k1,fun k hk=>by simp only[onl,if_neg (show ¬(k=6) by omega)];exact k2 k hk⟩
 ·obtain⟨k1,k2,k3,k4⟩:=M.bx h
  exact⟨by rw[hs,if_neg (by omega)];exact k1,grows_old k2,k3,k4⟩
theorem Made.build (M:Made v b2 b3 ls a w q b r) (hd:∀k,k<4→ls k=true) (h5:ls 5=false):Made v b2 b3 (onl ls 4) (a.put (some 10) (.agg (AG q))) w q b r:=by
 have hs:=sl_put M.size (d:=10) (by omega) (.agg (AG q))
 refine⟨by simp[Act.put,M.size],by simp[Act.put,M.defers],?_,?_,M.grows,fun j hj hl=>?_,fun j j' hj hj' hne h h'=>?_,fun h=>?_,fun h=>?_,fun h=>?_⟩
 ·rw[hs,if_neg (by omega)];exact M.t2
 ·rw[hs,if_neg (by omega)];exact M.t3
 ·obtain⟨k1,k2,k3⟩:=M.ch j hj (hd j hj)
  exact⟨by rw[hs,if_neg (by omega)];exact k1,k2,k3⟩
 ·exact M.ne j j' hj hj' hne (hd j hj) (hd j' hj')
 ·obtain⟨k1,k2,k3⟩:=M.al h
  exact⟨by rw[hs,if_neg (by omega)];exact k1,k2,k3⟩
 ·exact⟨by rw[hs,if_pos rfl],fun k hk=>by simp only[onl,if_neg (show ¬(k=4) by omega)];exact hd k hk⟩
 ·simp only[onl,if_neg (show ¬(5=4) by omega),h5]at h
  cases h
theorem Made.box (M:Made v b2 b3 ls a w q b r) (h4:ls 4=true):Made v b2 b3 (onl ls 5) (a.put (some 11) (pr w.heap.size)) (w.alloc (.cells (AG q) 257)) q b w.heap.size:=by
 have hs:=sl_put M.size (d:=11) (by omega) (pr w.heap.size)
 refine⟨by simp[Act.put,M.size],by simp[Act.put,M.defers],?_,?_,M.grows.trans (aj5 _ _),fun j hj hl=>?_,fun j j' hj hj' hne h h'=>?_,fun h=>?_,fun h=>?_,fun h=>?_⟩
 ·rw[hs,if_neg (by omega)];exact M.t2
 ·rw[hs,if_neg (by omega)];exact M.t3
 ·simp only[onl,if_neg (show ¬(j=5) by omega)]at hl
  obtain⟨k1,k2,k3⟩:=M.ch j hj hl
  exact⟨by rw[hs,if_neg (by omega)];exact k1,grows_old k2,k3⟩
 ·simp only[onl,if_neg (show ¬(j=5) by omega),if_neg (show ¬(j'=5) by omega)]at h h'
  exact M.ne j j' hj hj' hne h h'
 ·obtain⟨k1,k2,k3⟩:=M.al h
  exact⟨by rw[hs,if_neg (by omega)];exact k1,grows_old k2,k3⟩
 ·obtain⟨k1,k2⟩:=M.bd h
  exact⟨by rw[hs,if_neg (by omega)];exact k1,fun k hk=>by simp only[onl,if_neg (show ¬(k=5) by omega)];exact k2 k hk⟩
 ·exact⟨by rw[hs,if_pos rfl],alloc_new _,M.grows.1,by simp only[onl,if_neg (show ¬(4=5) by omega)];exact h4⟩
end
/-! ### the operations -/
section
variable {n:Nat} {Q:Exit→Act→World→Prop} {K:Act→World→Prop} {a:Act} {w w':World} {ops:Array Oper} {i:Nat} {o:Oper} {x:Value}
theorem op_val (hi:ops[i]?=some o) (hg:o.guard=none) (hn:o.about Tryz.prog w a.eval=none) (hr:(execOp a.eval o).run Tryz.prog w=.ok (.value x) w') (h:K (a.put o.dst x) w'):wpOpIn NF n Tryz.prog ops Q i K a w:=by
 unfold wpOpIn
 simp only[hi]
 rw[if_pos (by simp[Region.wanted,hg])]
 refine⟨fun f hf=>(by rw[hn]at hf;cases hf),?_⟩
 show Oper.uponIn NF n Tryz.prog o a K Q ((execOp a.eval o).run Tryz.prog w)
 rw[hr]
 exact h
theorem op_skip (hi:ops[i]?=some o) (hg:o.guard=none) (hn:o.about Tryz.prog w a.eval=none) (hr:(execOp a.eval o).run Tryz.prog w=.ok .skip w') (h:K (a.put o.dst undef) w'):wpOpIn NF n Tryz.prog ops Q i K a w:=by
 unfold wpOpIn
 simp only[hi]
 rw[if_pos (by simp[Region.wanted,hg])]
 refine⟨fun f hf=>(by rw[hn]at hf;cases hf),?_⟩
 show Oper.uponIn NF n Tryz.prog o a K Q ((execOp a.eval o).run Tryz.prog w)
 rw[hr]
 exact h
theorem run_ch0:(execOp a.eval (mkCh 244 6)).run Tryz.prog w=.ok (.value (chn w.heap.size)) (w.alloc chObj):=by kernel_rfl
theorem run_ch1:(execOp a.eval (mkCh 245 7)).run Tryz.prog w=.ok (.value (chn w.heap.size)) (w.alloc chObj):=by kernel_rfl
theorem run_ch2:(execOp a.eval (mkCh 246 8)).run Tryz.prog w=.ok (.value (chn w.heap.size)) (w.alloc chObj):=by kernel_rfl
theorem run_ch3:(execOp a.eval (mkCh 247 9)).run Tryz.prog w=.ok (.value (chn w.heap.size)) (w.alloc chObj):=by kernel_rfl
theorem run_alloc:(execOp a.eval oAlloc).run Tryz.prog w=.ok (.value (pr w.heap.size)) (w.alloc (.cells #[.pointer none] 200)):=by kernel_rfl
theorem run_build' {q:Nat→Nat}:((Instr.build 257 #[(0,chn (q 0)),(1,chn (q 1)),(2,chn (q 2)),(3,chn (q 3))])>>= fun x=>pure (Next.value x):Sem Next).run Tryz.prog w=.ok (.value (.agg (AG q))) w:=by kernel_rfl
theorem run_build {q:Nat→Nat} (h:∀k,k<4→sl a (6+k)=chn (q k)):(execOp a.eval oBuild).run Tryz.prog w=.ok (.value (.agg (AG q))) w:=by
 have h0:a.eval (.tmp 6)=chn (q 0):=h 0 (by omega)
 have h1:a.eval (.tmp 7)=chn (q 1):=h 1 (by omega)
 have h2:a.eval (.tmp 8)=chn (q 2):=h 2 (by omega)
 have h3:a.eval (.tmp 9)=chn (q 3):=h 3 (by omega)
 have e:execOp a.eval oBuild=((Instr.build 257 #[(0,a.eval (.tmp 6)),(1,a.eval (.tmp 7)),(2,a.eval (.tmp 8)),(3,a.eval (.tmp 9))])>>= fun x=>pure (Next.value x)):=by kernel_rfl
 rw[e,h0,h1,h2,h3]
 exact run_build'
theorem run_box' {q:Nat→Nat}:(Instr.box 257 (.agg (AG q))>>= fun x=>pure (Next.value x):Sem Next).run Tryz.prog w=.ok (.value (pr w.heap.size)) (w.alloc (.cells (AG q) 257)):=by kernel_rfl
theorem run_box {q:Nat→Nat} (h:sl a 10=.agg (AG q)):(execOp a.eval oBox).run Tryz.prog w=.ok (.value (pr w.heap.size)) (w.alloc (.cells (AG q) 257)):=by
 have e:execOp a.eval oBox=(Instr.box 257 (sl a 10)>>= fun x=>pure (Next.value x)):=rfl
 rw[e,h]
 exact run_box'
theorem run_store {b r:Nat} (h5:sl a 5=pr b) (h11:sl a 11=pr r) (hb:w.heap[b]?=some (.cells #[.pointer none] 200 (0,0))):(execOp a.eval oStore).run Tryz.prog w=.ok .skip (w.setCell ⟨b,0,none⟩ (pr r)):=by
 have e:execOp a.eval oStore=(Instr.storeAt 200 (sl a 5) (sl a 11)>>= fun _=>pure Next.skip):=rfl
 rw[e,h5,h11]
 have hc:w.cell? ⟨b,0,none⟩=some (.pointer none):=by simp[World.cell?,hb]
 have hf:w.frozen? ⟨b,0,none⟩=false:=by simp[World.frozen?,hb]
 have e2:(Instr.storeAt 200 (pr b) (pr r)>>= fun _=>pure Next.skip:Sem Next).run Tryz.prog w=(Sem.store .plain ⟨b,0,none⟩ (pr r) (.pure Next.skip)).run Tryz.prog w:=by kernel_rfl
 rw[e2]
 have e3:(Sem.store .plain ⟨b,0,none⟩ (pr r) (.pure Next.skip)).run Tryz.prog w=(match w.cell? ⟨b,0,none⟩with
  | some _=>if w.frozen? ⟨b,0,none⟩then .halt (.unsupported (.unsafePointer "a write to bytes that a string shares")) w else .ok .skip (w.setCell ⟨b,0,none⟩ (pr r))
  | none=>match w.farStore Tryz.prog ⟨b,0,none⟩ (pr r) false with
   | .ok (w,_)=>.ok .skip w
   | .error h=>.halt h w):=rfl
 rw[e3,hc,hf]
 rfl
/-! ### whichever comes next -/
theorem ready_of {l:Array Bool} {i:Nat} (h:i∈Region.ready .any S1o l):i<8∧l.getD i true=false∧(i=4→∀k,k<4→l.getD k false=true)∧(i=5→l.getD 4 false=true)∧(i=7→∀k,k<7→l.getD k false=true):=by
 simp only[Region.ready,List.mem_filter,List.mem_range,Bool.and_eq_true,Bool.not_eq_true']at h
 obtain⟨h1,h2,h3⟩:=h
 have h1':i<8:=h1
 refine⟨h1',h2,fun e=>?_,fun e=>?_,fun e=>?_⟩
 ·subst e
  simp[S1o,oBuild,dta,Region.binds]at h3
  intro k hk
  match k,hk with
  | 0,_=>simp[h3]
  | 1,_=>simp[h3]
  | 2,_=>simp[h3]
  | 3,_=>simp[h3]
 ·subst e
  simp[S1o,oBox,dta,Region.binds]at h3
  simp[h3]
 ·subst e
  simp[S1o,oStore,dta,Region.binds]at h3
  intro k hk
  match k,hk with
  | 0,_=>simp[h3]
  | 1,_=>simp[h3]
  | 2,_=>simp[h3]
  | 3,_=>simp[h3]
  | 4,_=>simp[h3]
  | 5,_=>simp[h3]
  | 6,_=>simp[h3]
theorem ready_full {l:Array Bool} (h:∀k,k<8→l.getD k true=true):Region.ready .any S1o l=[]:=by
 refine List.filter_eq_nil_iff.2 fun i hi=>?_
 have:=h i (List.mem_range.1 hi)
 rw[this]
 simp
theorem ready_empty {l:Array Bool} (hs:l.size=8) (h:Region.ready .any S1o l=[]):∀k,k<8→l.getD k true=true:=by
 have nr:∀i,i<8→((S1o[i]?).map (·.after.all fun e=>!Region.binds .any e || l.getD e.on false)).getD false=true→l.getD i false=true:=fun i hi hm=>by
  cases hc:l.getD i true with
  | true=>simpa [Array.getD,hs,hi]using hc
  | false=>
   have:i∈Region.ready .any S1o l:=List.mem_filter.2 ⟨List.mem_range.2 hi,by rw[hc,hm];rfl⟩
   rw[h]at this
   cases this
 have h0:=nr 0 (by omega) (by simp[S1o,mkCh])
 have q0:l[0]'(by omega)=true:=by simpa [Array.getD,hs]using h0
 have h1:=nr 1 (by omega) (by simp[S1o,mkCh])
 have q1:l[1]'(by omega)=true:=by simpa [Array.getD,hs]using h1
 have h2:=nr 2 (by omega) (by simp[S1o,mkCh])
 have q2:l[2]'(by omega)=true:=by simpa [Array.getD,hs]using h2
 have h3:=nr 3 (by omega) (by simp[S1o,mkCh])
 have q3:l[3]'(by omega)=true:=by simpa [Array.getD,hs]using h3
 have h6:=nr 6 (by omega) (by simp[S1o,oAlloc])
 have q6:l[6]'(by omega)=true:=by simpa [Array.getD,hs]using h6
 have h4:=nr 4 (by omega) (by
  simp only[S1o,oBuild,dta]
  simp only[List.map_cons,List.map_nil]
  simp[Region.binds, *])
 have q4:l[4]'(by omega)=true:=by simpa [Array.getD,hs]using h4
 have h5:=nr 5 (by omega) (by
  simp only[S1o,oBox,dta]
  simp only[List.map_cons,List.map_nil]
  simp[Region.binds, *])
 have q5:l[5]'(by omega)=true:=by simpa [Array.getD,hs]using h5
 have h7:=nr 7 (by omega) (by
  simp only[S1o,oStore,dta]
  simp only[List.map_cons,List.map_nil]
  simp[Region.binds, *])
 intro k hk
 have:l.getD k false=true:=by
  match k,hk with
  | 0,_=>exact h0
  | 1,_=>exact h1
  | 2,_=>exact h2
  | 3,_=>exact h3
  | 4,_=>exact h4
  | 5,_=>exact h5
  | 6,_=>exact h6
  | 7,_=>exact h7
 simpa [Array.getD,hs,hk]using this
theorem ls_set {l:Array Bool} (hs:l.size=8) {i:Nat} (hi:i<8):(fun j=>(l.setIfInBounds i true).getD j false)=onl (fun j=>l.getD j false) i:=by
 funext j
 unfold onl
 simp only[Array.getD_eq_getD_getElem?,Array.getElem?_setIfInBounds]
 by_cases e:i=j
 ·subst e;simp[hs,hi]
 ·simp[e,Ne.symm e]
theorem count_set {l:Array Bool} {i:Nat} (h:l.getD i true=false):(l.setIfInBounds i true).toList.count true=l.toList.count true+1:=by
 have hi:i<l.size:=by
  by_cases hi:i<l.size
  ·exact hi
  ·simp[Array.getD,hi]at h
 have hv:l[i]=false:=by simpa [Array.getD,hi]using h
 rw[Array.setIfInBounds,dif_pos hi]
 simp only[Array.toList_set]
 rw[List.count_set (by simpa using hi)]
 simp[hv]
theorem made_any {v:World} {b2 b3:Nat} (hQ:∀a w q b r,Made v b2 b3 (fun _=>true) a w q b r→Q .normal a (w.setCell ⟨b,0,none⟩ (pr r))):∀(fuel:Nat) (l:Array Bool) (a:Act) (w:World) (q:Nat→Nat) (b r:Nat),l.size=8→l.getD 7 true=false→l.toList.count true+fuel=8→
  Made v b2 b3 (fun i=>l.getD i false) a w q b r→wpAnyIn NF n Tryz.prog .any S1o Q fuel l a w
 | 0,l,a,w,q,b,r,hs,h7,hc,M=>by
  exfalso
  have:∀x∈l.toList,true=x:=by
   apply List.count_eq_length.1
   rw[Array.length_toList]
   omega
  have h7':l.toList[7]?=some false:=by
   simpa [Array.getD,hs]using h7
  have:=this false (List.mem_of_getElem? h7')
  cases this
 | fuel+1,l,a,w,q,b,r,hs,h7,hc,M=>by
  refine⟨fun hn=>?_,fun i hi=>?_⟩
  ·have:=ready_empty hs hn 7 (by omega)
   rw[h7]at this
   cases this
  ·obtain⟨hi8,hl,d4,d5,d7⟩:=ready_of hi
   have hlf:l.getD i false=false:=by simpa [Array.getD,hs,hi8]using hl
   have next:∀(a':Act) (w':World) (q':Nat→Nat) (b' r':Nat),i≠7→Made v b2 b3 (onl (fun j=>l.getD j false) i) a' w' q' b' r'→wpAnyIn NF n Tryz.prog .any S1o Q fuel (l.setIfInBounds i true) a' w':=fun a' w' q' b' r' hne M'=>by
    refine made_any hQ fuel _ a' w' q' b' r' (by simp[hs]) ?_ (by rw[count_set hl];omega) (by rw[ls_set hs hi8];exact M')
    simp only[Array.getD_eq_getD_getElem?,Array.getElem?_setIfInBounds_ne hne]
    simpa [Array.getD_eq_getD_getElem?]using h7
   have n4:i<4→l.getD 4 false=false:=fun h=>by
    cases e:l.getD 4 false with
    | false=>rfl
    | true=>have:=(M.bd e).2 i h;rw[hlf]at this;cases this
   match i,hi8,hl,hlf,d4,d5,d7,next,n4 with
   | 0,_,hl,hlf,_,_,_,next,n4=>exact op_val (o:=mkCh 244 6) rfl rfl rfl run_ch0 (next _ _ _ _ _ (by omega) (M.chan (k:=0) (by omega) (n4 (by omega))))
   | 1,_,hl,hlf,_,_,_,next,n4=>exact op_val (o:=mkCh 245 7) rfl rfl rfl run_ch1 (next _ _ _ _ _ (by omega) (M.chan (k:=1) (by omega) (n4 (by omega))))
   | 2,_,hl,hlf,_,_,_,next,n4=>exact op_val (o:=mkCh 246 8) rfl rfl rfl run_ch2 (next _ _ _ _ _ (by omega) (M.chan (k:=2) (by omega) (n4 (by omega))))
   | 3,_,hl,hlf,_,_,_,next,n4=>exact op_val (o:=mkCh 247 9) rfl rfl rfl run_ch3 (next _ _ _ _ _ (by omega) (M.chan (k:=3) (by omega) (n4 (by omega))))
   | 4,_,hl,hlf,d4,_,_,next,_=>
    have h5:l.getD 5 false=false:=by
     cases e:l.getD 5 false with
     | false=>rfl
     | true=>have:=(M.bx e).2.2.2;rw[hlf]at this;cases this
    exact op_val (o:=oBuild) rfl rfl rfl (run_build fun k hk=>(M.ch k hk (d4 rfl k hk)).1) (next _ _ _ _ _ (by omega) (M.build (d4 rfl) h5))
   | 5,_,hl,hlf,_,d5,_,next,_=>exact op_val (o:=oBox) rfl rfl rfl (run_box (M.bd (d5 rfl)).1) (next _ _ _ _ _ (by omega) (M.box (d5 rfl)))
   | 6,_,hl,hlf,_,_,_,next,_=>exact op_val (o:=oAlloc) rfl rfl rfl run_alloc (next _ _ _ _ _ (by omega) M.alloc)
   | 7,_,hl,hlf,_,_,d7,_,_=>
    have hall:=d7 rfl
    have M':Made v b2 b3 (fun _=>true) a w q b r:=⟨M.size,M.defers,M.t2,M.t3,M.grows,fun k hk _=>M.ch k hk (hall k (by omega)),fun k k' hk hk' hne _ _=>M.ne k k' hk hk' hne (hall k (by omega)) (hall k' (by omega)),fun _=>M.al (hall 6 (by omega)),fun _=>⟨(M.bd (hall 4 (by omega))).1,fun _ _=>rfl⟩,fun _=>let h:=M.bx (hall 5 (by omega));⟨h.1,h.2.1,h.2.2.1,rfl⟩⟩
    have hq:=hQ a w q b r M'
    refine op_skip (o:=oStore) rfl rfl rfl (run_store (M.al (hall 6 (by omega))).1 (M.bx (hall 5 (by omega))).1 (M.al (hall 6 (by omega))).2.1) ?_
    have hfull:Region.ready .any S1o (l.setIfInBounds 7 true)=[]:=ready_full fun k hk=>by
     have:=congrFun (ls_set hs (i:=7) (by omega)) k
     simp only[onl]at this
     have h2:(l.setIfInBounds 7 true).getD k false=true:=by
      rw[this]
      by_cases e:k=7
      ·simp[e]
      ·rw[if_neg e];exact hall k (by omega)
     have hk':k<(l.setIfInBounds 7 true).size:=by simp[hs];omega
     simp only[Array.getD,dif_pos hk']at h2 ⊢
     exact h2
    cases fuel with
    | zero=>exact⟨hfull,hq⟩
    | succ f=>exact⟨fun _=>hq,fun i hi=>by rw[hfull]at hi;cases hi⟩
end
theorem an3 {w:World} {b x:Nat} {u:Value} (h:b≠x):(w.setCell ⟨b,0,none⟩ u).heap[x]?=w.heap[x]?:=by
 simp[World.setCell,Array.getElem?_modify,h]
theorem makes_piece (b2 b3:Nat) (v:World) (g:Nat→Value) (τ:Nat→Question→Nat) (d:Nat) (m:Nat):(S1 Tryz.prog).wpIn NF m Tryz.prog (Ends fun tm w'=>∃g' b5 r q0 q1 q2 q3,tm=TN 18 (ups g' (sl18 b2 b3 b5))∧Grows v w'∧(∀x∈[b5,r,q0,q1,q2,q3],v.heap.size≤x)∧[b5,r,q0,q1,q2,q3].Nodup∧RunAt r #[chn q0,chn q1,chn q2,chn q3] 257 w' 0 0∧w'.cell? ⟨b5,0,none⟩=some (pr r)∧∀q∈[q0,q1,q2,q3],w'.heap[q]?=some (.chan 0 #[] false 0 0 false)) ⟨TN 18 (ups g [(2,pr b2),(3,pr b3)]),[]⟩ (v.re τ d):=by
 rw[S1_eq]
 refine wpIn_region_any (by kernel_rfl) (made_any (v:=v) (b2:=b2) (b3:=b3) (fun a w q b r M=>?_) 8 _ _ _ (fun _=>0) 0 0 rfl rfl rfl ?_)
 ·obtain⟨a5,ab,ag⟩:=M.al rfl
  obtain⟨r1,r2,r3,_⟩:=M.bx rfl
  have c0:=M.ch 0 (by omega) rfl
  have c1:=M.ch 1 (by omega) rfl
  have c2:=M.ch 2 (by omega) rfl
  have c3:=M.ch 3 (by omega) rfl
  have nb:∀x,w.heap[x]?=some chObj→b≠x:=fun x hx e=>by subst e;rw[ab]at hx;cases hx
  have nr:∀x,w.heap[x]?=some chObj→r≠x:=fun x hx e=>by subst e;rw[r2]at hx;cases hx
  have nbr:b≠r:=fun e=>by
   rw[e,r2]at ab
   injection ab with ab
   injection ab with _ e2 _
   cases e2
  have hb:b<w.heap.size:=(Array.getElem?_eq_some_iff.1 ab).1
  have hg:Grows v (w.setCell ⟨b,0,none⟩ (pr r)):=by
   refine⟨by simpa [World.setCell]using M.grows.1,fun x hx=>?_,M.grows.2.2.1,M.grows.2.2.2⟩
   rw[an3 (by omega)]
   exact M.grows.2.1 x hx
  have hd:=M.defers
  refine⟨rfl,hd,fun i=>a.tmps.getD i undef,b,r,q 0,q 1,q 2,q 3,?_,hg,?_,?_,?_,?_,?_⟩
  ·rw[show ups (fun i=>a.tmps.getD i undef) (sl18 b2 b3 b)=fun i=>a.tmps.getD i undef from ao9 fun p hp=>by
    simp only[sl18,List.mem_cons,List.not_mem_nil,or_false]at hp
    rcases hp with h|h|h<;>subst h
    ·exact M.t2
    ·exact M.t3
    ·exact a5]
   exact TN_eta M.size
  ·intro x hx
   simp only[List.mem_cons,List.not_mem_nil,or_false]at hx
   rcases hx with h|h|h|h|h|h<;>subst h
   ·exact ag
   ·exact r3
   ·exact c0.2.2
   ·exact c1.2.2
   ·exact c2.2.2
   ·exact c3.2.2
  ·have n01:=M.ne 0 1 (by omega) (by omega) (by omega) rfl rfl
   have n02:=M.ne 0 2 (by omega) (by omega) (by omega) rfl rfl
   have n03:=M.ne 0 3 (by omega) (by omega) (by omega) rfl rfl
   have n12:=M.ne 1 2 (by omega) (by omega) (by omega) rfl rfl
   have n13:=M.ne 1 3 (by omega) (by omega) (by omega) rfl rfl
   have n23:=M.ne 2 3 (by omega) (by omega) (by omega) rfl rfl
   simp only[List.nodup_cons,List.mem_cons,List.not_mem_nil,or_false,not_or,List.nodup_nil,and_true,not_false_eq_true]
   exact⟨⟨nbr,nb _ c0.2.1,nb _ c1.2.1,nb _ c2.2.1,nb _ c3.2.1⟩,⟨nr _ c0.2.1,nr _ c1.2.1,nr _ c2.2.1,nr _ c3.2.1⟩,⟨n01,n02,n03⟩,⟨n12,n13⟩,n23⟩
  ·unfold RunAt
   rw[an3 nbr]
   exact r2
  ·simp[World.cell?,World.setCell,Array.getElem?_modify,ab]
  ·intro x hx
   simp only[List.mem_cons,List.not_mem_nil,or_false]at hx
   rcases hx with h|h|h|h<;>subst h
   ·rw[an3 (nb _ c0.2.1)];exact c0.2.1
   ·rw[an3 (nb _ c1.2.1)];exact c1.2.1
   ·rw[an3 (nb _ c2.2.1)];exact c2.2.1
   ·rw[an3 (nb _ c3.2.1)];exact c3.2.1
 ·have hf:∀i,(Array.replicate S1o.size false).getD i false=false:=fun i=>by
   simp[Array.getD]
  refine⟨by simp[TN],rfl,rfl,rfl,⟨Nat.le_refl _,fun _ _=>rfl,rfl,rfl⟩,fun k _ h=>?_,fun k k' _ _ _ h=>?_,fun h=>?_,fun h=>?_,fun h=>?_⟩<;>(rw[hf]at h;cases h)
theorem makesTryz (m:Nat):Makes Tryz.prog NF m:=⟨fun r s0 s1 s2 v g τ d=>box_piece r s0 s1 s2 v g τ d m⟩
theorem startsTryz (m:Nat):Starts Tryz.prog NF m:=⟨fun sa n v g τ d=>boxes_piece sa n v g τ d m,fun b2 b3 v g τ d=>makes_piece b2 b3 v g τ d m⟩
end Go.Fxa
namespace Go.Fxa
open Go.Conc
open Go.Proofs
open Go.RowKit
structure Keep (S:Nat→Prop) (w w':World):Prop where
 os:w'.os=w.os
 output:w'.output=w.output
 size:w.heap.size≤w'.heap.size
 block:∀k,k<w.heap.size→¬S k→w'.heap[k]?=w.heap[k]?
def No:Nat→Prop:=fun _=>False
def At (b:Nat):Nat→Prop:=fun k=>k=b
def At2 (b c:Nat):Nat→Prop:=fun k=>k=b∨k=c
section
variable {S S':Nat→Prop} {a b c w w':World}
theorem Keep.refl (S:Nat→Prop) (w:World):Keep S w w:=⟨rfl,rfl,Nat.le_refl _,fun _ _ _=>rfl⟩
theorem Keep.mono (h:Keep S a b) (hs:∀k,k<a.heap.size→S k→S' k):Keep S' a b:=⟨h.os,h.output,h.size,fun k hk hn=>h.block k hk fun hS=>hn (hs k hk hS)⟩
theorem Keep.no (h:Keep No a b):Keep S a b:=h.mono fun _ _ hk=>hk.elim
theorem Keep.trans (h:Keep S a b) (k:Keep S' b c) (hs:∀k,k<a.heap.size→S' k→S k):Keep S a c:=
 ⟨k.os.trans h.os,k.output.trans h.output,Nat.le_trans h.size k.size,fun i hi hn=>(k.block i (Nat.lt_of_lt_of_le hi h.size) fun hk=>hn (hs i hi hk)).trans (h.block i hi hn)⟩
theorem Keep.then (h:Keep S a b) (k:Keep S b c):Keep S a c:=h.trans k fun _ _ h=>h
theorem Keep.drew (h:Keep S a w):Keep S a w.drew:=⟨h.os,h.output,h.size,h.block⟩
theorem Keep.alloc (h:Keep S a w) (o:Obj):Keep S a (w.alloc o):=
 h.then ⟨rfl,rfl,by simp,fun k hk _=>Below.heap_alloc _ _ _ hk⟩
theorem Keep.setCell (h:Keep S a w) {p:Addr} (u:Value) (hp:p.block<a.heap.size→S p.block):Keep S a (w.setCell p u):=
 ⟨h.os,h.output,by simpa using h.size,fun k hk hn=>(Below.heap_setCell _ _ _ _ fun e=>hn (by subst e;exact hp hk)).trans (h.block k hk hn)⟩
theorem Keep.cell (h:Keep S w w') {p:Addr} (hp:p.block<w.heap.size) (hn:¬S p.block):w'.cell? p=w.cell? p:=World.cell?_of_block (w:=w) (h.block p.block hp hn)
theorem Keep.frozen (h:Keep S w w') {p:Addr} (hp:p.block<w.heap.size) (hn:¬S p.block):w'.frozen? p=w.frozen? p:=World.frozen?_of_block (w:=w) (h.block p.block hp hn)
theorem Keep.old (h:Keep S w w') {k:Nat} {o:Obj} (hk:w.heap[k]?=some o) (hn:¬S k):w'.heap[k]?=some o:=(h.block k (Array.getElem?_eq_some_iff.1 hk).1 hn).trans hk
end
theorem ab2 {w:World} {k:Nat} {o:Obj} (h:w.heap[k]?=some o):k<w.heap.size:=(Array.getElem?_eq_some_iff.1 h).1
theorem aa0 {w:World} {k:Nat} {cs:Array Value} {T:TypeId} {fz:Nat×Nat} (h:w.heap[k]?=some (.cells cs T fz)) (i:Nat):w.cell? ⟨k,i,none⟩=cs[i]?:=by simp[World.cell?,h]
theorem ab3 {w:World} {k:Nat} {cs:Array Value} {T:TypeId} (h:w.heap[k]?=some (.cells cs T (0,0))) (i:Nat):w.frozen? ⟨k,i,none⟩=false:=by simp[World.frozen?,h]
theorem aa2 {w:World} {k i:Nat} {cs:Array Value} {T:TypeId} {fz:Nat×Nat} (h:w.heap[k]?=some (.cells cs T fz)) (u:Value):(w.setCell ⟨k,i,none⟩ u).heap[k]?=some (.cells (cs.setIfInBounds i u) T fz):=by
 simp[World.setCell,Array.getElem?_modify,h]
theorem af4 {w:World} {k:Nat} {p:Addr} (u:Value) (h:k≠p.block):(w.setCell p u).heap[k]?=w.heap[k]?:=Below.heap_setCell _ _ _ _ h
theorem aa4 {w:World} {o:Obj} {k:Nat} (h:k=w.heap.size):(w.alloc o).heap[k]?=some o:=by subst h;exact alloc_new _
theorem ab5 {w:World} {o:Obj} {k:Nat} (h:k<w.heap.size):(w.alloc o).heap[k]?=w.heap[k]?:=Below.heap_alloc _ _ _ h
theorem heap_drew {w:World} {k:Nat}:w.drew.heap[k]?=w.heap[k]?:=rfl
end Go.Fxa
namespace Go.Fxa
@[simp] theorem lf14:(14:FuncId)∈LF:=by decide
@[simp] theorem lf20:(20:FuncId)∈LF:=by decide
@[simp] theorem lf30:(30:FuncId)∈LF:=by decide
@[simp] theorem lf31:(31:FuncId)∈LF:=by decide
@[simp] theorem lf32:(32:FuncId)∈LF:=by decide
@[simp] theorem lf34:(34:FuncId)∈LF:=by decide
@[simp] theorem lf35:(35:FuncId)∈LF:=by decide
@[simp] theorem lf36:(36:FuncId)∈LF:=by decide
@[simp] theorem lf37:(37:FuncId)∈LF:=by decide
@[simp] theorem lf38:(38:FuncId)∈LF:=by decide
@[simp] theorem lf39:(39:FuncId)∈LF:=by decide
@[simp] theorem lf40:(40:FuncId)∈LF:=by decide
@[simp] theorem lf41:(41:FuncId)∈LF:=by decide
@[simp] theorem lf42:(42:FuncId)∈LF:=by decide
@[simp] theorem lf43:(43:FuncId)∈LF:=by decide
@[simp] theorem lf45:(45:FuncId)∈LF:=by decide
@[simp] theorem lf46:(46:FuncId)∈LF:=by decide
@[simp] theorem lf47:(47:FuncId)∈LF:=by decide
@[simp] theorem lf48:(48:FuncId)∈LF:=by decide
@[simp] theorem lf49:(49:FuncId)∈LF:=by decide
@[simp] theorem lf50:(50:FuncId)∈LF:=by decide
@[simp] theorem lf52:(52:FuncId)∈LF:=by decide
@[simp] theorem lf53:(53:FuncId)∈LF:=by decide
@[simp] theorem lf54:(54:FuncId)∈LF:=by decide
@[simp] theorem lf55:(55:FuncId)∈LF:=by decide
@[simp] theorem lf57:(57:FuncId)∈LF:=by decide
@[simp] theorem lf58:(58:FuncId)∈LF:=by decide
@[simp] theorem lf67:(67:FuncId)∈LF:=by decide
@[simp] theorem lf68:(68:FuncId)∈LF:=by decide
@[simp] theorem lf69:(69:FuncId)∈LF:=by decide
@[simp] theorem lf70:(70:FuncId)∈LF:=by decide
@[simp] theorem lf71:(71:FuncId)∈LF:=by decide
@[simp] theorem lf72:(72:FuncId)∈LF:=by decide
@[simp] theorem lf73:(73:FuncId)∈LF:=by decide
@[simp] theorem lf74:(74:FuncId)∈LF:=by decide
@[simp] theorem lf75:(75:FuncId)∈LF:=by decide
@[simp] theorem lf78:(78:FuncId)∈LF:=by decide
@[simp] theorem lf79:(79:FuncId)∈LF:=by decide
@[simp] theorem lf85:(85:FuncId)∈LF:=by decide
@[simp] theorem lf87:(87:FuncId)∈LF:=by decide
@[simp] theorem lf88:(88:FuncId)∈LF:=by decide
@[simp] theorem lf89:(89:FuncId)∈LF:=by decide
@[simp] theorem lf90:(90:FuncId)∈LF:=by decide
@[simp] theorem lf91:(91:FuncId)∈LF:=by decide
@[simp] theorem lf92:(92:FuncId)∈LF:=by decide
@[simp] theorem lf96:(96:FuncId)∈LF:=by decide
@[simp] theorem lf98:(98:FuncId)∈LF:=by decide
@[simp] theorem lf100:(100:FuncId)∈LF:=by decide
@[simp] theorem lf101:(101:FuncId)∈LF:=by decide
@[simp] theorem lf102:(102:FuncId)∈LF:=by decide
@[simp] theorem lf108:(108:FuncId)∈LF:=by decide
@[simp] theorem lf109:(109:FuncId)∈LF:=by decide
@[simp] theorem lf110:(110:FuncId)∈LF:=by decide
@[simp] theorem lf111:(111:FuncId)∈LF:=by decide
@[simp] theorem lf112:(112:FuncId)∈LF:=by decide
@[simp] theorem lf113:(113:FuncId)∈LF:=by decide
@[simp] theorem lf114:(114:FuncId)∈LF:=by decide
@[simp] theorem lf115:(115:FuncId)∈LF:=by decide
@[simp] theorem lf116:(116:FuncId)∈LF:=by decide
@[simp] theorem lf117:(117:FuncId)∈LF:=by decide
@[simp] theorem lf118:(118:FuncId)∈LF:=by decide
@[simp] theorem lf119:(119:FuncId)∈LF:=by decide
@[simp] theorem lf122:(122:FuncId)∈LF:=by decide
@[simp] theorem lf123:(123:FuncId)∈LF:=by decide
@[simp] theorem lf124:(124:FuncId)∈LF:=by decide
@[simp] theorem lf126:(126:FuncId)∈LF:=by decide
@[simp] theorem lf127:(127:FuncId)∈LF:=by decide
@[simp] theorem lf128:(128:FuncId)∈LF:=by decide
@[simp] theorem lf129:(129:FuncId)∈LF:=by decide
@[simp] theorem lf130:(130:FuncId)∈LF:=by decide
@[simp] theorem lf131:(131:FuncId)∈LF:=by decide
@[simp] theorem lf132:(132:FuncId)∈LF:=by decide
@[simp] theorem lf138:(138:FuncId)∈LF:=by decide
@[simp] theorem lf139:(139:FuncId)∈LF:=by decide
@[simp] theorem lf140:(140:FuncId)∈LF:=by decide
@[simp] theorem lf141:(141:FuncId)∈LF:=by decide
@[simp] theorem lf152:(152:FuncId)∈LF:=by decide
@[simp] theorem lf156:(156:FuncId)∈LF:=by decide
@[simp] theorem lf157:(157:FuncId)∈LF:=by decide
@[simp] theorem lf158:(158:FuncId)∈LF:=by decide
@[simp] theorem lf162:(162:FuncId)∈LF:=by decide
@[simp] theorem lf165:(165:FuncId)∈LF:=by decide
@[simp] theorem lf166:(166:FuncId)∈LF:=by decide
@[simp] theorem lf171:(171:FuncId)∈LF:=by decide
@[simp] theorem lf185:(185:FuncId)∈LF:=by decide
@[simp] theorem lf209:(209:FuncId)∈LF:=by decide
@[simp] theorem lf210:(210:FuncId)∈LF:=by decide
@[simp] theorem lf211:(211:FuncId)∈LF:=by decide
@[simp] theorem lf212:(212:FuncId)∈LF:=by decide
@[simp] theorem lf213:(213:FuncId)∈LF:=by decide
@[simp] theorem lf214:(214:FuncId)∈LF:=by decide
@[simp] theorem lf226:(226:FuncId)∈LF:=by decide
@[simp] theorem lf237:(237:FuncId)∈LF:=by decide
@[simp] theorem lf238:(238:FuncId)∈LF:=by decide
@[simp] theorem lf244:(244:FuncId)∈LF:=by decide
@[simp] theorem nf_fn (f:FuncId):NF.fn f=(f∈LF):=rfl
@[simp] theorem nf_round:NF.round=none:=rfl
@[simp] theorem nf_depth:NF.depth=none:=rfl
@[simp] theorem nf_alive:NF.alive=true:=rfl
end Go.Fxa
