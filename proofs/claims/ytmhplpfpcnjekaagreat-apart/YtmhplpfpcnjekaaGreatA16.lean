/- Which operations are fine: all -/
import Derived.Test.YtmhplpfpcnjekaaGreatA15
import Derived.TacticsInMore
import Derived.RegionIn
import Derived.LoopIn
import Derived.OrdersIn
import Derived.Below
import Derived.WalkSmall
open Go.Proofs.Tryz
namespace Go.Fxa
open Go.Conc
def BS (P:Program) (o:Oper):Bool:=match o.op with
 | .move _ | .assign _ | .pick _ _ _ | .alloc _ | .box _ _ | .build _ _ | .buildSlice _ _ _ | .load _ _ | .store _ _ _ | .nilCheck _=>true
 | .unOp _ _ _ | .makeInterface _ _ | .makeFunc _ _ _ | .makeChan _ _ | .makeSlice _ _ _ | .slice _ _ _ _ _ | .fieldAddr _ _ _ | .field _ _ _ | .indexAddr _ _ _ | .index _ _ _ | .extract _ _ | .panic _=>true
 | .binOp op t x y _=>match op with
  | .eql=>Mr P t x y
  | .neq=>Mr P t x y
  | _=>true
 | .convert a b _=>Xg P a && Xg P b
 | .call c=>match c.callee with
  | .builtin b=>match b with
   | .append | .cap | .clear | .copy | .len | .max | .min=>true
   | _=>false
  | .value _=>true
  | .invoke _ _=>true
 | _=>false
def nE (P:Program) (l:List FuncId) (o:Oper):Bool:=BS P o || (match o.op with
 | .defer c=>match c.callee with
  | .value (.func f)=>l.contains f
  | _=>false
 | _=>false)
def opsOf (P:Program) (l:List FuncId) (f:FuncId):Oper->Bool:=if Zo f then nE P l else BS P
section
variable {P:Program} {L:FuncId->Prop} {bb:Bool}
theorem Ud {t:TypeId} {s:Value}:(Instr.makeChan t s).Am P fun _=>True:=by
 unfold Instr.makeChan;refine Aa JO fun n=>Aa (AU Au) fun d=>?_
 split
 ·refine Aa CW fun i=>?_
  exact Ay (fun _=>Aa AX fun _=>Aa (Ki rfl) fun _=>Ad trivial) fun _=>Aa (Ki rfl) fun _=>Ad trivial
 ·exact Ai
theorem Dl {s:Sem Value} (h:s.Am P fun _=>True):(s>>= fun x=>pure (Next.value x):Sem Next).Am P (Ec L bb):=Aa h fun _=>Ad trivial
theorem uh {s:Sem Unit} (h:s.Am P fun _=>True):(s>>= fun _=>pure Next.skip:Sem Next).Am P (Ec L bb):=Aa h fun _=>Ad trivial
theorem MO {f:Value->Value->Sem Value} (h:∀x y,(f x y).Am P fun _=>True):∀(l:U_) (x:Value),(l.foldlM f x).Am P fun _=>True
 | [],_=>Ad trivial
 | y::l,x=>Aa (h x y) fun z=>MO h l z
theorem jF {x y:Value}:(Builtin.min2 x y).Am P fun _=>True:=by
 unfold Builtin.min2;split<;>first
  | exact Ad trivial
  | exact DR (by simp)
  | exact Ai
  | exact Aa Ga fun _=>Aa Kj fun _=>Ad trivial
  | (split<;>first
    | exact Ad trivial
    | exact Aa (e:=choose _) (fun _=>trivial) fun _=>Ad trivial)
theorem jG {x y:Value}:(Builtin.max2 x y).Am P fun _=>True:=by
 unfold Builtin.max2;split<;>first
  | exact Ad trivial
  | exact DR (by simp)
  | exact Ai
  | exact Aa Ga fun _=>Aa Kj fun _=>Ad trivial
  | (split<;>first
    | exact Ad trivial
    | exact Aa (e:=choose _) (fun _=>trivial) fun _=>Ad trivial)
theorem pK {a:Array TypeId} {t:TypeId} {args:X_}:(Builtin.min_ a t args).Am P fun _=>True:=by
 unfold Builtin.min_;split
 ·exact Ai
 ·exact MO (fun _ _=>jF) _ _
theorem pM {a:Array TypeId} {t:TypeId} {args:X_}:(Builtin.max_ a t args).Am P fun _=>True:=by
 unfold Builtin.max_;split
 ·exact Ai
 ·exact MO (fun _ _=>jG) _ _
theorem UZ (hG:P.globals.size=0) (hB:Oz P L) {o:Oper} (h:BS P o=true):aa4 P L bb o:=by
 intro fr v hp hab;obtain⟨dst,op,type,pos,after,guard⟩:=o;unfold BS at h;simp only at h;unfold execOp;simp only;cases op with
 | move x=>exact Sem.Am.here (Ad trivial) v
 | assign x=>exact Sem.Am.here (Ad trivial) v
 | pick c a b=>exact Sem.Am.here (Aa Kj fun _=>Ad trivial) v
 | alloc e=>exact Sem.Am.here (Dl bI) v
 | box e x=>exact Sem.Am.here (Dl pR) v
 | build t ps=>exact Sem.Am.here (Dl bE) v
 | buildSlice t n ps=>exact Sem.Am.here (Dl Q8) v
 | load t a=>exact Sem.Am.here (Dl Yo) v
 | store t a x=>exact Sem.Am.here (uh VY) v
 | nilCheck x=>
  refine Sem.Am.here ?_ v
  dsimp only
  split<;>first
   | exact AX
   | exact Ad trivial
   | skip
  split<;>first
   | exact AX
   | exact Ad trivial
   | skip
  refine Aa (AU Cq) fun q=>Aa (Ob _ _ _ _) fun r=>?_
  exact Ay (fun _=>Aa (DR (by simp)) fun _=>Ad trivial) fun _=>Ad trivial
 | unOp op t x=>exact Sem.Am.here (Dl aT) v
 | makeInterface t x=>exact Sem.Am.here (Dl OM) v
 | makeFunc f a b=>exact Sem.Am.here (Dl Uc) v
 | makeChan t s=>exact Sem.Am.here (Dl Ud) v
 | makeSlice t a b=>exact Sem.Am.here (Dl Tv) v
 | slice t x a b c=>exact Sem.Am.here (Dl VZ) v
 | fieldAddr t x f=>exact Sem.Am.here (Dl V7) v
 | field t x f=>exact Sem.Am.here (Dl bn) v
 | indexAddr t x i=>exact Sem.Am.here (Dl V4) v
 | index t x i=>exact Sem.Am.here (Dl bf) v
 | extract x i=>exact Sem.Am.here (Dl V8) v
 | panic x=>exact Sem.Am.here (Dl aY) v
 | convert a b x=>
  simp only[Bool.and_eq_true]at h
  exact Sem.Am.here (Dl (Wd h.1 h.2)) v
 | binOp op t x y z=>
  have hq:(op=.eql\/op=.neq)->Mr P t x y=true:=fun ho=>by rcases ho with rfl|rfl<;>exact h
  refine Sem.Am.here (Dl (Aa (V9 hq) fun _=>?_)) v
  by_cases ho:op=.eql\/op=.neq
  ·exact bG hG ho (hq ho)
  ·exact bF hG (fun e=>ho (.inl e)) fun e=>ho (.inr e)
 | call c=>
  obtain⟨callee,args,ats⟩:=c
  cases callee with
  | builtin b=>
   refine Sem.Am.here ?_ v
   cases b<;>first
    | (cases h;done)
    | exact Dl Yr
    | exact Dl pQ
    | exact Dl bz
    | exact Dl jH
    | exact Dl pO
    | exact Dl pK
    | exact Dl pM
  | value f=>
   refine kX hB fun d w' hr g hg=>hab g ?_
   simp only[Oper.about,resolve,hr]
   exact hg
  | invoke r n=>
   have h0:∀(x:Value) (l:X_),(#[x]++l)[0]?=some x:=fun x l=>by rw[Array.getElem?_append_left (by simp)];rfl
   show FY P (Ec L bb) (invoke (.fn (.method n) #[]) (#[fr.eval r]++args.map fr.eval)) v
   simp only[invoke,h0]
   refine QR hB fun t u f rr w' e hr=>hab f ?_
   show Target.leads P v (.fn (.method n) #[]) (#[fr.eval r]++args.map fr.eval)=some f
   simp only[Target.leads,h0,e,hr]
 | _=>cases h
theorem qB (hG:P.globals.size=0) {l:List FuncId} (hB:Oz P (·∈l)) {o:Oper} (h:nE P l o=true):aa4 P (·∈l) true o:=by
 unfold nE at h;rcases Bool.or_eq_true_iff.1 h with h|h
 ·exact UZ hG hB h
 ·intro fr v hp hab;obtain⟨dst,op,type,pos,after,guard⟩:=o;simp only at h;unfold execOp;simp only;cases op<;>try cases h
  rename_i c _
  obtain⟨callee,args,ats⟩:=c
  cases callee with
  | value f=>
   cases f with
   | func f=>exact Sem.Am.here (show(pure (Next.defer ⟨.fn (.func f) #[],#[]++args.map fr.eval⟩):Sem Next).Am P (Ec (·∈l) true)from⟨rfl,f,#[],rfl,by simpa using h⟩) v
   | _=>cases h
  | _=>cases h
theorem vK (hG:P.globals.size=0) {l:List FuncId} (h:(l.all fun f=>match P.funcs[f]? with
  | some fn=>match fn.body with
   | some c=>c.A9 (opsOf P l f) && !(fn.name== "runtime.NumGoroutine") && (P.inits.idxOf? f).isNone
   | none=>false
  | none=>false)=true):Mi P (·∈l) (opsOf P l):=by
 have hx:∀f∈l,∃fn c,P.funcs[f]?=some fn/\fn.body=some c/\c.A9 (opsOf P l f)=true/\(fn.name== "runtime.NumGoroutine")=false/\P.inits.idxOf? f=none:=fun f hf=>by
  have h1:=List.all_eq_true.1 h f hf
  cases e1:P.funcs[f]? with
  | none=>rw[e1]at h1;cases h1
  | some fn=>
   rw[e1]at h1
   simp only at h1
   cases e2:fn.body with
   | none=>rw[e2]at h1;cases h1
   | some c=>
    rw[e2]at h1
    simp only[Bool.and_eq_true,Bool.not_eq_true',Option.isNone_iff_eq_none]at h1
    exact⟨fn,c,rfl,e2,h1.1.1,h1.1.2,h1.2⟩
 have hB:Oz P (·∈l):=fun f hf=>by
  obtain⟨fn,c,h1,h2,h3,h4,h5⟩:=hx f hf
  exact⟨fn,h1,by rw[h2];rfl,h4⟩
 refine⟨fun f o ho=>?_,fun f hf=>?_,fun f hf=>?_⟩
 ·unfold opsOf at ho;cases hd:Zo f with
  | false=>rw[hd]at ho;exact UZ hG hB ho
  | true=>rw[hd]at ho;exact qB hG hB ho
 ·obtain⟨fn,c,h1,h2,h3,h4,h5⟩:=hx f hf;exact⟨fn,c,h1,h4,h2,h3⟩
 ·obtain⟨fn,c,h1,h2,h3,h4,h5⟩:=hx f hf;exact h5
end
end Go.Fxa
namespace Go.Fxa
open Go.Conc Go.Proofs
def LB:List FuncId:=[3,5,6,7,8,9,10,12,13,14,15,16,17,18,19,20,21,22,23,24,25,26,27,28,29,30,31,32,33,34,35,36,37,38,39,40,41,42,43,44,45,46,47,48,49,50,51,52,53,54,55,57,58,59,60,61,62,63,64,65,66,67,68,69,70,71,72,73,74,75,76,77,78,79,80,81,82,83,84,85,86,87,88,89,90,91,92,95,96,98,99,100,101,102,103,104,105,106,107,108,109,110,111,112,113,114,115,116,117,118,119,120,121,122,123,124,125,126,127,128,129,130,131,132,136,138,139,140,141,142,143,144,145,146,147,148,149,150,151,152,153,154,155,156,157,158,159,160,161,162,163,164,165,166,167,168,170,171,185,193,194,195,196,197,198,199,200,201,202,203,204,205,206,207,208,209,210,211,212,213,214,215,216,217,218,219,220,221,226,227,229,230,231,232,233,234,236,237,238,239,240,241,242,243,244,245,246,247,248,249,265,266,267,268,269,270,271,272,273,274,275,276,277,278,279,280,281]
def LF:List FuncId:=169::235::LB
theorem qX:Mi prog (·∈LB) (opsOf prog LB):=vK (by kernel_rfl) (by kernel_rfl)
theorem oM {P:Program} {f:FuncId} {fn:Func} (h1:P.funcs[f]?=some fn) (h2:(fn.name== "runtime.NumGoroutine")=false) (h3:fn.body.isNone=true) (h4:Extern.findNext fn=none) (h5:Extern.find fn=some (Extern.SlicesOverlaps.overlaps fn.params fn.resultTypes)):Ext P f:=⟨fn,_,_,h1,h2,h3,h4,h5⟩
theorem ad1:Ext prog 169:=oM (fn:=(prog.funcs[169]?).getD default) (by kernel_rfl) (by kernel_rfl) (by kernel_rfl) (by kernel_rfl) (by kernel_rfl)
theorem ac9:Ext prog 235:=oM (fn:=(prog.funcs[235]?).getD default) (by kernel_rfl) (by kernel_rfl) (by kernel_rfl) (by kernel_rfl) (by kernel_rfl)
def NF:Fence:=Fence.list LF none
theorem LG:Qm prog (·∈LB) (opsOf prog LB) NF:=⟨qX,rfl,rfl,rfl,fun f h=>by
 rcases List.mem_cons.1 h with rfl|h
 ·exact .inr ad1
 rcases List.mem_cons.1 h with rfl|h
 ·exact .inr ac9
 ·exact .inl h⟩
theorem Gt {P:Program} {f g:FuncId} (hf:(P.funcs[f]?).any (·.norace)=false) (hg:(P.funcs[g]?).any (·.norace)=false) (es:Array Event):seen P f es=seen P g es:=by
 unfold seen;simp[hf,hg]
theorem ax7:(prog.funcs[56]?).any (·.norace)=false:=by kernel_rfl
theorem ax6:(prog.funcs[93]?).any (·.norace)=false:=by kernel_rfl
theorem ax5:(prog.funcs[97]?).any (·.norace)=false:=by kernel_rfl
theorem an5:(prog.funcs[136]?).any (·.norace)=false:=by kernel_rfl
theorem QH:(prog.funcs[185]?).any (·.norace)=false:=by kernel_rfl
theorem an4:(prog.funcs[187]?).any (·.norace)=false:=by kernel_rfl
theorem an1:(R2 prog).A9 (BS prog)=true:=by kernel_rfl
theorem an0:(R3 prog).A9 (BS prog)=true:=by kernel_rfl
theorem am9:(S0 prog).A9 (BS prog)=true:=by kernel_rfl
theorem am8:(S1 prog).A9 (BS prog)=true:=by kernel_rfl
theorem ac0:(sU prog).A9 (BS prog)=true:=by kernel_rfl
theorem ab9:(sS prog).A9 (BS prog)=true:=by kernel_rfl
theorem ab7:(sP prog).A9 (BS prog)=true:=by kernel_rfl
theorem ab6:(R16 prog).A9 (BS prog)=true:=by kernel_rfl
theorem an2:(A0 prog).A9 (BS prog)=true:=by kernel_rfl
theorem ab5:(sO prog).A9 (BS prog)=true:=by kernel_rfl
theorem uQ:(Q3 prog).A9 (BS prog)=true:=by kernel_rfl
theorem ab8:(sQ prog).A9 (BS prog)=true:=by kernel_rfl
theorem uT:(TV prog).A9 (BS prog)=true:=by kernel_rfl
theorem Pj:Rv prog (·∈LB) (opsOf prog LB) NF 185 where
 fenced:=LG
 Mq:=⟨by show 185∈LF;decide,by show 185∈LB;decide,rfl⟩
 seen:=fun f hf es=>by
  rcases hf with e|e|e|e|e<;>rw[e]
  ·exact Gt ax7 QH es
  ·exact Gt ax6 QH es
  ·exact Gt ax5 QH es
  ·exact Gt an5 QH es
  ·exact Gt an4 QH es
 ops:=fun c hc=>by
  show c.A9 (BS prog)=true
  rcases List.mem_cons.1 hc with e|hc
  ·rw[e];exact an1
  rcases List.mem_cons.1 hc with e|hc
  ·rw[e];exact an0
  rcases List.mem_cons.1 hc with e|hc
  ·rw[e];exact am9
  rcases List.mem_cons.1 hc with e|hc
  ·rw[e];exact am8
  rcases List.mem_cons.1 hc with e|hc
  ·rw[e];exact ac0
  rcases List.mem_cons.1 hc with e|hc
  ·rw[e];exact ab9
  rcases List.mem_cons.1 hc with e|hc
  ·rw[e];exact ab7
  rcases List.mem_cons.1 hc with e|hc
  ·rw[e];exact ab6
  rcases List.mem_cons.1 hc with e|hc
  ·rw[e];exact an2
  rcases List.mem_cons.1 hc with e|hc
  ·rw[e];exact ab5
  rcases List.mem_cons.1 hc with e|hc
  ·rw[e];exact uQ
  rcases List.mem_cons.1 hc with e|hc
  ·rw[e];exact uT
  rcases List.mem_cons.1 hc with e|hc
  ·rw[e];exact ab8
  cases hc
end Go.Fxa
namespace Go.Fxa
open Go.Conc Go.Proofs Go.RowKit
set_option maxRecDepth 1000000
set_option maxHeartbeats 0
theorem FB (v:World) (o:Obj):F5 v (v.alloc o):=by
 have e:(v.alloc o).heap=v.heap.push o:=rfl;refine⟨by rw[e];simp,fun x hx=>?_,rfl,rfl⟩;rw[e,Array.getElem?_push,if_neg (by omega)]
theorem XW {v w:World} {τ:Nat->Question->Nat} {d:Nat} (h:F5 (v.re τ d) w):F5 v w:=h
theorem aq5:A0 prog=Code.region 0 #[{ dst:=some 3,op:=Op.box 206 (Operand.tmp 1),type:=0,pos:= "run.go:43",after:=#[],guard:=none }] false:=by kernel_rfl
theorem kY (r:Nat) (s0 s1 s2:Value) (v:World) (g:Y_) (τ:Nat->Question->Nat) (d:Nat) (m:Nat):(A0 prog).wpIn NF m prog (Ends fun tm w'=>∃g' bB,tm=TN 9 (AR g' (ma r (.agg #[s0,s1,s2]) bB))/\(F5 v w'/\bB=v.heap.size/\w'.heap.size=v.heap.size+1)/\Cells w' [(S_ bB),(T_ bB 1),(T_ bB 2)] [s0,s1,s2]) ⟨TN 9 (AR g [(0,pr r),(1,.agg #[s0,s1,s2])]),[]⟩ (v.re τ d):=by
 rw[aq5];show Code.wpIn (Fence.list LF none) m prog _ _ ⟨#[pr r,.agg #[s0,s1,s2],g 2,g 3,g 4,g 5,g 6,g 7,g 8],[]⟩ _;gi_wp2;refine⟨rfl,rfl,g,v.heap.size,rfl,⟨XW (FB _ _),rfl,by show(v.heap.push _).size=_;simp⟩,?_,?_,?_,trivial⟩ <;>
 ·show World.cell? { v with heap:=v.heap.push (Obj.cells #[s0,s1,s2] 206),tape:=τ,drawn:=d } _=_;simp[World.cell?]
theorem ap6:S0 prog=Code.region 0 #[{ dst:=some 2,op:=Op.box 202 (Operand.tmp 0),type:=0,pos:= "run.go:21",after:=#[],guard:=none },{ dst:=some 3,op:=Op.box 3 (Operand.tmp 1),type:=0,pos:= "run.go:21",after:=#[],guard:=none },{ dst:=some 4,op:=Op.assign (Operand.const (Value.pointer none)),type:=200,pos:= "run.go:21",after:=#[],guard:=none }] false:=by kernel_rfl
theorem Y6 (sa:Addr) (n:Int) (v:World) (g:Y_) (τ:Nat->Question->Nat) (d:Nat) (m:Nat):(S0 prog).wpIn NF m prog (Ends fun tm w'=>∃g' b2 b3,tm=TN 18 (AR g' [(2,pr b2),(3,pr b3)])/\F5 v w'/\v.heap.size<=b2/\v.heap.size<=b3/\b2<w'.heap.size/\b3<w'.heap.size/\b2≠b3/\w'.cell? (S_ b2)=some (.pointer (some sa))/\w'.cell? (S_ b3)=some (.int .i64 n)) ⟨TN 18 (AR g [(0,.pointer (some sa)),(1,.int .i64 n)]),[]⟩ (v.re τ d):=by
 rw[ap6];show Code.wpIn (Fence.list LF none) m prog _ _ ⟨#[.pointer (some sa),.int .i64 n,g 2,g 3,g 4,g 5,g 6,g 7,g 8,g 9,g 10,g 11,g 12,g 13,g 14,g 15,g 16,g 17],[]⟩ _;gi_wp2;refine⟨rfl,rfl,AR g [(0,.pointer (some sa)),(1,.int .i64 n),(4,.pointer none)],v.heap.size,v.heap.size+1,rfl,(XW (FB _ _)).trans (FB _ _),Nat.le_refl _,Nat.le_succ _,?_,?_,by omega,?_,?_⟩
 ·show v.heap.size<((v.heap.push _).push _).size;simp;omega
 ·show v.heap.size+1<((v.heap.push _).push _).size;simp
 ·show World.cell? { v with heap:=(v.heap.push (Obj.cells #[.pointer (some sa)] 202)).push _,tape:=τ,drawn:=d } _=_;simp[World.cell?,Array.getElem?_push]
 ·show World.cell? { v with heap:=(v.heap.push (Obj.cells #[.pointer (some sa)] 202)).push (Obj.cells #[Value.int .i64 n] 3),tape:=τ,drawn:=d } _=_;simp only[World.cell?];rw[show((v.heap.push (Obj.cells #[.pointer (some sa)] 202)).push (Obj.cells #[Value.int .i64 n] 3))[v.heap.size+1]?=some (Obj.cells #[Value.int .i64 n] 3) by rw[Array.getElem?_push];simp]
  rfl
end Go.Fxa
namespace Go.Fxa
open Go.Conc Go.Proofs
def sJ (l:List Nat):Array Edge:=(l.map fun n=>{ on:=n,ground:=Ground.data }).toArray
def NP (t d:Nat):Oper:={ dst:=some d,op:=Op.makeChan t (Operand.const (Value.int IntKind.i64 0)),type:=t,pos:= "run.go:22",after:=#[],guard:=none }
def Qg:Oper:={ dst:=some 10,op:=Op.build 257 #[(0,Operand.tmp 6),(1,Operand.tmp 7),(2,Operand.tmp 8),(3,Operand.tmp 9)],type:=257,pos:= "run.go:22",after:=sJ [0,1,2,3],guard:=none }
def ji:Oper:={ dst:=some 11,op:=Op.box 257 (Operand.tmp 10),type:=200,pos:= "run.go:22",after:=sJ [4],guard:=none }
def Vv:Oper:={ dst:=some 5,op:=Op.alloc 200,type:=0,pos:= "run.go:22",after:=#[],guard:=none }
def Qf:Oper:={ dst:=none,op:=Op.store 200 (Operand.tmp 5) (Operand.tmp 11),type:=0,pos:= "run.go:22",after:=sJ [6,5]++([0,1,2,3,4,5,6].map fun n=>{ on:=n,ground:=Ground.phase }).toArray,guard:=none }
def TL:Array Oper:=#[NP 244 6,NP 245 7,NP 246 8,NP 247 9,Qg,ji,Vv,Qf]
theorem ap5:S1 prog=Code.region 1 TL true:=by kernel_rfl
def QI:Obj:=.chan 0 #[] false 0 0 false
def AG (q:Nat->Nat):X_:=#[CK (q 0),CK (q 1),CK (q 2),CK (q 3),.int .u64 0,.int .u32 0]
def sl (a:Act) (i:Nat):Value:=a.tmps.getD i undef
structure Made (v:World) (b2 b3:Nat) (ls:Nat->Bool) (a:Act) (w:World) (q:Nat->Nat) (b r:Nat):Prop where
 size:a.tmps.size=18
 defers:a.defers=[]
 t2:sl a 2=pr b2
 t3:sl a 3=pr b3
 Ir:F5 v w
 ch:∀k,k<4->ls k=true->sl a (6+k)=CK (q k)/\w.heap[q k]?=some QI/\v.heap.size<=q k
 ne:∀k k',k<4->k'<4->k≠k'->ls k=true->ls k'=true->q k≠q k'
 al:ls 6=true->sl a 5=pr b/\w.heap[b]?=some (.cells #[.pointer none] 200 (0,0))/\v.heap.size<=b
 bd:ls 4=true->sl a 10=.agg (AG q)/\∀k,k<4->ls k=true
 bx:ls 5=true->sl a 11=pr r/\w.heap[r]?=some (.cells (AG q) 257 (0,0))/\v.heap.size<=r/\ls 4=true
section
variable {v w:World} {b2 b3:Nat} {ls:Nat->Bool} {a:Act} {q:Nat->Nat} {b r:Nat}
theorem Vs (h:a.tmps.size=18) {d:Nat} (hd:d<18) (x:Value) (i:Nat):sl (a.put (some d) x) i=if i=d then x else sl a i:=by
 unfold sl Act.put;simp only[Array.getD_eq_getD_getElem?,Array.getElem?_setIfInBounds];by_cases e:d=i
 ·subst e;simp[h,hd]
 ·simp[e,Ne.symm e]
theorem Jt {o:Obj} {x:Nat} {ob:Obj} (h:w.heap[x]?=some ob):(w.alloc o).heap[x]?=some ob:=by
 have:=(Array.getElem?_eq_some_iff.1 h).1;exact((FB w o).2.1 x this).trans h
theorem NJ (o:Obj):(w.alloc o).heap[w.heap.size]?=some o:=by
 show(w.heap.push o)[w.heap.size]?=some o;simp
def TE (ls:Nat->Bool) (i:Nat) (j:Nat):Bool:=if j=i then true else ls j
theorem Made.chan (M:Made v b2 b3 ls a w q b r) {k:Nat} (hk:k<4) (h4:ls 4=false):Made v b2 b3 (TE ls k) (a.put (some (6+k)) (CK w.heap.size)) (w.alloc QI) (fun j=>if j=k then w.heap.size else q j) b r:=by
 have hs:=Vs M.size (d:=6+k) (by omega) (CK w.heap.size);have hq:∀j,j<4->ls j=true->q j<w.heap.size:=fun j hj h=>(Array.getElem?_eq_some_iff.1 (M.ch j hj h).2.1).1
 refine⟨by simp[Act.put,M.size],by simp[Act.put,M.defers],?_,?_,M.Ir.trans (FB _ _),fun j hj hl=>?_,fun j j' hj hj' BN h h'=>?_,fun h=>?_,fun h=>?_,fun h=>?_⟩
 ·rw[hs,if_neg (by omega)];exact M.t2
 ·rw[hs,if_neg (by omega)];exact M.t3
 ·by_cases e:j=k
  ·subst e;simp only[if_true];exact⟨by rw[hs,if_pos rfl],NJ _,M.Ir.1⟩
  ·simp only[TE,if_neg e]at hl ⊢;obtain⟨k1,k2,k3⟩:=M.ch j hj hl;exact⟨by rw[hs,if_neg (by omega)];exact k1,Jt k2,k3⟩
 ·simp only[TE]at h h';by_cases e:j=k
  ·by_cases e':j'=k
   ·omega
   ·simp only[if_pos e,if_neg e']at h' ⊢;have:=hq j' hj' h';omega
  ·by_cases e':j'=k
   ·simp only[if_neg e,if_pos e']at h ⊢;have:=hq j hj h;omega
   ·simp only[if_neg e,if_neg e']at h h' ⊢;exact M.ne j j' hj hj' BN h h'
 ·simp only[TE,if_neg (show ¬(6=k) by omega)]at h;obtain⟨k1,k2,k3⟩:=M.al h;exact⟨by rw[hs,if_neg (by omega)];exact k1,Jt k2,k3⟩
 ·simp only[TE,if_neg (show ¬(4=k) by omega),h4]at h;cases h
 ·simp only[TE,if_neg (show ¬(5=k) by omega)]at h;have:=(M.bx h).2.2.2;rw[h4]at this;cases this
theorem Made.alloc (M:Made v b2 b3 ls a w q b r):Made v b2 b3 (TE ls 6) (a.put (some 5) (pr w.heap.size)) (w.alloc (.cells #[.pointer none] 200)) q w.heap.size r:=by
 have hs:=Vs M.size (d:=5) (by omega) (pr w.heap.size);refine⟨by simp[Act.put,M.size],by simp[Act.put,M.defers],?_,?_,M.Ir.trans (FB _ _),fun j hj hl=>?_,fun j j' hj hj' BN h h'=>?_,fun h=>?_,fun h=>?_,fun h=>?_⟩
 ·rw[hs,if_neg (by omega)];exact M.t2
 ·rw[hs,if_neg (by omega)];exact M.t3
 ·simp only[TE,if_neg (show ¬(j=6) by omega)]at hl;obtain⟨k1,k2,k3⟩:=M.ch j hj hl;exact⟨by rw[hs,if_neg (by omega)];exact k1,Jt k2,k3⟩
 ·simp only[TE,if_neg (show ¬(j=6) by omega),if_neg (show ¬(j'=6) by omega)]at h h';exact M.ne j j' hj hj' BN h h'
 ·exact⟨by rw[hs,if_pos rfl],NJ _,M.Ir.1⟩
 ·obtain⟨k1,k2⟩:=M.bd h;exact⟨by rw[hs,if_neg (by omega)];exact k1,fun k hk=>by simp only[TE,if_neg (show ¬(k=6) by omega)];exact k2 k hk⟩
 ·obtain⟨k1,k2,k3,k4⟩:=M.bx h;exact⟨by rw[hs,if_neg (by omega)];exact k1,Jt k2,k3,k4⟩
theorem Made.build (M:Made v b2 b3 ls a w q b r) (hd:∀k,k<4->ls k=true) (h5:ls 5=false):Made v b2 b3 (TE ls 4) (a.put (some 10) (.agg (AG q))) w q b r:=by
 have hs:=Vs M.size (d:=10) (by omega) (.agg (AG q));refine⟨by simp[Act.put,M.size],by simp[Act.put,M.defers],?_,?_,M.Ir,fun j hj hl=>?_,fun j j' hj hj' BN h h'=>?_,fun h=>?_,fun h=>?_,fun h=>?_⟩
 ·rw[hs,if_neg (by omega)];exact M.t2
 ·rw[hs,if_neg (by omega)];exact M.t3
 ·obtain⟨k1,k2,k3⟩:=M.ch j hj (hd j hj);exact⟨by rw[hs,if_neg (by omega)];exact k1,k2,k3⟩
 ·exact M.ne j j' hj hj' BN (hd j hj) (hd j' hj')
 ·obtain⟨k1,k2,k3⟩:=M.al h;exact⟨by rw[hs,if_neg (by omega)];exact k1,k2,k3⟩
 ·exact⟨by rw[hs,if_pos rfl],fun k hk=>by simp only[TE,if_neg (show ¬(k=4) by omega)];exact hd k hk⟩
 ·simp only[TE,if_neg (show ¬(5=4) by omega),h5]at h;cases h
theorem Made.box (M:Made v b2 b3 ls a w q b r) (h4:ls 4=true):Made v b2 b3 (TE ls 5) (a.put (some 11) (pr w.heap.size)) (w.alloc (.cells (AG q) 257)) q b w.heap.size:=by
 have hs:=Vs M.size (d:=11) (by omega) (pr w.heap.size);refine⟨by simp[Act.put,M.size],by simp[Act.put,M.defers],?_,?_,M.Ir.trans (FB _ _),fun j hj hl=>?_,fun j j' hj hj' BN h h'=>?_,fun h=>?_,fun h=>?_,fun h=>?_⟩
 ·rw[hs,if_neg (by omega)];exact M.t2
 ·rw[hs,if_neg (by omega)];exact M.t3
 ·simp only[TE,if_neg (show ¬(j=5) by omega)]at hl;obtain⟨k1,k2,k3⟩:=M.ch j hj hl;exact⟨by rw[hs,if_neg (by omega)];exact k1,Jt k2,k3⟩
 ·simp only[TE,if_neg (show ¬(j=5) by omega),if_neg (show ¬(j'=5) by omega)]at h h';exact M.ne j j' hj hj' BN h h'
 ·obtain⟨k1,k2,k3⟩:=M.al h;exact⟨by rw[hs,if_neg (by omega)];exact k1,Jt k2,k3⟩
 ·obtain⟨k1,k2⟩:=M.bd h;exact⟨by rw[hs,if_neg (by omega)];exact k1,fun k hk=>by simp only[TE,if_neg (show ¬(k=5) by omega)];exact k2 k hk⟩
 ·exact⟨by rw[hs,if_pos rfl],NJ _,M.Ir.1,by simp only[TE,if_neg (show ¬(4=5) by omega)];exact h4⟩
end
/-! ### the operations -/
section
variable {n:Nat} {Q:Exit->Act->World->Prop} {K:Act->World->Prop} {a:Act} {w w':World} {ops:Array Oper} {i:Nat} {o:Oper} {x:Value}
theorem Ku (hi:ops[i]?=some o) (hg:o.guard=none) (hn:o.about prog w a.eval=none) (hr:(execOp a.eval o).run prog w=.ok (.value x) w') (h:K (a.put o.dst x) w'):wpOpIn NF n prog ops Q i K a w:=by
 unfold wpOpIn;simp only[hi];rw[if_pos (by simp[Region.wanted,hg])];refine⟨fun f hf=>(by rw[hn]at hf;cases hf),?_⟩;show Oper.uponIn NF n prog o a K Q ((execOp a.eval o).run prog w);rw[hr];exact h
theorem uP (hi:ops[i]?=some o) (hg:o.guard=none) (hn:o.about prog w a.eval=none) (hr:(execOp a.eval o).run prog w=.ok .skip w') (h:K (a.put o.dst undef) w'):wpOpIn NF n prog ops Q i K a w:=by
 unfold wpOpIn;simp only[hi];rw[if_pos (by simp[Region.wanted,hg])];refine⟨fun f hf=>(by rw[hn]at hf;cases hf),?_⟩;show Oper.uponIn NF n prog o a K Q ((execOp a.eval o).run prog w);rw[hr];exact h
theorem uE:(execOp a.eval (NP 244 6)).run prog w=.ok (.value (CK w.heap.size)) (w.alloc QI):=by kernel_rfl
theorem uD:(execOp a.eval (NP 245 7)).run prog w=.ok (.value (CK w.heap.size)) (w.alloc QI):=by kernel_rfl
theorem uC:(execOp a.eval (NP 246 8)).run prog w=.ok (.value (CK w.heap.size)) (w.alloc QI):=by kernel_rfl
theorem uz:(execOp a.eval (NP 247 9)).run prog w=.ok (.value (CK w.heap.size)) (w.alloc QI):=by kernel_rfl
theorem jN:(execOp a.eval Vv).run prog w=.ok (.value (pr w.heap.size)) (w.alloc (.cells #[.pointer none] 200)):=by kernel_rfl
theorem bP {q:Nat->Nat}:((Instr.build 257 #[(0,CK (q 0)),(1,CK (q 1)),(2,CK (q 2)),(3,CK (q 3))])>>= fun x=>pure (Next.value x):Sem Next).run prog w=.ok (.value (.agg (AG q))) w:=by kernel_rfl
theorem run_build {q:Nat->Nat} (h:∀k,k<4->sl a (6+k)=CK (q k)):(execOp a.eval Qg).run prog w=.ok (.value (.agg (AG q))) w:=by
 have h0:a.eval (.tmp 6)=CK (q 0):=h 0 (by omega);have h1:a.eval (.tmp 7)=CK (q 1):=h 1 (by omega);have h2:a.eval (.tmp 8)=CK (q 2):=h 2 (by omega);have h3:a.eval (.tmp 9)=CK (q 3):=h 3 (by omega);have e:execOp a.eval Qg=((Instr.build 257 #[(0,a.eval (.tmp 6)),(1,a.eval (.tmp 7)),(2,a.eval (.tmp 8)),(3,a.eval (.tmp 9))])>>= fun x=>pure (Next.value x)):=by kernel_rfl
 rw[e,h0,h1,h2,h3];exact bP
theorem qg {q:Nat->Nat}:(Instr.box 257 (.agg (AG q))>>= fun x=>pure (Next.value x):Sem Next).run prog w=.ok (.value (pr w.heap.size)) (w.alloc (.cells (AG q) 257)):=by kernel_rfl
theorem uF {q:Nat->Nat} (h:sl a 10=.agg (AG q)):(execOp a.eval ji).run prog w=.ok (.value (pr w.heap.size)) (w.alloc (.cells (AG q) 257)):=by
 have e:execOp a.eval ji=(Instr.box 257 (sl a 10)>>= fun x=>pure (Next.value x)):=rfl;rw[e,h];exact qg
theorem run_store {b r:Nat} (h5:sl a 5=pr b) (h11:sl a 11=pr r) (hb:w.heap[b]?=some (.cells #[.pointer none] 200 (0,0))):(execOp a.eval Qf).run prog w=.ok .skip (w.setCell (S_ b) (pr r)):=by
 have e:execOp a.eval Qf=(Instr.storeAt 200 (sl a 5) (sl a 11)>>= fun _=>pure Next.skip):=rfl;rw[e,h5,h11];have hc:w.cell? (S_ b)=some (.pointer none):=by simp[World.cell?,hb]
 have hf:w.frozen? (S_ b)=false:=by simp[World.frozen?,hb]
 have e2:(Instr.storeAt 200 (pr b) (pr r)>>= fun _=>pure Next.skip:Sem Next).run prog w=(Sem.store .plain (S_ b) (pr r) (.pure Next.skip)).run prog w:=by kernel_rfl
 rw[e2];have e3:(Sem.store .plain (S_ b) (pr r) (.pure Next.skip)).run prog w=(match w.cell? (S_ b)with
  | some _=>if w.frozen? ⟨b,0,none⟩then .halt (.unsupported (.unsafePointer "a write to bytes that a string shares")) w else .ok .skip (w.setCell ⟨b,0,none⟩ (pr r))
  | none=>match w.farStore prog (S_ b) (pr r) false with
   | .ok (w,_)=>.ok .skip w
   | .error h=>.halt h w):=rfl;rw[e3,hc,hf]
 rfl
/-! ### whichever comes next -/
theorem ql {l:Array Bool} {i:Nat} (h:i∈Region.ready .any TL l):i<8/\l.getD i true=false/\(i=4->∀k,k<4->l.getD k false=true)/\(i=5->l.getD 4 false=true)/\(i=7->∀k,k<7->l.getD k false=true):=by
 simp only[Region.ready,List.mem_filter,List.mem_range,Bool.and_eq_true,Bool.not_eq_true']at h;obtain⟨h1,h2,h3⟩:=h;have h1':i<8:=h1;refine⟨h1',h2,fun e=>?_,fun e=>?_,fun e=>?_⟩
 ·subst e;simp[TL,Qg,sJ,Region.binds]at h3;intro k hk
  match k,hk with
  | 0,_=>simp[h3]
  | 1,_=>simp[h3]
  | 2,_=>simp[h3]
  | 3,_=>simp[h3]
 ·subst e;simp[TL,ji,sJ,Region.binds]at h3;simp[h3]
 ·subst e;simp[TL,Qf,sJ,Region.binds]at h3;intro k hk
  match k,hk with
  | 0,_=>simp[h3]
  | 1,_=>simp[h3]
  | 2,_=>simp[h3]
  | 3,_=>simp[h3]
  | 4,_=>simp[h3]
  | 5,_=>simp[h3]
  | 6,_=>simp[h3]
theorem bT {l:Array Bool} (h:∀k,k<8->l.getD k true=true):Region.ready .any TL l=[]:=by
 refine List.filter_eq_nil_iff.2 fun i hi=>?_
 have:=h i (List.mem_range.1 hi);rw[this];simp
theorem YB {l:Array Bool} (hs:l.size=8) (h:Region.ready .any TL l=[]):∀k,k<8->l.getD k true=true:=by
 have nr:∀i,i<8->((TL[i]?).map (·.after.all fun e=>!Region.binds .any e || l.getD e.on false)).getD false=true->l.getD i false=true:=fun i hi hm=>by
  cases hc:l.getD i true with
  | true=>simpa [Array.getD,hs,hi]using hc
  | false=>
   have:i∈Region.ready .any TL l:=List.mem_filter.2 ⟨List.mem_range.2 hi,by rw[hc,hm];rfl⟩
   rw[h]at this
   cases this
 have h0:=nr 0 (by omega) (by simp[TL,NP]);have q0:l[0]'(by omega)=true:=by simpa [Array.getD,hs]using h0
 have h1:=nr 1 (by omega) (by simp[TL,NP]);have q1:l[1]'(by omega)=true:=by simpa [Array.getD,hs]using h1
 have h2:=nr 2 (by omega) (by simp[TL,NP]);have q2:l[2]'(by omega)=true:=by simpa [Array.getD,hs]using h2
 have h3:=nr 3 (by omega) (by simp[TL,NP]);have q3:l[3]'(by omega)=true:=by simpa [Array.getD,hs]using h3
 have h6:=nr 6 (by omega) (by simp[TL,Vv]);have q6:l[6]'(by omega)=true:=by simpa [Array.getD,hs]using h6
 have h4:=nr 4 (by omega) (by
  simp only[TL,Qg,sJ]
  simp only[List.map_cons,List.map_nil]
  simp[Region.binds, *]);have q4:l[4]'(by omega)=true:=by simpa [Array.getD,hs]using h4
 have h5:=nr 5 (by omega) (by
  simp only[TL,ji,sJ]
  simp only[List.map_cons,List.map_nil]
  simp[Region.binds, *]);have q5:l[5]'(by omega)=true:=by simpa [Array.getD,hs]using h5
 have h7:=nr 7 (by omega) (by
  simp only[TL,Qf,sJ]
  simp only[List.map_cons,List.map_nil]
  simp[Region.binds, *]);intro k hk;have:l.getD k false=true:=by
  match k,hk with
  | 0,_=>exact h0
  | 1,_=>exact h1
  | 2,_=>exact h2
  | 3,_=>exact h3
  | 4,_=>exact h4
  | 5,_=>exact h5
  | 6,_=>exact h6
  | 7,_=>exact h7
 simpa [Array.getD,hs,hk]using this
theorem oH {l:Array Bool} (hs:l.size=8) {i:Nat} (hi:i<8):(fun j=>(l.setIfInBounds i true).getD j false)=TE (fun j=>l.getD j false) i:=by
 funext j;unfold TE;simp only[Array.getD_eq_getD_getElem?,Array.getElem?_setIfInBounds];by_cases e:i=j
 ·subst e;simp[hs,hi]
 ·simp[e,Ne.symm e]
theorem count_set {l:Array Bool} {i:Nat} (h:l.getD i true=false):(l.setIfInBounds i true).toList.count true=l.toList.count true+1:=by
 have hi:i<l.size:=by
  by_cases hi:i<l.size
  ·exact hi
  ·simp[Array.getD,hi]at h
 have hv:l[i]=false:=by simpa [Array.getD,hi]using h
 rw[Array.setIfInBounds,dif_pos hi];simp only[Array.toList_set];rw[List.count_set (by simpa using hi)];simp[hv]
theorem XU {v:World} {b2 b3:Nat} (hQ:∀a w q b r,Made v b2 b3 (fun _=>true) a w q b r->Q .normal a (w.setCell (S_ b) (pr r))):∀(fuel:Nat) (l:Array Bool) (a:Act) (w:World) (q:Nat->Nat) (b r:Nat),l.size=8->l.getD 7 true=false->l.toList.count true+fuel=8->
  Made v b2 b3 (fun i=>l.getD i false) a w q b r->wpAnyIn NF n prog .any TL Q fuel l a w
 | 0,l,a,w,q,b,r,hs,h7,hc,M=>by
  exfalso
  have:∀x∈l.toList,true=x:=by
   apply List.count_eq_length.1
   rw[Array.length_toList]
   omega
  have h7':l.toList[7]?=some false:=by
   simpa [Array.getD,hs]using h7
  have:=this false (List.mem_of_getElem? h7')
  cases this
 | fuel+1,l,a,w,q,b,r,hs,h7,hc,M=>by
  refine⟨fun hn=>?_,fun i hi=>?_⟩
  ·have:=YB hs hn 7 (by omega);rw[h7]at this;cases this
  ·obtain⟨hi8,hl,d4,d5,d7⟩:=ql hi;have hlf:l.getD i false=false:=(by simpa [Array.getD,hs,hi8]using hl);have next:∀(a':Act) (w':World) (q':Nat->Nat) (b' r':Nat),i≠7->Made v b2 b3 (TE (fun j=>l.getD j false) i) a' w' q' b' r'->wpAnyIn NF n prog .any TL Q fuel (l.setIfInBounds i true) a' w':=fun a' w' q' b' r' BN M'=>by
    refine XU hQ fuel _ a' w' q' b' r' (by simp[hs]) ?_ (by rw[count_set hl];omega) (by rw[oH hs hi8];exact M')
    simp only[Array.getD_eq_getD_getElem?,Array.getElem?_setIfInBounds_ne BN]
    simpa [Array.getD_eq_getD_getElem?]using h7
   have n4:i<4->l.getD 4 false=false:=fun h=>by
    cases e:l.getD 4 false with
    | false=>rfl
    | true=>have:=(M.bd e).2 i h;rw[hlf]at this;cases this
   match i,hi8,hl,hlf,d4,d5,d7,next,n4 with
   | 0,_,hl,hlf,_,_,_,next,n4=>exact Ku (o:=NP 244 6) rfl rfl rfl uE (next _ _ _ _ _ (by omega) (M.chan (k:=0) (by omega) (n4 (by omega))))
   | 1,_,hl,hlf,_,_,_,next,n4=>exact Ku (o:=NP 245 7) rfl rfl rfl uD (next _ _ _ _ _ (by omega) (M.chan (k:=1) (by omega) (n4 (by omega))))
   | 2,_,hl,hlf,_,_,_,next,n4=>exact Ku (o:=NP 246 8) rfl rfl rfl uC (next _ _ _ _ _ (by omega) (M.chan (k:=2) (by omega) (n4 (by omega))))
   | 3,_,hl,hlf,_,_,_,next,n4=>exact Ku (o:=NP 247 9) rfl rfl rfl uz (next _ _ _ _ _ (by omega) (M.chan (k:=3) (by omega) (n4 (by omega))))
   | 4,_,hl,hlf,d4,_,_,next,_=>
    have h5:l.getD 5 false=false:=by
     cases e:l.getD 5 false with
     | false=>rfl
     | true=>have:=(M.bx e).2.2.2;rw[hlf]at this;cases this
    exact Ku (o:=Qg) rfl rfl rfl (run_build fun k hk=>(M.ch k hk (d4 rfl k hk)).1) (next _ _ _ _ _ (by omega) (M.build (d4 rfl) h5))
   | 5,_,hl,hlf,_,d5,_,next,_=>exact Ku (o:=ji) rfl rfl rfl (uF (M.bd (d5 rfl)).1) (next _ _ _ _ _ (by omega) (M.box (d5 rfl)))
   | 6,_,hl,hlf,_,_,_,next,_=>exact Ku (o:=Vv) rfl rfl rfl jN (next _ _ _ _ _ (by omega) M.alloc)
   | 7,_,hl,hlf,_,_,d7,_,_=>
    have GG:=d7 rfl
    have M':Made v b2 b3 (fun _=>true) a w q b r:=⟨M.size,M.defers,M.t2,M.t3,M.Ir,fun k hk _=>M.ch k hk (GG k (by omega)),fun k k' hk hk' BN _ _=>M.ne k k' hk hk' BN (GG k (by omega)) (GG k' (by omega)),fun _=>M.al (GG 6 (by omega)),fun _=>⟨(M.bd (GG 4 (by omega))).1,fun _ _=>rfl⟩,fun _=>let h:=M.bx (GG 5 (by omega));⟨h.1,h.2.1,h.2.2.1,rfl⟩⟩
    have hq:=hQ a w q b r M'
    refine uP (o:=Qf) rfl rfl rfl (run_store (M.al (GG 6 (by omega))).1 (M.bx (GG 5 (by omega))).1 (M.al (GG 6 (by omega))).2.1) ?_
    have hfull:Region.ready .any TL (l.setIfInBounds 7 true)=[]:=bT fun k hk=>by
     have:=congrFun (oH hs (i:=7) (by omega)) k
     simp only[TE]at this
     have h2:(l.setIfInBounds 7 true).getD k false=true:=by
      rw[this]
      by_cases e:k=7
      ·simp[e]
      ·rw[if_neg e];exact GG k (by omega)
     have hk':k<(l.setIfInBounds 7 true).size:=(by simp[hs];omega);simp only[Array.getD,dif_pos hk']at h2 ⊢;exact h2
    cases fuel with
    | zero=>exact⟨hfull,hq⟩
    | succ f=>exact⟨fun _=>hq,fun i hi=>by rw[hfull]at hi;cases hi⟩
end
theorem Hu {w:World} {b x:Nat} {u:Value} (h:b≠x):(w.setCell (S_ b) u).heap[x]?=w.heap[x]?:=by
 simp[World.setCell,Array.getElem?_modify,h]
theorem YQ (b2 b3:Nat) (v:World) (g:Y_) (τ:Nat->Question->Nat) (d:Nat) (m:Nat):(S1 prog).wpIn NF m prog (Ends fun tm w'=>∃g' b5 r q0 q1 q2 q3,tm=TN 18 (AR g' (jh b2 b3 b5))/\F5 v w'/\(∀x∈[b5,r,q0,q1,q2,q3],v.heap.size<=x)/\[b5,r,q0,q1,q2,q3].Nodup/\A7 r #[CK q0,CK q1,CK q2,CK q3] 257 w' 0 0/\w'.cell? (S_ b5)=some (pr r)/\∀q∈[q0,q1,q2,q3],w'.heap[q]?=some (.chan 0 #[] false 0 0 false)) ⟨TN 18 (AR g [(2,pr b2),(3,pr b3)]),[]⟩ (v.re τ d):=by
 rw[ap5];refine wpIn_region_any (by kernel_rfl) (XU (v:=v) (b2:=b2) (b3:=b3) (fun a w q b r M=>?_) 8 _ _ _ (fun _=>0) 0 0 rfl rfl rfl ?_)
 ·obtain⟨a5,ab,ag⟩:=M.al rfl;obtain⟨r1,r2,r3,_⟩:=M.bx rfl;have c0:=M.ch 0 (by omega) rfl;have c1:=M.ch 1 (by omega) rfl;have c2:=M.ch 2 (by omega) rfl;have c3:=M.ch 3 (by omega) rfl;have nb:∀x,w.heap[x]?=some QI->b≠x:=fun x hx e=>by subst e;rw[ab]at hx;cases hx
  have nr:∀x,w.heap[x]?=some QI->r≠x:=fun x hx e=>by subst e;rw[r2]at hx;cases hx
  have nbr:b≠r:=fun e=>by
   rw[e,r2]at ab
   injection ab with ab
   injection ab with _ e2 _
   cases e2
  have hb:b<w.heap.size:=(Array.getElem?_eq_some_iff.1 ab).1;have hg:F5 v (w.setCell (S_ b) (pr r)):=by
   refine⟨by simpa [World.setCell]using M.Ir.1,fun x hx=>?_,M.Ir.2.2.1,M.Ir.2.2.2⟩
   rw[Hu (by omega)]
   exact M.Ir.2.1 x hx
  have hd:=M.defers;refine⟨rfl,hd,fun i=>a.tmps.getD i undef,b,r,q 0,q 1,q 2,q 3,?_,hg,?_,?_,?_,?_,?_⟩
  ·rw[show AR (fun i=>a.tmps.getD i undef) (jh b2 b3 b)=fun i=>a.tmps.getD i undef from JM fun p hp=>by
    simp only[jh,List.mem_cons,List.not_mem_nil,or_false]at hp
    rcases hp with h|h|h<;>subst h
    ·exact M.t2
    ·exact M.t3
    ·exact a5]
   exact RY M.size
  ·intro x hx;simp only[List.mem_cons,List.not_mem_nil,or_false]at hx;rcases hx with h|h|h|h|h|h<;>subst h
   ·exact ag
   ·exact r3
   ·exact c0.2.2
   ·exact c1.2.2
   ·exact c2.2.2
   ·exact c3.2.2
  ·have n01:=M.ne 0 1 (by omega) (by omega) (by omega) rfl rfl;have n02:=M.ne 0 2 (by omega) (by omega) (by omega) rfl rfl;have n03:=M.ne 0 3 (by omega) (by omega) (by omega) rfl rfl;have n12:=M.ne 1 2 (by omega) (by omega) (by omega) rfl rfl;have n13:=M.ne 1 3 (by omega) (by omega) (by omega) rfl rfl;have n23:=M.ne 2 3 (by omega) (by omega) (by omega) rfl rfl;simp only[List.nodup_cons,List.mem_cons,List.not_mem_nil,or_false,not_or,List.nodup_nil,and_true,not_false_eq_true];exact⟨⟨nbr,nb _ c0.2.1,nb _ c1.2.1,nb _ c2.2.1,nb _ c3.2.1⟩,⟨nr _ c0.2.1,nr _ c1.2.1,nr _ c2.2.1,nr _ c3.2.1⟩,⟨n01,n02,n03⟩,⟨n12,n13⟩,n23⟩
  ·unfold A7;rw[Hu nbr];exact r2
  ·simp[World.cell?,World.setCell,Array.getElem?_modify,ab]
  ·intro x hx;simp only[List.mem_cons,List.not_mem_nil,or_false]at hx;rcases hx with h|h|h|h<;>subst h
   ·rw[Hu (nb _ c0.2.1)];exact c0.2.1
   ·rw[Hu (nb _ c1.2.1)];exact c1.2.1
   ·rw[Hu (nb _ c2.2.1)];exact c2.2.1
   ·rw[Hu (nb _ c3.2.1)];exact c3.2.1
 ·have hf:∀i,(Array.replicate TL.size false).getD i false=false:=fun i=>by
   simp[Array.getD]
  refine⟨by simp[TN],rfl,rfl,rfl,⟨Nat.le_refl _,fun _ _=>rfl,rfl,rfl⟩,fun k _ h=>?_,fun k k' _ _ _ h=>?_,fun h=>?_,fun h=>?_,fun h=>?_⟩<;>(rw[hf]at h;cases h)
theorem ky (m:Nat):UG prog NF m:=⟨fun r s0 s1 s2 v g τ d=>kY r s0 s1 s2 v g τ d m⟩
theorem bM (m:Nat):oZ prog NF m:=⟨fun sa n v g τ d=>Y6 sa n v g τ d m,fun b2 b3 v g τ d=>YQ b2 b3 v g τ d m⟩
end Go.Fxa
namespace Go.Fxa
open Go.Conc Go.Proofs Go.RowKit
structure Ab (S:Nat->Prop) (w w':World):Prop where
 os:w'.os=w.os
 output:w'.output=w.output
 size:w.heap.size<=w'.heap.size
 block:∀k,k<w.heap.size->¬S k->w'.heap[k]?=w.heap[k]?
def No:Nat->Prop:=fun _=>False
def At (b:Nat):Nat->Prop:=fun k=>k=b
def TM (b c:Nat):Nat->Prop:=fun k=>k=b\/k=c
section
variable {S S':Nat->Prop} {a b c w w':World}
theorem Ab.refl (S:Nat->Prop) (w:World):Ab S w w:=⟨rfl,rfl,Nat.le_refl _,fun _ _ _=>rfl⟩
theorem Ab.mono (h:Ab S a b) (hs:∀k,k<a.heap.size->S k->S' k):Ab S' a b:=⟨h.os,h.output,h.size,fun k hk hn=>h.block k hk fun hS=>hn (hs k hk hS)⟩
theorem Ab.no (h:Ab No a b):Ab S a b:=h.mono fun _ _ hk=>hk.elim
theorem Ab.trans (h:Ab S a b) (k:Ab S' b c) (hs:∀k,k<a.heap.size->S' k->S k):Ab S a c:=
 ⟨k.os.trans h.os,k.output.trans h.output,Nat.le_trans h.size k.size,fun i hi hn=>(k.block i (Nat.lt_of_lt_of_le hi h.size) fun hk=>hn (hs i hi hk)).trans (h.block i hi hn)⟩
theorem Ab.then (h:Ab S a b) (k:Ab S b c):Ab S a c:=h.trans k fun _ _ h=>h
theorem Ab.drew (h:Ab S a w):Ab S a w.drew:=⟨h.os,h.output,h.size,h.block⟩
theorem Ab.alloc (h:Ab S a w) (o:Obj):Ab S a (w.alloc o):=
 h.then ⟨rfl,rfl,by simp,fun k hk _=>Below.heap_alloc _ _ _ hk⟩
theorem Ab.setCell (h:Ab S a w) {p:Addr} (u:Value) (hp:p.block<a.heap.size->S p.block):Ab S a (w.setCell p u):=
 ⟨h.os,h.output,by simpa using h.size,fun k hk hn=>(Below.heap_setCell _ _ _ _ fun e=>hn (by subst e;exact hp hk)).trans (h.block k hk hn)⟩
theorem Ab.cell (h:Ab S w w') {p:Addr} (hp:p.block<w.heap.size) (hn:¬S p.block):w'.cell? p=w.cell? p:=World.cell?_of_block (w:=w) (h.block p.block hp hn)
theorem Ab.old (h:Ab S w w') {k:Nat} {o:Obj} (hk:w.heap[k]?=some o) (hn:¬S k):w'.heap[k]?=some o:=(h.block k (Array.getElem?_eq_some_iff.1 hk).1 hn).trans hk
end
theorem Co {w:World} {k:Nat} {o:Obj} (h:w.heap[k]?=some o):k<w.heap.size:=(Array.getElem?_eq_some_iff.1 h).1
theorem Ag {w:World} {k:Nat} {cs:X_} {T:TypeId} {fz:Nat×Nat} (h:w.heap[k]?=some (.cells cs T fz)) (i:Nat):w.cell? (T_ k i)=cs[i]?:=by simp[World.cell?,h]
theorem BF {w:World} {k:Nat} {cs:X_} {T:TypeId} (h:w.heap[k]?=some (.cells cs T (0,0))) (i:Nat):w.frozen? (T_ k i)=false:=by simp[World.frozen?,h]
theorem Aj {w:World} {k i:Nat} {cs:X_} {T:TypeId} {fz:Nat×Nat} (h:w.heap[k]?=some (.cells cs T fz)) (u:Value):(w.setCell (T_ k i) u).heap[k]?=some (.cells (cs.setIfInBounds i u) T fz):=by
 simp[World.setCell,Array.getElem?_modify,h]
theorem Fz {w:World} {k:Nat} {p:Addr} (u:Value) (h:k≠p.block):(w.setCell p u).heap[k]?=w.heap[k]?:=Below.heap_setCell _ _ _ _ h
theorem heap_alloc_new {w:World} {o:Obj} {k:Nat} (h:k=w.heap.size):(w.alloc o).heap[k]?=some o:=by subst h;exact NJ _
theorem heap_alloc_old {w:World} {o:Obj} {k:Nat} (h:k<w.heap.size):(w.alloc o).heap[k]?=w.heap[k]?:=Below.heap_alloc _ _ _ h
theorem heap_drew {w:World} {k:Nat}:w.drew.heap[k]?=w.heap[k]?:=rfl
end Go.Fxa
namespace Go.Fxa
open Go.Conc Go.Proofs Go.RowKit
set_option maxRecDepth 1000000
set_option maxHeartbeats 0
@[simp] theorem lf:(14:FuncId)∈LF/\17∈LF/\18∈LF/\20∈LF/\41∈LF/\42∈LF/\43∈LF/\44∈LF/\45∈LF/\46∈LF/\47∈LF/\48∈LF/\49∈LF/\50∈LF/\51∈LF/\52∈LF/\53∈LF/\54∈LF/\55∈LF/\57∈LF/\58∈LF/\87∈LF/\88∈LF/\89∈LF/\90∈LF/\91∈LF/\92∈LF/\96∈LF/\98∈LF/\100∈LF/\101∈LF/\102∈LF/\122∈LF/\123∈LF/\124∈LF/\126∈LF/\127∈LF/\128∈LF/\129∈LF/\130∈LF/\131∈LF/\132∈LF/\138∈LF/\139∈LF/\140∈LF/\141∈LF/\142∈LF/\143∈LF/\144∈LF/\145∈LF/\148∈LF/\149∈LF/\150∈LF/\151∈LF/\152∈LF/\153∈LF/\156∈LF/\157∈LF/\158∈LF/\171∈LF/\185∈LF/\193∈LF/\194∈LF/\195∈LF/\196∈LF/\198∈LF/\199∈LF/\200∈LF/\201∈LF/\202∈LF/\203∈LF/\204∈LF/\205∈LF/\206∈LF/\207∈LF/\208∈LF/\209∈LF/\210∈LF/\211∈LF/\212∈LF/\213∈LF/\226∈LF/\229∈LF/\230∈LF/\231∈LF/\232∈LF/\233∈LF/\234∈LF/\237∈LF/\238∈LF/\244∈LF/\245∈LF/\246∈LF/\248∈LF:=by(repeat' apply And.intro)<;>decide
@[simp] theorem bf4 (f:FuncId):NF.fn f=(f∈LF):=rfl
@[simp] theorem aq6:NF.round=none:=rfl
@[simp] theorem aq7:NF.depth=none:=rfl
@[simp] theorem aq8:NF.alive=true:=rfl
end Go.Fxa
