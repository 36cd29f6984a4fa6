/- Which operations -/
import Derived.Test.YtmhplpfpcnjekaaGreatA09
import Derived.TacticsInMore
import Derived.RegionIn
import Derived.LoopIn
import Derived.OrdersIn
import Derived.Below
import Derived.WalkSmall
open Go.Proofs.Tryz
namespace Go.Fxa
open Go.Conc
variable {t:j_}{x y:n_}{a:Array j_}{args:X_}{o:Oper}
def Bh (P:l_)(o:Oper):Bool:=match o.op with
 |.move _ | .assign _ | .pick _ _ _ | .alloc _ | .box _ _ | .build _ _ | .buildSlice _ _ _ | .load _ _ | .store _ _ _ | .nilCheck _=>true
 |.unOp _ _ _ | .makeInterface _ _ | .makeFunc _ _ _ | .makeChan _ _ | .makeSlice _ _ _ | .slice _ _ _ _ _ | .fieldAddr _ _ _ | .field _ _ _ | .indexAddr _ _ _ | .index _ _ _ | .extract _ _ | .panic _=>true
 |.binOp op t x y _=>match op with
  |.eql=>QN P t x y
  |.neq=>QN P t x y
  |_=>true
 |.convert a b _=>mF P a && mF P b
 |.call c=>match c.callee with
  |.builtin b=>match b with
   |.append | .cap | .clear | .copy | .len | .max | .min=>true
   |_=>false
  |.value _=>true
  |.invoke _ _=>true
 |_=>false
def ag3 (P:l_)(l:List h_)(o:Oper):Bool:=Bh P o || (match o.op with
 |.defer c=>match c.callee with
  |.value (.func f)=>l.contains f
  |_=>false
 |_=>false)
def opsOf (P:l_)(l:List h_)(f:h_):Oper->Bool:=if su f then ag3 P l else Bh P
section
variable {P:l_}{L:h_->Prop}{bb:Bool}
theorem bu {s:n_}:(Instr.makeChan t s).Au P λ_=>True:=by
 unfold Instr.makeChan;refine Ac NQ λn=>Ac (Bf AB) λd=>?_
 split
 .refine Ac Eh λi=>?_
  exact AO (λ_=>Ac Bg λ_=>Ac (OA rfl) λ_=>Ae trivial) λ_=>Ac (OA rfl) λ_=>Ae trivial
 .exact Ak
theorem EE {s:Sem n_}(h:s.Au P λ_=>True):(s>>= λx=>pure (Next.value x):Sem Next).Au P (FC L bb):=Ac h λ_=>Ae trivial
theorem az7 {s:Sem Unit}(h:s.Au P λ_=>True):(s>>= λ_=>pure Next.skip:Sem Next).Au P (FC L bb):=Ac h λ_=>Ae trivial
theorem Q5 {f:n_->n_->Sem n_}(h:∀x y,(f x y).Au P λ_=>True):∀(l:U_)(x:n_),(l.foldlM f x).Au P λ_=>True
 |[],_=>Ae trivial
 |y::l,x=>Ac (h x y) λz=>Q5 h l z
theorem Ϡ:(Builtin.min2 x y).Au P λ_=>True:=by
 unfold Builtin.min2;split<;>first
  |exact Ae trivial
  |exact E8 sJ
  |exact Ak
  |exact Ac IM λ_=>Ac OE λ_=>Ae trivial
  |(split<;>first
    |exact Ae trivial
    |exact Ac (e:=choose _) (λ_=>trivial) λ_=>Ae trivial)
theorem ϡ:(Builtin.max2 x y).Au P λ_=>True:=by
 unfold Builtin.max2;split<;>first
  |exact Ae trivial
  |exact E8 sJ
  |exact Ak
  |exact Ac IM λ_=>Ac OE λ_=>Ae trivial
  |(split<;>first
    |exact Ae trivial
    |exact Ac (e:=choose _) (λ_=>trivial) λ_=>Ae trivial)
theorem am7:(Builtin.min_ a t args).Au P λ_=>True:=by
 unfold Builtin.min_;split
 .exact Ak
 .exact Q5 (λ_ _=>Ϡ) _ _
theorem am8:(Builtin.max_ a t args).Au P λ_=>True:=by
 unfold Builtin.max_;split
 .exact Ak
 .exact Q5 (λ_ _=>ϡ) _ _
theorem fM (H:P.globals.size=0)(hB:Ud P L)(h:Bh P o=true):bt8 P L bb o:=by
 intro m v F k;obtain⟨B,op,type,pos,after,guard⟩:=o;unfold Bh at h;simp only at h;unfold execOp;simp only;cases op with
 |move x=>exact Sem.Au.here (Ae trivial) v
 |assign x=>exact Sem.Au.here (Ae trivial) v
 |pick c a b=>exact Sem.Au.here (Ac OE λ_=>Ae trivial) v
 |alloc e=>exact Sem.Au.here (EE wH) v
 |box e x=>exact Sem.Au.here (EE an1) v
 |build t D=>exact Sem.Au.here (EE wu) v
 |buildSlice t n D=>exact Sem.Au.here (EE XK) v
 |load t a=>exact Sem.Au.here (EE pq) v
 |store t a x=>exact Sem.Au.here (az7 jT) v
 |nilCheck x=>
  refine Sem.Au.here ?_ v
  dsimp only
  split<;>first
   |exact Bg
   |exact Ae trivial
   |skip
  split<;>first
   |exact Bg
   |exact Ae trivial
   |skip
  refine Ac (Bf Dz) λq=>Ac (TB _ _ _ _) λr=>?_
  exact AO (λ_=>Ac (E8 sJ) λ_=>Ae trivial) λ_=>Ae trivial
 |unOp op t x=>exact Sem.Au.here (EE vT) v
 |makeInterface t x=>exact Sem.Au.here (EE Ux) v
 |makeFunc f a b=>exact Sem.Au.here (EE bn) v
 |makeChan t s=>exact Sem.Au.here (EE bu) v
 |makeSlice t a b=>exact Sem.Au.here (EE ZY) v
 |slice t x a b c=>exact Sem.Au.here (EE jU) v
 |fieldAddr t x f=>exact Sem.Au.here (EE jX) v
 |field t x f=>exact Sem.Au.here (EE vY) v
 |indexAddr t x i=>exact Sem.Au.here (EE jW) v
 |index t x i=>exact Sem.Au.here (EE vX) v
 |extract x i=>exact Sem.Au.here (EE jY) v
 |panic x=>exact Sem.Au.here (EE vW) v
 |convert a b x=>
  simp only[Bool.and_eq_true]at h
  exact Sem.Au.here (EE (ku h.1 h.2)) v
 |binOp op t x y z=>
  have hq:(op=.eql\/op=.neq)->QN P t x y=true:=λj=>by obtain rfl|rfl:=j<;>exact h
  refine Sem.Au.here (EE (Ac (jZ hq) λ_=>?_)) v
  by_cases j:op=.eql\/op=.neq
  .exact wF H j (hq j)
  .exact wC H (λe=>j (.inl e)) λe=>j (.inr e)
 |call c=>
  obtain⟨callee,args,A⟩:=c
  cases callee with
  |builtin b=>
   refine Sem.Au.here ?_ v
   cases b<;>first
    |(cases h;done)
    |exact EE pG
    |exact EE an0
    |exact EE wo
    |exact EE Ϣ
    |exact EE am9
    |exact EE am7
    |exact EE am8
  |value f=>
   refine ac7 hB λd E p g C=>k g ?_
   simp only[Oper.about,resolve,p]
   exact C
  |invoke r n=>
   have w:∀(x:n_)(l:X_),(#[x]++l)[0]?=some x:=λx l=>by rw[Array.getElem?_append_left sJ];rfl
   show Iy P (FC L bb) (invoke (.fn (.method n) #[]) (#[m.eval r]++args.map m.eval)) v
   simp only[invoke,w]
   refine Xk hB λt u f G E e p=>k f ?_
   show Target.leads P v (.fn (.method n) #[]) (#[m.eval r]++args.map m.eval)=some f
   simp only[Target.leads,w,e,p]
 |_=>cases h
theorem aq0 (i:P.globals.size=0){l:List h_}(hB:Ud P (·∈l))(h:ag3 P l o=true):bt8 P (·∈l) true o:=by
 unfold ag3 at h;obtain h|h:=Bool.or_eq_true_iff.1 h
 .exact fM i hB h
 .intro d v g e;obtain⟨b,op,type,pos,after,guard⟩:=o;simp only at h;unfold execOp;simp only;cases op<;>try cases h
  rename_i c _
  obtain⟨callee,args,a⟩:=c
  cases callee with
  |value f=>
   cases f with
   |func f=>exact Sem.Au.here (show(pure (Next.defer ⟨.fn (.func f) #[],#[]++args.map d.eval⟩):Sem Next).Au P (FC (·∈l) true)from⟨rfl,f,#[],rfl,by simpa using h⟩) v
   |_=>cases h
  |_=>cases h
theorem bk0 (m:P.globals.size=0){l:List h_} (h:(l.all λf=>match P.funcs[f]? with
  |some fn=>match fn.body with
   |some c=>c.AP (opsOf P l f) && !(fn.name== "runtime.NumGoroutine") && (P.inits.idxOf? f).isNone
   |none=>false
  |none=>false)=true):QE P (·∈l) (opsOf P l):=by
 have k:∀f∈l,∃fn c,P.funcs[f]?=some fn/\fn.body=some c/\c.AP (opsOf P l f)=true/\(fn.name== "runtime.NumGoroutine")=false/\P.inits.idxOf? f=none:=λf b=>by
  have a:=List.all_eq_true.1 h f b
  cases e1:P.funcs[f]? with
  |none=>rw[e1]at a;cases a
  |some fn=>
   rw[e1]at a
   simp only at a
   cases e2:fn.body with
   |none=>rw[e2]at a;cases a
   |some c=>
    rw[e2]at a
    simp only[Bool.and_eq_true,Bool.not_eq_true',Option.isNone_iff_eq_none]at a
    exact⟨fn,c,rfl,e2,a.1.1,a.1.2,a.2⟩
 have hB:Ud P (·∈l):=λf b=>by
  obtain⟨fn,c,a,e,i,g,j⟩:=k f b
  exact⟨fn,a,by rw[e];rfl,g⟩
 refine⟨λf o d=>?_,λf b=>?_,λf b=>?_⟩
 .unfold opsOf at d;cases hd:su f with
  |false=>rw[hd]at d;exact fM m hB d
  |true=>rw[hd]at d;exact aq0 m hB d
 .obtain⟨fn,c,a,e,i,g,j⟩:=k f b;exact⟨fn,c,a,g,e,i⟩
 .obtain⟨fn,c,a,e,i,g,j⟩:=k f b;exact j
end
end Go.Fxa
namespace Go.Fxa
open Go.Conc Go.Proofs
def LB:List h_:=[3,5,6,7,8,9,10,12,13,14,15,16,17,18,19,20,21,22,23,24,25,26,27,28,29,30,31,32,33,34,35,36,37,38,39,40,41,42,43,44,45,46,47,48,49,50,51,52,53,54,55,57,58,59,60,61,62,63,64,65,66,67,68,69,70,71,72,73,74,75,76,77,78,79,80,81,82,83,84,85,86,87,88,89,90,91,92,95,96,98,99,100,101,102,103,104,105,106,107,108,109,110,111,112,113,114,115,116,117,118,119,120,121,122,123,124,125,126,127,128,129,130,131,132,136,138,139,140,141,142,143,144,145,146,147,148,149,150,151,152,153,154,155,156,157,158,159,160,161,162,163,164,165,166,167,168,170,171,185,193,194,195,196,197,198,199,200,201,202,203,204,205,206,207,208,209,210,211,212,213,214,215,216,217,218,219,220,221,226,227,229,230,231,232,233,234,236,237,238,239,240,241,242,243,244,245,246,247,248,249,265,266,267,268,269,270,271,272,273,274,275,276,277,278,279,280,281]
def LF:List h_:=169::235::LB
theorem av1:QE prog (·∈LB) (opsOf prog LB):=bk0 sU sU
theorem ak9 {P:Program} {f:FuncId} {fn:Func} (a:P.funcs[f]?=some fn) (b:(fn.name== "runtime.NumGoroutine")=false) (c:fn.body.isNone=true) (d:Extern.findNext fn=none) (e:Extern.find fn=some (Extern.SlicesOverlaps.overlaps fn.params fn.resultTypes)):Ext P f:=⟨fn,_,_,a,b,c,d,e⟩
theorem by1:Ext prog 169:=ak9 (fn:=(prog.funcs[169]?).getD default) sU sU sU sU sU
theorem by0:Ext prog 235:=ak9 (fn:=(prog.funcs[235]?).getD default) sU sU sU sU sU
def NF:Fence:=Fence.list LF none
theorem Qj:V4 prog (·∈LB) (opsOf prog LB) NF:=⟨av1,rfl,rfl,rfl,λf h=>by
 obtain rfl|h:=r_.1 h
 .exact .inr by1
 obtain rfl|h:=r_.1 h
 .exact .inr by0
 .exact .inl h⟩
theorem Je {P:l_}{f g:h_}(a:(P.funcs[f]?).any (·.norace)=false)(b:(P.funcs[g]?).any (·.norace)=false)(es:Array Event):seen P f es=seen P g es:=by
 unfold seen;simp[a,b]
theorem cw0:(prog.funcs[56]?).any (·.norace)=false:=sU
theorem cv9:(prog.funcs[93]?).any (·.norace)=false:=sU
theorem cv8:(prog.funcs[97]?).any (·.norace)=false:=sU
theorem cl4:(prog.funcs[136]?).any (·.norace)=false:=sU
theorem WJ:(prog.funcs[185]?).any (·.norace)=false:=sU
theorem cl3:(prog.funcs[187]?).any (·.norace)=false:=sU
theorem cl1:(R2 prog).AP (Bh prog)=true:=sU
theorem cl0:(R3 prog).AP (Bh prog)=true:=sU
theorem ck9:(S0 prog).AP (Bh prog)=true:=sU
theorem ck8:(S1 prog).AP (Bh prog)=true:=sU
theorem bw0:(R10 prog).AP (Bh prog)=true:=sU
theorem bv9:(R11 prog).AP (Bh prog)=true:=sU
theorem bv7:(R15 prog).AP (Bh prog)=true:=sU
theorem bv6:(R16 prog).AP (Bh prog)=true:=sU
theorem cl2:(A0 prog).AP (Bh prog)=true:=sU
theorem bv5:(R21 prog).AP (Bh prog)=true:=sU
theorem bf4:(XA prog).AP (Bh prog)=true:=sU
theorem bv8:(R12 prog).AP (Bh prog)=true:=sU
theorem bf7:(aX prog).AP (Bh prog)=true:=sU
theorem U6:Yl prog (·∈LB) (opsOf prog LB) NF 185 where
 fenced:=Qj
 QM:=⟨by show 185∈LF;decide,by show 185∈LB;decide,rfl⟩
 seen:=λf d b=>by
  obtain e|e|e|e|e:=d<;>rw[e]
  .exact Je cw0 WJ b
  .exact Je cv9 WJ b
  .exact Je cv8 WJ b
  .exact Je cl4 WJ b
  .exact Je cl3 WJ b
 ops:=λc a=>by
  show c.AP (Bh prog)=true
  obtain e|a:=r_.1 a
  .rw[e];exact cl1
  obtain e|a:=r_.1 a
  .rw[e];exact cl0
  obtain e|a:=r_.1 a
  .rw[e];exact ck9
  obtain e|a:=r_.1 a
  .rw[e];exact ck8
  obtain e|a:=r_.1 a
  .rw[e];exact bw0
  obtain e|a:=r_.1 a
  .rw[e];exact bv9
  obtain e|a:=r_.1 a
  .rw[e];exact bv7
  obtain e|a:=r_.1 a
  .rw[e];exact bv6
  obtain e|a:=r_.1 a
  .rw[e];exact cl2
  obtain e|a:=r_.1 a
  .rw[e];exact bv5
  obtain e|a:=r_.1 a
  .rw[e];exact bf4
  obtain e|a:=r_.1 a
  .rw[e];exact bf7
  obtain e|a:=r_.1 a
  .rw[e];exact bv8
  cases a
end Go.Fxa
namespace Go.Fxa
open Go.Conc Go.Proofs Go.RowKit
set_option maxRecDepth 1000000
set_option maxHeartbeats 0
theorem Hy (v:o_)(o:Obj):IG v (v.alloc o):=by
 have e:(v.alloc o).heap=v.heap.push o:=rfl;refine⟨by rw[e];simp,λx a=>?_,rfl,rfl⟩;rw[e,Array.getElem?_push,ru wB]
theorem nZ {v w:o_}{τ:Nat->Question->Nat}{d:Nat}(h:IG (v.re τ d) w):IG v w:=h
theorem cq2:A0 prog=Code.region 0 #[{ dst:=some 3,op:=Op.box 206 (Operand.tmp 1),type:=0,pos:= "run.go:43",after:=#[],guard:=none}] false:=by kernel_rfl
theorem ac8 (r:Nat)(a b c:n_)(v:o_)(g:Y_)(τ:Nat->Question->Nat)(d:Nat)(m:Nat):(A0 prog).wpIn NF m prog (Ends λe w'=>∃g' bB,e=TN 9 (AQ g' (ad5 r (.agg #[a,b,c]) bB))/\(IG v w'/\bB=v.heap.size/\w'.heap.size=v.heap.size+1)/\Cells w' [(R_ bB),(S_ bB 1),(S_ bB 2)] [a,b,c]) ⟨TN 9 (AQ g [(0,pr r),(1,.agg #[a,b,c])]),[]⟩ (v.re τ d):=by
 rw[cq2];show Code.wpIn (Fence.list LF none) m prog _ _ ⟨#[pr r,.agg #[a,b,c],g 2,g 3,g 4,g 5,g 6,g 7,g 8],[]⟩ _;gi_wp2;refine⟨rfl,rfl,g,v.heap.size,rfl,⟨nZ (Hy _ _),rfl,by show(v.heap.push _).size=_;simp⟩,?_,?_,?_,dE⟩ <;>
 .show World.cell? {v with heap:=v.heap.push (Obj.cells #[a,b,c] 206),tape:=τ,drawn:=d} _=_;simp[World.cell?]
theorem co4:S0 prog=Code.region 0 #[{ dst:=some 2,op:=Op.box 202 (Operand.tmp 0),type:=0,pos:= "run.go:21",after:=#[],guard:=none},{ dst:=some 3,op:=Op.box 3 (Operand.tmp 1),type:=0,pos:= "run.go:21",after:=#[],guard:=none},{ dst:=some 4,op:=Op.assign (Operand.const (Value.pointer none)),type:=200,pos:= "run.go:21",after:=#[],guard:=none}] false:=by kernel_rfl
theorem qZ (sa:f_)(n:Int)(v:o_)(g:Y_)(τ:Nat->Question->Nat)(d:Nat)(m:Nat):(S0 prog).wpIn NF m prog (Ends λa w'=>∃g' b2 b3,a=TN 18 (AQ g' [(2,pr b2),(3,pr b3)])/\IG v w'/\v.heap.size<=b2/\v.heap.size<=b3/\b2<w'.heap.size/\b3<w'.heap.size/\b2≠b3/\w'.cell? (R_ b2)=some (.pointer (some sa))/\w'.cell? (R_ b3)=some (b_ n)) ⟨TN 18 (AQ g [(0,.pointer (some sa)),(1,b_ n)]),[]⟩ (v.re τ d):=by
 rw[co4];show Code.wpIn (Fence.list LF none) m prog _ _ ⟨#[.pointer (some sa),b_ n,g 2,g 3,g 4,g 5,g 6,g 7,g 8,g 9,g 10,g 11,g 12,g 13,g 14,g 15,g 16,g 17],[]⟩ _;gi_wp2;refine⟨rfl,rfl,AQ g [(0,.pointer (some sa)),(1,b_ n),(4,.pointer none)],v.heap.size,v.heap.size+1,rfl,(nZ (Hy _ _)).trans (Hy _ _),w_,Nat.le_succ _,?_,?_,wB,?_,?_⟩
 .show v.heap.size<((v.heap.push _).push _).size;simp;omega
 .show v.heap.size+1<((v.heap.push _).push _).size;simp
 .show World.cell? {v with heap:=(v.heap.push (Obj.cells #[.pointer (some sa)] 202)).push _,tape:=τ,drawn:=d} _=_;simp[World.cell?,Array.getElem?_push]
 .show World.cell? {v with heap:=(v.heap.push (Obj.cells #[.pointer (some sa)] 202)).push (Obj.cells #[Value.int .i64 n] 3),tape:=τ,drawn:=d} _=_;simp only[World.cell?];rw[show((v.heap.push (Obj.cells #[.pointer (some sa)] 202)).push (Obj.cells #[Value.int .i64 n] 3))[v.heap.size+1]?=some (Obj.cells #[Value.int .i64 n] 3) by rw[Array.getElem?_push];simp]
  rfl
end Go.Fxa
namespace Go.Fxa
open Go.Conc Go.Proofs
variable {x b:Nat}{q:Nat->Nat}{l:Array Bool}
def dta (l:List Nat):Array Edge:=(l.map λn=>{ on:=n,ground:=Ground.data}).toArray
def SQ (t d:Nat):Oper:={ dst:=some d,op:=Op.makeChan t (Operand.const (Value.int IntKind.i64 0)),type:=t,pos:= "run.go:22",after:=#[],guard:=none}
def VQ:Oper:={ dst:=some 10,op:=Op.build 257 #[(0,Operand.tmp 6),(1,Operand.tmp 7),(2,Operand.tmp 8),(3,Operand.tmp 9)],type:=257,pos:= "run.go:22",after:=dta [0,1,2,3],guard:=none}
def ώ:Oper:={ dst:=some 11,op:=Op.box 257 (Operand.tmp 10),type:=200,pos:= "run.go:22",after:=dta [4],guard:=none}
def iU:Oper:={ dst:=some 5,op:=Op.alloc 200,type:=0,pos:= "run.go:22",after:=#[],guard:=none}
def VP:Oper:={ dst:=none,op:=Op.store 200 (Operand.tmp 5) (Operand.tmp 11),type:=0,pos:= "run.go:22",after:=dta [6,5]++([0,1,2,3,4,5,6].map λn=>{ on:=n,ground:=Ground.phase}).toArray,guard:=none}
def aI:Array Oper:=#[SQ 244 6,SQ 245 7,SQ 246 8,SQ 247 9,VQ,ώ,iU,VP]
theorem co2:S1 prog=Code.region 1 aI true:=sU
def WN:Obj:=.chan 0 #[] false 0 0 false
def AG (q:Nat->Nat):X_:=#[D5 (q 0),D5 (q 1),D5 (q 2),D5 (q 3),.int .u64 0,.int .u32 0]
def sl (a:Act)(i:Nat):n_:=a.tmps.getD i undef
structure Made (v:o_)(b2 b3:Nat)(ls:Nat->Bool)(a:Act)(w:o_)(q:Nat->Nat)(b r:Nat):Prop where
 size:a.tmps.size=18
 defers:a.defers=[]
 t2:sl a 2=pr b2
 t3:sl a 3=pr b3
 GI:IG v w
 ch:∀k,k<4->ls k=true->sl a (6+k)=D5 (q k)/\w.heap[q k]?=some WN/\v.heap.size<=q k
 ne:∀k k',k<4->k'<4->k≠k'->ls k=true->ls k'=true->q k≠q k'
 al:ls 6=true->sl a 5=pr b/\w.heap[b]?=some (N_ #[.pointer none] 200)/\v.heap.size<=b
 bd:ls 4=true->sl a 10=.agg (AG q)/\∀k,k<4->ls k=true
 bx:ls 5=true->sl a 11=pr r/\w.heap[r]?=some (N_ (AG q) 257)/\v.heap.size<=r/\ls 4=true
section
variable {v w:o_}{b2 b3:Nat}{ls:Nat->Bool}{a:Act}{q:Nat->Nat}{b r:Nat}
theorem iM (h:a.tmps.size=18){d:Nat}(c:d<18)(x:n_)(i:Nat):sl (a.put (some d) x) i=if i=d then x else sl a i:=by
 unfold sl Act.put;simp only[ed,Array.getElem?_setIfInBounds];by_cases e:d=i
 .subst e;simp[h,c]
 .simp[e,gJ e]
theorem Nl {o:Obj}{c:Obj}(h:w.heap[x]?=some c):(w.alloc o).heap[x]?=some c:=by
 have:=(y_.1 h).1;exact((Hy w o).2.1 x this).trans h
theorem Sv (o:Obj):(w.alloc o).heap[w.heap.size]?=some o:=by
 show(w.heap.push o)[w.heap.size]?=some o;simp
def ai (ls:Nat->Bool)(i:Nat)(j:Nat):Bool:=if j=i then true else ls j
theorem Made.chan (M:Made v b2 b3 ls a w q b r){k:Nat}(s:k<4)(p:ls 4=false):Made v b2 b3 (ai ls k) (a.put (some (6+k)) (D5 w.heap.size)) (w.alloc WN) (λj=>if j=k then w.heap.size else q j) b r:=by
 have i:=iM M.size (d:=6+k) wB (D5 w.heap.size);have hq:∀j,j<4->ls j=true->q j<w.heap.size:=λj c h=>(y_.1 (M.ch j c h).2.1).1
 refine⟨by simp[Act.put,M.size],by simp[Act.put,M.defers],?_,?_,M.GI.trans (Hy _ _),λj c n=>?_,λj m c g o h f=>?_,λh=>?_,λh=>?_,λh=>?_⟩
 .rw[i,ru wB];exact M.t2
 .rw[i,ru wB];exact M.t3
 .by_cases e:j=k
  .subst e;simp only[if_true];exact⟨by rw[i,rW rfl],Sv _,M.GI.1⟩
  .simp only[ai,ru e]at n ⊢;obtain⟨k1,k2,k3⟩:=M.ch j c n;exact⟨by rw[i,ru wB];exact k1,Nl k2,k3⟩
 .simp only[ai]at h f;by_cases e:j=k
  .by_cases l:m=k
   .omega
   .simp only[rW e,ru l]at f ⊢;have:=hq m g f;omega
  .by_cases l:m=k
   .simp only[ru e,rW l]at h ⊢;have:=hq j c h;omega
   .simp only[ru e,ru l]at h f ⊢;exact M.ne j m c g o h f
 .simp only[ai,ru (show ¬(6=k) by omega)]at h;obtain⟨k1,k2,k3⟩:=M.al h;exact⟨by rw[i,ru wB];exact k1,Nl k2,k3⟩
 .simp only[ai,ru (show ¬(4=k) by omega),p]at h;cases h
 .simp only[ai,ru (show ¬(5=k) by omega)]at h;have:=(M.bx h).2.2.2;rw[p]at this;cases this
theorem Made.alloc (M:Made v b2 b3 ls a w q b r):Made v b2 b3 (ai ls 6) (a.put (some 5) (pr w.heap.size)) (w.alloc (.cells #[.pointer none] 200)) q w.heap.size r:=by
 have c:=iM M.size (d:=5) wB (pr w.heap.size);refine⟨by simp[Act.put,M.size],by simp[Act.put,M.defers],?_,?_,M.GI.trans (Hy _ _),λj e i=>?_,λj l e f m h g=>?_,λh=>?_,λh=>?_,λh=>?_⟩
 .rw[c,ru wB];exact M.t2
 .rw[c,ru wB];exact M.t3
 .simp only[ai,ru (show ¬(j=6) by omega)]at i;obtain⟨k1,k2,k3⟩:=M.ch j e i;exact⟨by rw[c,ru wB];exact k1,Nl k2,k3⟩
 .simp only[ai,ru (show ¬(j=6) by omega),ru (show ¬(l=6) by omega)]at h g;exact M.ne j l e f m h g
 .exact⟨by rw[c,rW rfl],Sv _,M.GI.1⟩
 .obtain⟨k1,k2⟩:=M.bd h;exact⟨by rw[c,ru wB];exact k1,λk n=>by simp only[ai,ru (show ¬(k=6) by omega)];exact k2 k n⟩
 .obtain⟨k1,k2,k3,o⟩:=M.bx h;exact⟨by rw[c,ru wB];exact k1,Nl k2,k3,o⟩
theorem Made.build (M:Made v b2 b3 ls a w q b r)(o:∀k,k<4->ls k=true)(p:ls 5=false):Made v b2 b3 (ai ls 4) (a.put (some 10) (.agg (AG q))) w q b r:=by
 have f:=iM M.size (d:=10) wB (.agg (AG q));refine⟨by simp[Act.put,M.size],by simp[Act.put,M.defers],?_,?_,M.GI,λj c n=>?_,λj g c e i h m=>?_,λh=>?_,λh=>?_,λh=>?_⟩
 .rw[f,ru wB];exact M.t2
 .rw[f,ru wB];exact M.t3
 .obtain⟨k1,k2,k3⟩:=M.ch j c (o j c);exact⟨by rw[f,ru wB];exact k1,k2,k3⟩
 .exact M.ne j g c e i (o j c) (o g e)
 .obtain⟨k1,k2,k3⟩:=M.al h;exact⟨by rw[f,ru wB];exact k1,k2,k3⟩
 .exact⟨by rw[f,rW rfl],λk l=>by simp only[ai,ru (show ¬(k=4) by omega)];exact o k l⟩
 .simp only[ai,ru (show ¬(5=4) by omega),p]at h;cases h
theorem Made.box (M:Made v b2 b3 ls a w q b r)(o:ls 4=true):Made v b2 b3 (ai ls 5) (a.put (some 11) (pr w.heap.size)) (w.alloc (.cells (AG q) 257)) q b w.heap.size:=by
 have c:=iM M.size (d:=11) wB (pr w.heap.size);refine⟨by simp[Act.put,M.size],by simp[Act.put,M.defers],?_,?_,M.GI.trans (Hy _ _),λj e i=>?_,λj l e f m h g=>?_,λh=>?_,λh=>?_,λh=>?_⟩
 .rw[c,ru wB];exact M.t2
 .rw[c,ru wB];exact M.t3
 .simp only[ai,ru (show ¬(j=5) by omega)]at i;obtain⟨k1,k2,k3⟩:=M.ch j e i;exact⟨by rw[c,ru wB];exact k1,Nl k2,k3⟩
 .simp only[ai,ru (show ¬(j=5) by omega),ru (show ¬(l=5) by omega)]at h g;exact M.ne j l e f m h g
 .obtain⟨k1,k2,k3⟩:=M.al h;exact⟨by rw[c,ru wB];exact k1,Nl k2,k3⟩
 .obtain⟨k1,k2⟩:=M.bd h;exact⟨by rw[c,ru wB];exact k1,λk n=>by simp only[ai,ru (show ¬(k=5) by omega)];exact k2 k n⟩
 .exact⟨by rw[c,rW rfl],Sv _,M.GI.1,by simp only[ai,ru (show ¬(4=5) by omega)];exact o⟩
end
section
variable {n:Nat}{Q:Exit->Act->o_->Prop}{K:Act->o_->Prop}{a:Act}{w w':o_}{ops:Array Oper}{i:Nat}{o:Oper}{x:n_}
theorem OX (hi:ops[i]?=some o)(c:o.guard=none)(d:o.about prog w a.eval=none)(e:(execOp a.eval o).run prog w=.ok (.value x) w')(h:K (a.put o.dst x) w'):wpOpIn NF n prog ops Q i K a w:=by
 unfold wpOpIn;simp only[hi];rw[rW (by simp[Region.wanted,c])];refine⟨λf b=>(by rw[d]at b;cases b),?_⟩;show Oper.uponIn NF n prog o a K Q ((execOp a.eval o).run prog w);rw[e];exact h
theorem bf3 (hi:ops[i]?=some o)(c:o.guard=none)(d:o.about prog w a.eval=none)(e:(execOp a.eval o).run prog w=.ok .skip w')(h:K (a.put o.dst undef) w'):wpOpIn NF n prog ops Q i K a w:=by
 unfold wpOpIn;simp only[hi];rw[rW (by simp[Region.wanted,c])];refine⟨λf b=>(by rw[d]at b;cases b),?_⟩;show Oper.uponIn NF n prog o a K Q ((execOp a.eval o).run prog w);rw[e];exact h
theorem bc9:(execOp a.eval (SQ 244 6)).run prog w=.ok (.value (D5 w.heap.size)) (w.alloc WN):=sU
theorem bc8:(execOp a.eval (SQ 245 7)).run prog w=.ok (.value (D5 w.heap.size)) (w.alloc WN):=sU
theorem bc7:(execOp a.eval (SQ 246 8)).run prog w=.ok (.value (D5 w.heap.size)) (w.alloc WN):=sU
theorem bc6:(execOp a.eval (SQ 247 9)).run prog w=.ok (.value (D5 w.heap.size)) (w.alloc WN):=sU
theorem ϩ:(execOp a.eval iU).run prog w=.ok (.value (pr w.heap.size)) (w.alloc (.cells #[.pointer none] 200)):=sU
theorem wZ:((Instr.build 257 #[(0,D5 (q 0)),(1,D5 (q 1)),(2,D5 (q 2)),(3,D5 (q 3))])>>= λx=>pure (Next.value x):Sem Next).run prog w=.ok (.value (.agg (AG q))) w:=sU
theorem run_build (h:∀k,k<4->sl a (6+k)=D5 (q k)):(execOp a.eval VQ).run prog w=.ok (.value (.agg (AG q))) w:=by
 have b:a.eval (.tmp 6)=D5 (q 0):=h 0 wB;have c:a.eval (.tmp 7)=D5 (q 1):=h 1 wB;have d:a.eval (.tmp 8)=D5 (q 2):=h 2 wB;have f:a.eval (.tmp 9)=D5 (q 3):=h 3 wB;have e:execOp a.eval VQ=((Instr.build 257 #[(0,a.eval (.tmp 6)),(1,a.eval (.tmp 7)),(2,a.eval (.tmp 8)),(3,a.eval (.tmp 9))])>>= λx=>pure (Next.value x)):=sU
 rw[e,b,c,d,f];exact wZ
theorem ao0:(Instr.box 257 (.agg (AG q))>>= λx=>pure (Next.value x):Sem Next).run prog w=.ok (.value (pr w.heap.size)) (w.alloc (.cells (AG q) 257)):=sU
theorem bd0 (h:sl a 10=.agg (AG q)):(execOp a.eval ώ).run prog w=.ok (.value (pr w.heap.size)) (w.alloc (.cells (AG q) 257)):=by
 have e:execOp a.eval ώ=(Instr.box 257 (sl a 10)>>= λx=>pure (Next.value x)):=rfl;rw[e,h];exact ao0
theorem run_store {r:Nat}(g:sl a 5=pr b)(f:sl a 11=pr r)(hb:w.heap[b]?=some (N_ #[.pointer none] 200)):(execOp a.eval VP).run prog w=.ok .skip (w.setCell (R_ b) (pr r)):=by
 have e:execOp a.eval VP=(Instr.storeAt 200 (sl a 5) (sl a 11)>>= λ_=>pure Next.skip):=rfl;rw[e,g,f];have c:w.cell? (R_ b)=some (.pointer none):=by simp[World.cell?,hb]
 have d:w.frozen? (R_ b)=false:=by simp[World.frozen?,hb]
 have e2:(Instr.storeAt 200 (pr b) (pr r)>>= λ_=>pure Next.skip:Sem Next).run prog w=(Sem.store .plain (R_ b) (pr r) (.pure Next.skip)).run prog w:=sU
 rw[e2];have e3:(Sem.store .plain (R_ b) (pr r) (.pure Next.skip)).run prog w=(match w.cell? (R_ b)with
  |some _=>if w.frozen? ⟨b,0,none⟩then .halt (.unsupported (.unsafePointer "a write to bytes that a string shares")) w else .ok .skip (w.setCell ⟨b,0,none⟩ (pr r))
  |none=>match w.farStore prog (R_ b) (pr r) false with
   |.ok (w,_)=>.ok .skip w
   |.error h=>.halt h w):=rfl;rw[e3,c,d]
 rfl
theorem ao4 {i:Nat}(h:i∈Region.ready .any aI l):i<8/\l.getD i true=false/\(i=4->∀k,k<4->l.getD k false=true)/\(i=5->l.getD 4 false=true)/\(i=7->∀k,k<7->l.getD k false=true):=by
 simp only[Region.ready,List.mem_filter,List.mem_range,Bool.and_eq_true,Bool.not_eq_true']at h;obtain⟨d,f,a⟩:=h;have b:i<8:=d;refine⟨b,f,λe=>?_,λe=>?_,λe=>?_⟩
 .subst e;simp[aI,VQ,dta,Region.binds]at a;intro k c
  match k,c with
  |0,_=>simp[a]
  |1,_=>simp[a]
  |2,_=>simp[a]
  |3,_=>simp[a]
 .subst e;simp[aI,ώ,dta,Region.binds]at a;simp[a]
 .subst e;simp[aI,VP,dta,Region.binds]at a;intro k c
  match k,c with
  |0,_=>simp[a]
  |1,_=>simp[a]
  |2,_=>simp[a]
  |3,_=>simp[a]
  |4,_=>simp[a]
  |5,_=>simp[a]
  |6,_=>simp[a]
theorem xm (h:∀k,k<8->l.getD k true=true):Region.ready .any aI l=[]:=by
 refine List.filter_eq_nil_iff.2 λi hi=>?_
 have:=h i (List.mem_range.1 hi);rw[this];simp
theorem pY (y:l.size=8)(h:Region.ready .any aI l=[]):∀k,k<8->l.getD k true=true:=by
 have a:∀i,i<8->((aI[i]?).map (·.after.all λe=>!Region.binds .any e || l.getD e.on false)).getD false=true->l.getD i false=true:=λi hi p=>by
  cases hc:l.getD i true with
  |true=>simpa [Array.getD,y,hi]using hc
  |false=>
   have:i∈Region.ready .any aI l:=List.mem_filter.2 ⟨List.mem_range.2 hi,by rw[hc,p];rfl⟩
   rw[h]at this
   cases this
 have b:=a 0 wB (by simp[aI,SQ]);have q:l[0]'wB=true:=by simpa [Array.getD,y]using b
 have c:=a 1 wB (by simp[aI,SQ]);have q1:l[1]'wB=true:=by simpa [Array.getD,y]using c
 have d:=a 2 wB (by simp[aI,SQ]);have r:l[2]'wB=true:=by simpa [Array.getD,y]using d
 have f:=a 3 wB (by simp[aI,SQ]);have s:l[3]'wB=true:=by simpa [Array.getD,y]using f
 have m:=a 6 wB (by simp[aI,iU]);have v:l[6]'wB=true:=by simpa [Array.getD,y]using m
 have g:=a 4 wB (by
  simp only[aI,VQ,dta]
  simp only[List.map_cons,List.map_nil]
  simp[Region.binds, *]);have t:l[4]'wB=true:=by simpa [Array.getD,y]using g
 have j:=a 5 wB (by
  simp only[aI,ώ,dta]
  simp only[List.map_cons,List.map_nil]
  simp[Region.binds, *]);have u:l[5]'wB=true:=by simpa [Array.getD,y]using j
 have o:=a 7 wB (by
  simp only[aI,VP,dta]
  simp only[List.map_cons,List.map_nil]
  simp[Region.binds, *]);intro k n;have:l.getD k false=true:=by
  match k,n with
  |0,_=>exact b
  |1,_=>exact c
  |2,_=>exact d
  |3,_=>exact f
  |4,_=>exact g
  |5,_=>exact j
  |6,_=>exact m
  |7,_=>exact o
 simpa [Array.getD,y,n]using this
theorem ak0 (c:l.size=8){i:Nat}(hi:i<8):(λj=>(l.setIfInBounds i true).getD j false)=ai (λj=>l.getD j false) i:=by
 funext j;unfold ai;simp only[ed,Array.getElem?_setIfInBounds];by_cases e:i=j
 .subst e;simp[c,hi]
 .simp[e,gJ e]
theorem count_set {i:Nat}(h:l.getD i true=false):(l.setIfInBounds i true).toList.count true=l.toList.count true+1:=by
 have hi:i<l.size:=by
  by_cases hi:i<l.size
  .exact hi
  .simp[Array.getD,hi]at h
 have a:l[i]=false:=by simpa [Array.getD,hi]using h
 rw[Array.setIfInBounds,dif_pos hi];simp only[Array.toList_set];rw[List.count_set (by simpa using hi)];simp[a]
theorem nX {v:o_}{b2 b3:Nat}(S:∀a w q b r,Made v b2 b3 (fun _=>true) a w q b r->Q .normal a (w.setCell (R_ b) (pr r))):∀(R:Nat)(l:Array Bool)(a:Act)(w:o_)(q:Nat->Nat)(b r:Nat),l.size=8->l.getD 7 true=false->l.toList.count true+R=8->
  Made v b2 b3 (λi=>l.getD i false) a w q b r->wpAnyIn NF n prog .any aI Q R l a w
 |0,l,a,w,q,b,r,s,B,O,M=>by
  exfalso
  have:∀x∈l.toList,true=x:=by
   apply List.count_eq_length.1
   rw[Array.length_toList]
   omega
  have H:l.toList[7]?=some false:=by
   simpa [Array.getD,s]using B
  have:=this false (t_ H)
  cases this
 |R+1,l,a,w,q,b,r,s,B,O,M=>by
  refine⟨λP=>?_,λi hi=>?_⟩
  .have:=pY s P 7 wB;rw[B]at this;cases this
  .obtain⟨t,g,d4,A,G⟩:=ao4 hi;have c:l.getD i false=false:=(by simpa [Array.getD,s,t]using g);have next:∀(z:Act)(C:o_)(I:Nat->Nat)(F J:Nat),i≠7->Made v b2 b3 (ai (λj=>l.getD j false) i) z C I F J->wpAnyIn NF n prog .any aI Q R (l.setIfInBounds i true) z C:=λz C I F J D E=>by
    refine nX S R _ z C I F J (by simp[s]) ?_ (by rw[count_set g];omega) (by rw[ak0 s t];exact E)
    simp only[ed,z_ D]
    simpa [ed]using B
   have p:i<4->l.getD 4 false=false:=λh=>by
    cases e:l.getD 4 false with
    |false=>rfl
    |true=>have:=(M.bd e).2 i h;rw[c]at this;cases this
   match i,t,g,c,d4,A,G,next,p with
   |0,_,g,c,_,_,_,next,p=>exact OX (o:=SQ 244 6) rfl rfl rfl bc9 (next _ _ _ _ _ wB (M.chan (k:=0) wB (p wB)))
   |1,_,g,c,_,_,_,next,p=>exact OX (o:=SQ 245 7) rfl rfl rfl bc8 (next _ _ _ _ _ wB (M.chan (k:=1) wB (p wB)))
   |2,_,g,c,_,_,_,next,p=>exact OX (o:=SQ 246 8) rfl rfl rfl bc7 (next _ _ _ _ _ wB (M.chan (k:=2) wB (p wB)))
   |3,_,g,c,_,_,_,next,p=>exact OX (o:=SQ 247 9) rfl rfl rfl bc6 (next _ _ _ _ _ wB (M.chan (k:=3) wB (p wB)))
   |4,_,g,c,d4,_,_,next,_=>
    have N:l.getD 5 false=false:=by
     cases e:l.getD 5 false with
     |false=>rfl
     |true=>have:=(M.bx e).2.2.2;rw[c]at this;cases this
    exact OX (o:=VQ) rfl rfl rfl (run_build λk u=>(M.ch k u (d4 rfl k u)).1) (next _ _ _ _ _ wB (M.build (d4 rfl) N))
   |5,_,g,c,_,A,_,next,_=>exact OX (o:=ώ) rfl rfl rfl (bd0 (M.bd (A rfl)).1) (next _ _ _ _ _ wB (M.box (A rfl)))
   |6,_,g,c,_,_,_,next,_=>exact OX (o:=iU) rfl rfl rfl ϩ (next _ _ _ _ _ wB M.alloc)
   |7,_,g,c,_,_,G,_,_=>
    have m:=G rfl
    have E:Made v b2 b3 (λ_=>true) a w q b r:=⟨M.size,M.defers,M.t2,M.t3,M.GI,λk u _=>M.ch k u (m k wB),λk L u y D _ _=>M.ne k L u y D (m k wB) (m L wB),λ_=>M.al (m 6 wB),λ_=>⟨(M.bd (m 4 wB)).1,λ_ _=>rfl⟩,λ_=>let h:=M.bx (m 5 wB);⟨h.1,h.2.1,h.2.2.1,rfl⟩⟩
    have hq:=S a w q b r E
    refine bf3 (o:=VP) rfl rfl rfl (run_store (M.al (m 6 wB)).1 (M.bx (m 5 wB)).1 (M.al (m 6 wB)).2.1) ?_
    have d:Region.ready .any aI (l.setIfInBounds 7 true)=[]:=xm λk u=>by
     have:=congrFun (ak0 s (i:=7) wB) k
     simp only[ai]at this
     have K:(l.setIfInBounds 7 true).getD k false=true:=by
      rw[this]
      by_cases e:k=7
      .simp[e]
      .rw[ru e];exact m k wB
     have y:k<(l.setIfInBounds 7 true).size:=(by simp[s];omega);simp only[Array.getD,dif_pos y]at K ⊢;exact K
    cases R with
    |zero=>exact⟨d,hq⟩
    |succ f=>exact⟨λ_=>hq,λi hi=>by rw[d]at hi;cases hi⟩
end
theorem JZ {w:o_}{u:n_}(h:b≠x):(w.setCell (R_ b) u).heap[x]?=w.heap[x]?:=by
 simp[World.setCell,iF,h]
theorem qF (b2 b3:Nat)(v:o_)(g:Y_)(τ:Nat->Question->Nat)(d:Nat)(m:Nat):(S1 prog).wpIn NF m prog (Ends λR w'=>∃g' N r O q1 P Q,R=TN 18 (AQ g' (ύ b2 b3 N))/\IG v w'/\(∀x∈[N,r,O,q1,P,Q],v.heap.size<=x)/\[N,r,O,q1,P,Q].Nodup/\BC r #[D5 O,D5 q1,D5 P,D5 Q] 257 w' 0 0/\w'.cell? (R_ N)=some (pr r)/\∀q∈[O,q1,P,Q],w'.heap[q]?=some (.chan 0 #[] false 0 0 false)) ⟨TN 18 (AQ g [(2,pr b2),(3,pr b3)]),[]⟩ (v.re τ d):=by
 rw[co2];refine wpIn_region_any sU (nX (v:=v) (b2:=b2) (b3:=b3) (λa w q b r M=>?_) 8 _ _ _ (λ_=>0) 0 0 rfl rfl rfl ?_)
 .obtain⟨E,j,F⟩:=M.al rfl;obtain⟨L,C,J,_⟩:=M.bx rfl;have l:=M.ch 0 wB rfl;have n:=M.ch 1 wB rfl;have c2:=M.ch 2 wB rfl;have c3:=M.ch 3 wB rfl;have f:∀x,w.heap[x]?=some WN->b≠x:=λx c e=>by subst e;rw[j]at c;cases c
  have s:∀x,w.heap[x]?=some WN->r≠x:=λx c e=>by subst e;rw[C]at c;cases c
  have o:b≠r:=λe=>by
   rw[e,C]at j
   injection j with j
   injection j with _ e2 _
   cases e2
  have hb:b<w.heap.size:=(y_.1 j).1;have I:IG v (w.setCell (R_ b) (pr r)):=by
   refine⟨by simpa [World.setCell]using M.GI.1,λx c=>?_,M.GI.2.2.1,M.GI.2.2.2⟩
   rw[JZ wB]
   exact M.GI.2.1 x c
  have G:=M.defers;refine⟨rfl,G,λi=>a.tmps.getD i undef,b,r,q 0,q 1,q 2,q 3,?_,I,?_,?_,?_,?_,?_⟩
  .rw[show AQ (λi=>a.tmps.getD i undef) (ύ b2 b3 b)=λi=>a.tmps.getD i undef from NL λp D=>by
    simp only[ύ,r_,lG,or_false]at D
    obtain h|h|h:=D<;>subst h
    .exact M.t2
    .exact M.t3
    .exact E]
   exact YK M.size
  .intro x c;simp only[r_,lG,or_false]at c;obtain h|h|h|h|h|h:=c<;>subst h
   .exact F
   .exact J
   .exact l.2.2
   .exact n.2.2
   .exact c2.2.2
   .exact c3.2.2
  .have t:=M.ne 0 1 wB wB wB rfl rfl;have u:=M.ne 0 2 wB wB wB rfl rfl;have y:=M.ne 0 3 wB wB wB rfl rfl;have z:=M.ne 1 2 wB wB wB rfl rfl;have A:=M.ne 1 3 wB wB wB rfl rfl;have B:=M.ne 2 3 wB wB wB rfl rfl;simp only[List.nodup_cons,r_,lG,or_false,not_or,List.nodup_nil,and_true,not_false_eq_true];exact⟨⟨o,f _ l.2.1,f _ n.2.1,f _ c2.2.1,f _ c3.2.1⟩,⟨s _ l.2.1,s _ n.2.1,s _ c2.2.1,s _ c3.2.1⟩,⟨t,u,y⟩,⟨z,A⟩,B⟩
  .unfold BC;rw[JZ o];exact C
  .simp[World.cell?,World.setCell,iF,j]
  .intro x c;simp only[r_,lG,or_false]at c;obtain h|h|h|h:=c<;>subst h
   .rw[JZ (f _ l.2.1)];exact l.2.1
   .rw[JZ (f _ n.2.1)];exact n.2.1
   .rw[JZ (f _ c2.2.1)];exact c2.2.1
   .rw[JZ (f _ c3.2.1)];exact c3.2.1
 .have H:∀i,(Array.replicate aI.size false).getD i false=false:=λi=>by
   simp[Array.getD]
  refine⟨by simp[TN],rfl,rfl,rfl,⟨w_,λ_ _=>rfl,rfl,rfl⟩,λk _ h=>?_,λk K _ _ _ h=>?_,λh=>?_,λh=>?_,λh=>?_⟩<;>(rw[H]at h;cases h)
theorem ϻ (m:Nat):dU prog NF m:=⟨λr a b c v g τ d=>ac8 r a b c v g τ d m⟩
theorem wP (m:Nat):al9 prog NF m:=⟨λc n v g τ d=>qZ c n v g τ d m,λa b v g τ d=>qF a b v g τ d m⟩
end Go.Fxa
namespace Go.Fxa
open Go.Conc Go.Proofs Go.RowKit
variable {p:f_}{k:Nat}{o:Obj}{w:o_}{cs:X_}{T:j_}{fz:Nat×Nat}
structure Aa (S:Nat->Prop)(w w':o_):Prop where
 os:w'.os=w.os
 output:w'.output=w.output
 size:w.heap.size<=w'.heap.size
 block:∀k,k<w.heap.size->¬S k->w'.heap[k]?=w.heap[k]?
def No:Nat->Prop:=λ_=>False
def At (b:Nat):Nat->Prop:=λk=>k=b
def yQ (b c:Nat):Nat->Prop:=λk=>k=b\/k=c
section
variable {S S':Nat->Prop}{a b c w w':o_}
theorem Aa.refl (S:Nat->Prop)(w:o_):Aa S w w:=⟨rfl,rfl,w_,λ_ _ _=>rfl⟩
theorem Aa.mono (h:Aa S a b)(f:∀k,k<a.heap.size->S k->S' k):Aa S' a b:=⟨h.os,h.output,h.size,λk c e=>h.block k c λd=>e (f k c d)⟩
theorem Aa.no (h:Aa No a b):Aa S a b:=h.mono λ_ _ c=>c.elim
theorem Aa.trans (h:Aa S a b)(k:Aa S' b c)(f:∀k,k<a.heap.size->S' k->S k):Aa S a c:=
 ⟨k.os.trans h.os,k.output.trans h.output,lN h.size k.size,λi hi d=>(k.block i (Nat.lt_of_lt_of_le hi h.size) λe=>d (f i hi e)).trans (h.block i hi d)⟩
theorem Aa.then (h:Aa S a b)(k:Aa S b c):Aa S a c:=h.trans k λ_ _ h=>h
theorem Aa.drew (h:Aa S a w):Aa S a w.drew:=⟨h.os,h.output,h.size,h.block⟩
theorem Aa.alloc (h:Aa S a w)(o:Obj):Aa S a (w.alloc o):=
 h.then ⟨rfl,rfl,sJ,λk b _=>Below.heap_alloc _ _ _ b⟩
theorem Aa.setCell (h:Aa S a w)(u:n_)(d:p.block<a.heap.size->S p.block):Aa S a (w.setCell p u):=
 ⟨h.os,h.output,by simpa using h.size,λk b c=>(Below.heap_setCell _ _ _ _ λe=>c (by subst e;exact d b)).trans (h.block k b c)⟩
theorem Aa.cell (h:Aa S w w')(e:p.block<w.heap.size)(d:¬S p.block):w'.cell? p=w.cell? p:=World.cell?_of_block (w:=w) (h.block p.block e d)
theorem Aa.old (h:Aa S w w')(d:w.heap[k]?=some o)(e:¬S k):w'.heap[k]?=some o:=(h.block k (y_.1 d).1 e).trans d
end
theorem Dt (h:w.heap[k]?=some o):k<w.heap.size:=(y_.1 h).1
theorem Ai (h:w.heap[k]?=some (.cells cs T fz))(i:Nat):w.cell? (S_ k i)=cs[i]?:=by simp[World.cell?,h]
theorem Cf (h:w.heap[k]?=some (N_ cs T))(i:Nat):w.frozen? (S_ k i)=false:=by simp[World.frozen?,h]
theorem Ap {i:Nat}(h:w.heap[k]?=some (.cells cs T fz))(u:n_):(w.setCell (S_ k i) u).heap[k]?=some (.cells (cs.setIfInBounds i u) T fz):=by
 simp[World.setCell,iF,h]
theorem OI (u:n_)(h:k≠p.block):(w.setCell p u).heap[k]?=w.heap[k]?:=Below.heap_setCell _ _ _ _ h
theorem Yw (h:k=w.heap.size):(w.alloc o).heap[k]?=some o:=by subst h;exact Sv _
theorem heap_alloc_old (h:k<w.heap.size):(w.alloc o).heap[k]?=w.heap[k]?:=Below.heap_alloc _ _ _ h
theorem heap_drew:w.drew.heap[k]?=w.heap[k]?:=rfl
end Go.Fxa
namespace Go.Fxa
open Go.Conc Go.Proofs Go.RowKit
set_option maxRecDepth 1000000
set_option maxHeartbeats 0
@[simp] theorem lf:(14:h_)∈LF/\17∈LF/\18∈LF/\19∈LF/\20∈LF/\22∈LF/\41∈LF/\42∈LF/\43∈LF/\44∈LF/\45∈LF/\46∈LF/\47∈LF/\48∈LF/\49∈LF/\50∈LF/\51∈LF/\52∈LF/\53∈LF/\54∈LF/\55∈LF/\57∈LF/\58∈LF/\59∈LF/\63∈LF/\87∈LF/\88∈LF/\89∈LF/\90∈LF/\91∈LF/\92∈LF/\96∈LF/\98∈LF/\100∈LF/\101∈LF/\102∈LF/\103∈LF/\104∈LF/\105∈LF/\106∈LF/\107∈LF/\122∈LF/\123∈LF/\124∈LF/\126∈LF/\127∈LF/\128∈LF/\129∈LF/\130∈LF/\131∈LF/\132∈LF/\138∈LF/\139∈LF/\140∈LF/\141∈LF/\142∈LF/\143∈LF/\144∈LF/\145∈LF/\148∈LF/\149∈LF/\150∈LF/\151∈LF/\152∈LF/\153∈LF/\156∈LF/\157∈LF/\158∈LF/\159∈LF/\160∈LF/\161∈LF/\171∈LF/\185∈LF/\193∈LF/\194∈LF/\195∈LF/\196∈LF/\198∈LF/\199∈LF/\200∈LF/\201∈LF/\202∈LF/\203∈LF/\204∈LF/\205∈LF/\206∈LF/\207∈LF/\208∈LF/\209∈LF/\210∈LF/\211∈LF/\212∈LF/\213∈LF/\226∈LF/\229∈LF/\230∈LF/\231∈LF/\232∈LF/\233∈LF/\234∈LF/\237∈LF/\238∈LF/\244∈LF/\245∈LF/\246∈LF/\248∈LF:=by(repeat' apply And.intro)<;>decide
@[simp] theorem dd4 (f:h_):NF.fn f=(f∈LF):=rfl
@[simp] theorem cq3:NF.round=none:=rfl
@[simp] theorem cq4:NF.depth=none:=rfl
@[simp] theorem cq5:NF.alive=true:=rfl
end Go.Fxa
