/- Which operations are fine: all -/
import Derived.Test.YtmhplpfpcnjekaaGreatA15
import Derived.TacticsInMore
import Derived.RegionIn
import Derived.LoopIn
import Derived.OrdersIn
import Derived.Below
import Derived.WalkSmall
open Go.Proofs.Tryz
namespace Go.Fxa
open Go.Conc
def CS (P:l_) (o:Oper):Bool:=match o.op with
 |.move _ | .assign _ | .pick _ _ _ | .alloc _ | .box _ _ | .build _ _ | .buildSlice _ _ _ | .load _ _ | .store _ _ _ | .nilCheck _=>true
 |.unOp _ _ _ | .makeInterface _ _ | .makeFunc _ _ _ | .makeChan _ _ | .makeSlice _ _ _ | .slice _ _ _ _ _ | .fieldAddr _ _ _ | .field _ _ _ | .indexAddr _ _ _ | .index _ _ _ | .extract _ _ | .panic _=>true
 |.binOp op t x y _=>match op with
  |.eql=>PW P t x y
  |.neq=>PW P t x y
  |_=>true
 |.convert a b _=>dX P a && dX P b
 |.call c=>match c.callee with
  |.builtin b=>match b with
   |.append | .cap | .clear | .copy | .len | .max | .min=>true
   |_=>false
  |.value _=>true
  |.invoke _ _=>true
 |_=>false
def zF (P:l_) (l:List h_) (o:Oper):Bool:=CS P o || (match o.op with
 |.defer c=>match c.callee with
  |.value (.func f)=>l.contains f
  |_=>false
 |_=>false)
def opsOf (P:l_) (l:List h_) (f:h_):Oper->Bool:=if kY f then zF P l else CS P
section
variable {P:l_} {L:h_->Prop} {bb:Bool}
theorem Yn {t:j_} {s:n_}:(Instr.makeChan t s).Aq P λ_=>True:=by
 unfold Instr.makeChan;refine Aa Nh λn=>Aa (AZ AA) λd=>?_
 split
 .refine Aa Eb λi=>?_
  exact AL (λ_=>Aa A8 λ_=>Aa (NW rfl) λ_=>Ad trivial) λ_=>Aa (NW rfl) λ_=>Ad trivial
 .exact Ai
theorem Em {s:Sem n_} (h:s.Aq P λ_=>True):(s>>= λx=>pure (Next.value x):Sem Next).Aq P (EZ L bb):=Aa h λ_=>Ad trivial
theorem ad8 {s:Sem Unit} (h:s.Aq P λ_=>True):(s>>= λ_=>pure Next.skip:Sem Next).Aq P (EZ L bb):=Aa h λ_=>Ad trivial
theorem Qh {f:n_->n_->Sem n_} (h:∀x y,(f x y).Aq P λ_=>True):∀(l:U_) (x:n_),(l.foldlM f x).Aq P λ_=>True
 |[],_=>Ad trivial
 |y::l,x=>Aa (h x y) λz=>Qh h l z
theorem vV {x y:n_}:(Builtin.min2 x y).Aq P λ_=>True:=by
 unfold Builtin.min2;split<;>first
  |exact Ad trivial
  |exact EN (by simp)
  |exact Ai
  |exact Aa Iq λ_=>Aa NY λ_=>Ad trivial
  |(split<;>first
    |exact Ad trivial
    |exact Aa (e:=choose _) (λ_=>trivial) λ_=>Ad trivial)
theorem vW {x y:n_}:(Builtin.max2 x y).Aq P λ_=>True:=by
 unfold Builtin.max2;split<;>first
  |exact Ad trivial
  |exact EN (by simp)
  |exact Ai
  |exact Aa Iq λ_=>Aa NY λ_=>Ad trivial
  |(split<;>first
    |exact Ad trivial
    |exact Aa (e:=choose _) (λ_=>trivial) λ_=>Ad trivial)
theorem Ϗ {a:Array j_} {t:j_} {args:X_}:(Builtin.min_ a t args).Aq P λ_=>True:=by
 unfold Builtin.min_;split
 .exact Ai
 .exact Qh (λ_ _=>vV) _ _
theorem ϐ {a:Array j_} {t:j_} {args:X_}:(Builtin.max_ a t args).Aq P λ_=>True:=by
 unfold Builtin.max_;split
 .exact Ai
 .exact Qh (λ_ _=>vW) _ _
theorem Zc (hG:P.globals.size=0) (hB:RJ P L) {o:Oper} (h:CS P o=true):au5 P L bb o:=by
 intro m v G k;obtain⟨C,op,type,pos,after,guard⟩:=o;unfold CS at h;simp only at h;unfold execOp;simp only;cases op with
 |move x=>exact Sem.Aq.here (Ad trivial) v
 |assign x=>exact Sem.Aq.here (Ad trivial) v
 |pick c a b=>exact Sem.Aq.here (Aa NY λ_=>Ad trivial) v
 |alloc e=>exact Sem.Aq.here (Em oK) v
 |box e x=>exact Sem.Aq.here (Em ϓ) v
 |build t E=>exact Sem.Aq.here (Em oG) v
 |buildSlice t n E=>exact Sem.Aq.here (Em Vz) v
 |load t a=>exact Sem.Aq.here (Em jc) v
 |store t a x=>exact Sem.Aq.here (ad8 aI) v
 |nilCheck x=>
  refine Sem.Aq.here ?_ v
  dsimp only
  split<;>first
   |exact A8
   |exact Ad trivial
   |skip
  split<;>first
   |exact A8
   |exact Ad trivial
   |skip
  refine Aa (AZ Dw) λq=>Aa (Q9 _ _ _ _) λr=>?_
  exact AL (λ_=>Aa (EN (by simp)) λ_=>Ad trivial) λ_=>Ad trivial
 |unOp op t x=>exact Sem.Aq.here (Em nZ) v
 |makeInterface t x=>exact Sem.Aq.here (Em RZ) v
 |makeFunc f a b=>exact Sem.Aq.here (Em Ym) v
 |makeChan t s=>exact Sem.Aq.here (Em Yn) v
 |makeSlice t a b=>exact Sem.Aq.here (Em XN) v
 |slice t x a b c=>exact Sem.Aq.here (Em aJ) v
 |fieldAddr t x f=>exact Sem.Aq.here (Em aO) v
 |field t x f=>exact Sem.Aq.here (Em oz) v
 |indexAddr t x i=>exact Sem.Aq.here (Em aN) v
 |index t x i=>exact Sem.Aq.here (Em ou) v
 |extract x i=>exact Sem.Aq.here (Em aP) v
 |panic x=>exact Sem.Aq.here (Em oq) v
 |convert a b x=>
  simp only[Bool.and_eq_true]at h
  exact Sem.Aq.here (Em (aT h.1 h.2)) v
 |binOp op t x y z=>
  have A:(op=.eql\/op=.neq)->PW P t x y=true:=λj=>by obtain rfl|rfl:=j<;>exact h
  refine Sem.Aq.here (Em (Aa (aQ A) λ_=>?_)) v
  by_cases j:op=.eql\/op=.neq
  .exact oI hG j (A j)
  .exact oH hG (λe=>j (.inl e)) λe=>j (.inr e)
 |call c=>
  obtain⟨callee,args,B⟩:=c
  cases callee with
  |builtin b=>
   refine Sem.Aq.here ?_ v
   cases b<;>first
    |(cases h;done)
    |exact Em jf
    |exact Em ϒ
    |exact Em oD
    |exact Em vX
    |exact Em ϑ
    |exact Em Ϗ
    |exact Em ϐ
  |value f=>
   refine xX hB λd F p g D=>k g ?_
   simp only[Oper.about,resolve,p]
   exact D
  |invoke r n=>
   have w:∀(x:n_) (l:X_),(#[x]++l)[0]?=some x:=λx l=>by rw[Array.getElem?_append_left (by simp)];rfl
   show Ig P (EZ L bb) (invoke (.fn (.method n) #[]) (#[m.eval r]++args.map m.eval)) v
   simp only[invoke,w]
   refine Vl hB λt u f H F e p=>k f ?_
   show Target.leads P v (.fn (.method n) #[]) (#[m.eval r]++args.map m.eval)=some f
   simp only[Target.leads,w,e,p]
 |_=>cases h
theorem Ϩ (hG:P.globals.size=0) {l:List h_} (hB:RJ P (·∈l)) {o:Oper} (h:zF P l o=true):au5 P (·∈l) true o:=by
 unfold zF at h;obtain h|h:=Bool.or_eq_true_iff.1 h
 .exact Zc hG hB h
 .intro d v g e;obtain⟨b,op,type,pos,after,guard⟩:=o;simp only at h;unfold execOp;simp only;cases op<;>try cases h
  rename_i c _
  obtain⟨callee,args,a⟩:=c
  cases callee with
  |value f=>
   cases f with
   |func f=>exact Sem.Aq.here (show(pure (Next.defer ⟨.fn (.func f) #[],#[]++args.map d.eval⟩):Sem Next).Aq P (EZ (·∈l) true)from⟨rfl,f,#[],rfl,by simpa using h⟩) v
   |_=>cases h
  |_=>cases h
theorem aj7 (hG:P.globals.size=0) {l:List h_} (h:(l.all λf=>match P.funcs[f]? with
  |some fn=>match fn.body with
   |some c=>c.BC (opsOf P l f) && !(fn.name== "runtime.NumGoroutine") && (P.inits.idxOf? f).isNone
   |none=>false
  |none=>false)=true):Fine P (·∈l) (opsOf P l):=by
 have k:∀f∈l,∃fn c,P.funcs[f]?=some fn/\fn.body=some c/\c.BC (opsOf P l f)=true/\(fn.name== "runtime.NumGoroutine")=false/\P.inits.idxOf? f=none:=λf b=>by
  have a:=List.all_eq_true.1 h f b
  cases e1:P.funcs[f]? with
  |none=>rw[e1]at a;cases a
  |some fn=>
   rw[e1]at a
   simp only at a
   cases e2:fn.body with
   |none=>rw[e2]at a;cases a
   |some c=>
    rw[e2]at a
    simp only[Bool.and_eq_true,Bool.not_eq_true',Option.isNone_iff_eq_none]at a
    exact⟨fn,c,rfl,e2,a.1.1,a.1.2,a.2⟩
 have m:RJ P (·∈l):=λf b=>by
  obtain⟨fn,c,a,e,i,g,j⟩:=k f b
  exact⟨fn,a,by rw[e];rfl,g⟩
 refine⟨λf o d=>?_,λf b=>?_,λf b=>?_⟩
 .unfold opsOf at d;cases hd:kY f with
  |false=>rw[hd]at d;exact Zc hG m d
  |true=>rw[hd]at d;exact Ϩ hG m d
 .obtain⟨fn,c,a,e,i,g,j⟩:=k f b;exact⟨fn,c,a,g,e,i⟩
 .obtain⟨fn,c,a,e,i,g,j⟩:=k f b;exact j
end
end Go.Fxa
namespace Go.Fxa
open Go.Conc Go.Proofs
def LB:List h_:=[3,5,6,7,8,9,10,12,13,14,15,16,17,18,19,20,21,22,23,24,25,26,27,28,29,30,31,32,33,34,35,36,37,38,39,40,41,42,43,44,45,46,47,48,49,50,51,52,53,54,55,57,58,59,60,61,62,63,64,65,66,67,68,69,70,71,72,73,74,75,76,77,78,79,80,81,82,83,84,85,86,87,88,89,90,91,92,95,96,98,99,100,101,102,103,104,105,106,107,108,109,110,111,112,113,114,115,116,117,118,119,120,121,122,123,124,125,126,127,128,129,130,131,132,136,138,139,140,141,142,143,144,145,146,147,148,149,150,151,152,153,154,155,156,157,158,159,160,161,162,163,164,165,166,167,168,170,171,185,193,194,195,196,197,198,199,200,201,202,203,204,205,206,207,208,209,210,211,212,213,214,215,216,217,218,219,220,221,226,227,229,230,231,232,233,234,236,237,238,239,240,241,242,243,244,245,246,247,248,249,265,266,267,268,269,270,271,272,273,274,275,276,277,278,279,280,281]
def LF:List h_:=169::235::LB
theorem aa4:Fine prog (·∈LB) (opsOf prog LB):=aj7 (by kernel_rfl) (by kernel_rfl)
theorem μ {P:Program} {f:FuncId} {fn:Func} (h1:P.funcs[f]?=some fn) (h2:(fn.name== "runtime.NumGoroutine")=false) (h3:fn.body.isNone=true) (h4:Extern.findNext fn=none) (h5:Extern.find fn=some (Extern.SlicesOverlaps.overlaps fn.params fn.resultTypes)):Ext P f:=⟨fn,_,_,h1,h2,h3,h4,h5⟩
theorem az3:Ext prog 169:=μ (fn:=(prog.funcs[169]?).getD default) (by kernel_rfl) (by kernel_rfl) (by kernel_rfl) (by kernel_rfl) (by kernel_rfl)
theorem az2:Ext prog 235:=μ (fn:=(prog.funcs[235]?).getD default) (by kernel_rfl) (by kernel_rfl) (by kernel_rfl) (by kernel_rfl) (by kernel_rfl)
def NF:Fence:=Fence.list LF none
theorem Pj:UC prog (·∈LB) (opsOf prog LB) NF:=⟨aa4,rfl,rfl,rfl,λf h=>by
 obtain rfl|h:=r_.1 h
 .exact .inr az3
 obtain rfl|h:=r_.1 h
 .exact .inr az2
 .exact .inl h⟩
theorem IP {P:l_} {f g:h_} (hf:(P.funcs[f]?).any (·.norace)=false) (hg:(P.funcs[g]?).any (·.norace)=false) (es:Array Event):seen P f es=seen P g es:=by
 unfold seen;simp[hf,hg]
theorem bs7:(prog.funcs[56]?).any (·.norace)=false:=by kernel_rfl
theorem bs6:(prog.funcs[93]?).any (·.norace)=false:=by kernel_rfl
theorem bs5:(prog.funcs[97]?).any (·.norace)=false:=by kernel_rfl
theorem bj1:(prog.funcs[136]?).any (·.norace)=false:=by kernel_rfl
theorem U5:(prog.funcs[185]?).any (·.norace)=false:=by kernel_rfl
theorem bj0:(prog.funcs[187]?).any (·.norace)=false:=by kernel_rfl
theorem bi8:(R2 prog).BC (CS prog)=true:=by kernel_rfl
theorem bi7:(R3 prog).BC (CS prog)=true:=by kernel_rfl
theorem bi6:(S0 prog).BC (CS prog)=true:=by kernel_rfl
theorem bi5:(S1 prog).BC (CS prog)=true:=by kernel_rfl
theorem aw2:(R10 prog).BC (CS prog)=true:=by kernel_rfl
theorem aw1:(R11 prog).BC (CS prog)=true:=by kernel_rfl
theorem av9:(R15 prog).BC (CS prog)=true:=by kernel_rfl
theorem av8:(R16 prog).BC (CS prog)=true:=by kernel_rfl
theorem bi9:(A0 prog).BC (CS prog)=true:=by kernel_rfl
theorem av7:(R21 prog).BC (CS prog)=true:=by kernel_rfl
theorem ag8:(Vu prog).BC (CS prog)=true:=by kernel_rfl
theorem aw0:(R12 prog).BC (CS prog)=true:=by kernel_rfl
theorem ah1:(Yh prog).BC (CS prog)=true:=by kernel_rfl
theorem Tm:VY prog (·∈LB) (opsOf prog LB) NF 185 where
 fenced:=Pj
 PV:=⟨by show 185∈LF;decide,by show 185∈LB;decide,rfl⟩
 seen:=λf d b=>by
  obtain e|e|e|e|e:=d<;>rw[e]
  .exact IP bs7 U5 b
  .exact IP bs6 U5 b
  .exact IP bs5 U5 b
  .exact IP bj1 U5 b
  .exact IP bj0 U5 b
 ops:=λc a=>by
  show c.BC (CS prog)=true
  obtain e|a:=r_.1 a
  .rw[e];exact bi8
  obtain e|a:=r_.1 a
  .rw[e];exact bi7
  obtain e|a:=r_.1 a
  .rw[e];exact bi6
  obtain e|a:=r_.1 a
  .rw[e];exact bi5
  obtain e|a:=r_.1 a
  .rw[e];exact aw2
  obtain e|a:=r_.1 a
  .rw[e];exact aw1
  obtain e|a:=r_.1 a
  .rw[e];exact av9
  obtain e|a:=r_.1 a
  .rw[e];exact av8
  obtain e|a:=r_.1 a
  .rw[e];exact bi9
  obtain e|a:=r_.1 a
  .rw[e];exact av7
  obtain e|a:=r_.1 a
  .rw[e];exact ag8
  obtain e|a:=r_.1 a
  .rw[e];exact ah1
  obtain e|a:=r_.1 a
  .rw[e];exact aw0
  cases a
end Go.Fxa
namespace Go.Fxa
open Go.Conc Go.Proofs Go.RowKit
set_option maxRecDepth 1000000
set_option maxHeartbeats 0
theorem GZ (v:o_) (o:Obj):Ij v (v.alloc o):=by
 have e:(v.alloc o).heap=v.heap.push o:=rfl;refine⟨by rw[e];simp,λx a=>?_,rfl,rfl⟩;rw[e,Array.getElem?_push,if_neg (by omega)]
theorem iE {v w:o_} {τ:Nat->Question->Nat} {d:Nat} (h:Ij (v.re τ d) w):Ij v w:=h
theorem bp2:A0 prog=Code.region 0 #[{ dst:=some 3,op:=Op.box 206 (Operand.tmp 1),type:=0,pos:= "run.go:43",after:=#[],guard:=none }] false:=by kernel_rfl
theorem xY (r:Nat) (s0 s1 s2:n_) (v:o_) (g:Y_) (τ:Nat->Question->Nat) (d:Nat) (m:Nat):(A0 prog).wpIn NF m prog (Ends λtm w'=>∃g' bB,tm=TN 9 (AY g' (yN r (.agg #[s0,s1,s2]) bB))/\(Ij v w'/\bB=v.heap.size/\w'.heap.size=v.heap.size+1)/\Cells w' [(S_ bB),(T_ bB 1),(T_ bB 2)] [s0,s1,s2]) ⟨TN 9 (AY g [(0,pr r),(1,.agg #[s0,s1,s2])]),[]⟩ (v.re τ d):=by
 rw[bp2];show Code.wpIn (Fence.list LF none) m prog _ _ ⟨#[pr r,.agg #[s0,s1,s2],g 2,g 3,g 4,g 5,g 6,g 7,g 8],[]⟩ _;gi_wp2;refine⟨rfl,rfl,g,v.heap.size,rfl,⟨iE (GZ _ _),rfl,by show(v.heap.push _).size=_;simp⟩,?_,?_,?_,trivial⟩ <;>
 .show World.cell? { v with heap:=v.heap.push (Obj.cells #[s0,s1,s2] 206),tape:=τ,drawn:=d } _=_;simp[World.cell?]
theorem bo3:S0 prog=Code.region 0 #[{ dst:=some 2,op:=Op.box 202 (Operand.tmp 0),type:=0,pos:= "run.go:21",after:=#[],guard:=none },{ dst:=some 3,op:=Op.box 3 (Operand.tmp 1),type:=0,pos:= "run.go:21",after:=#[],guard:=none },{ dst:=some 4,op:=Op.assign (Operand.const (Value.pointer none)),type:=200,pos:= "run.go:21",after:=#[],guard:=none }] false:=by kernel_rfl
theorem kJ (sa:f_) (n:Int) (v:o_) (g:Y_) (τ:Nat->Question->Nat) (d:Nat) (m:Nat):(S0 prog).wpIn NF m prog (Ends λtm w'=>∃g' b2 b3,tm=TN 18 (AY g' [(2,pr b2),(3,pr b3)])/\Ij v w'/\v.heap.size<=b2/\v.heap.size<=b3/\b2<w'.heap.size/\b3<w'.heap.size/\b2≠b3/\w'.cell? (S_ b2)=some (.pointer (some sa))/\w'.cell? (S_ b3)=some (b_ n)) ⟨TN 18 (AY g [(0,.pointer (some sa)),(1,b_ n)]),[]⟩ (v.re τ d):=by
 rw[bo3];show Code.wpIn (Fence.list LF none) m prog _ _ ⟨#[.pointer (some sa),b_ n,g 2,g 3,g 4,g 5,g 6,g 7,g 8,g 9,g 10,g 11,g 12,g 13,g 14,g 15,g 16,g 17],[]⟩ _;gi_wp2;refine⟨rfl,rfl,AY g [(0,.pointer (some sa)),(1,b_ n),(4,.pointer none)],v.heap.size,v.heap.size+1,rfl,(iE (GZ _ _)).trans (GZ _ _),w_ _,Nat.le_succ _,?_,?_,by omega,?_,?_⟩
 .show v.heap.size<((v.heap.push _).push _).size;simp;omega
 .show v.heap.size+1<((v.heap.push _).push _).size;simp
 .show World.cell? { v with heap:=(v.heap.push (Obj.cells #[.pointer (some sa)] 202)).push _,tape:=τ,drawn:=d } _=_;simp[World.cell?,Array.getElem?_push]
 .show World.cell? { v with heap:=(v.heap.push (Obj.cells #[.pointer (some sa)] 202)).push (Obj.cells #[Value.int .i64 n] 3),tape:=τ,drawn:=d } _=_;simp only[World.cell?];rw[show((v.heap.push (Obj.cells #[.pointer (some sa)] 202)).push (Obj.cells #[Value.int .i64 n] 3))[v.heap.size+1]?=some (Obj.cells #[Value.int .i64 n] 3) by rw[Array.getElem?_push];simp]
  rfl
end Go.Fxa
namespace Go.Fxa
open Go.Conc Go.Proofs
def dta (l:List Nat):Array Edge:=(l.map λn=>{ on:=n,ground:=Ground.data }).toArray
def QX (t d:Nat):Oper:={ dst:=some d,op:=Op.makeChan t (Operand.const (Value.int IntKind.i64 0)),type:=t,pos:= "run.go:22",after:=#[],guard:=none }
def Ut:Oper:={ dst:=some 10,op:=Op.build 257 #[(0,Operand.tmp 6),(1,Operand.tmp 7),(2,Operand.tmp 8),(3,Operand.tmp 9)],type:=257,pos:= "run.go:22",after:=dta [0,1,2,3],guard:=none }
def vz:Oper:={ dst:=some 11,op:=Op.box 257 (Operand.tmp 10),type:=200,pos:= "run.go:22",after:=dta [4],guard:=none }
def ZN:Oper:={ dst:=some 5,op:=Op.alloc 200,type:=0,pos:= "run.go:22",after:=#[],guard:=none }
def Us:Oper:={ dst:=none,op:=Op.store 200 (Operand.tmp 5) (Operand.tmp 11),type:=0,pos:= "run.go:22",after:=dta [6,5]++([0,1,2,3,4,5,6].map λn=>{ on:=n,ground:=Ground.phase }).toArray,guard:=none }
def Yc:Array Oper:=#[QX 244 6,QX 245 7,QX 246 8,QX 247 9,Ut,vz,ZN,Us]
theorem bo2:S1 prog=Code.region 1 Yc true:=by kernel_rfl
def U7:Obj:=.chan 0 #[] false 0 0 false
def AG (q:Nat->Nat):X_:=#[DU (q 0),DU (q 1),DU (q 2),DU (q 3),.int .u64 0,.int .u32 0]
def sl (a:Act) (i:Nat):n_:=a.tmps.getD i undef
structure Made (v:o_) (b2 b3:Nat) (ls:Nat->Bool) (a:Act) (w:o_) (q:Nat->Nat) (b r:Nat):Prop where
 size:a.tmps.size=18
 defers:a.defers=[]
 t2:sl a 2=pr b2
 t3:sl a 3=pr b3
 JX:Ij v w
 ch:∀k,k<4->ls k=true->sl a (6+k)=DU (q k)/\w.heap[q k]?=some U7/\v.heap.size<=q k
 ne:∀k k',k<4->k'<4->k≠k'->ls k=true->ls k'=true->q k≠q k'
 al:ls 6=true->sl a 5=pr b/\w.heap[b]?=some (O_ #[.pointer none] 200)/\v.heap.size<=b
 bd:ls 4=true->sl a 10=.agg (AG q)/\∀k,k<4->ls k=true
 bx:ls 5=true->sl a 11=pr r/\w.heap[r]?=some (O_ (AG q) 257)/\v.heap.size<=r/\ls 4=true
section
variable {v w:o_} {b2 b3:Nat} {ls:Nat->Bool} {a:Act} {q:Nat->Nat} {b r:Nat}
theorem ZK (h:a.tmps.size=18) {d:Nat} (hd:d<18) (x:n_) (i:Nat):sl (a.put (some d) x) i=if i=d then x else sl a i:=by
 unfold sl Act.put;simp only[Array.getD_eq_getD_getElem?,Array.getElem?_setIfInBounds];by_cases e:d=i
 .subst e;simp[h,hd]
 .simp[e,Ne.symm e]
theorem MG {o:Obj} {x:Nat} {ob:Obj} (h:w.heap[x]?=some ob):(w.alloc o).heap[x]?=some ob:=by
 have:=(y_.1 h).1;exact((GZ w o).2.1 x this).trans h
theorem QT (o:Obj):(w.alloc o).heap[w.heap.size]?=some o:=by
 show(w.heap.push o)[w.heap.size]?=some o;simp
def XW (ls:Nat->Bool) (i:Nat) (j:Nat):Bool:=if j=i then true else ls j
theorem Made.chan (M:Made v b2 b3 ls a w q b r) {k:Nat} (hk:k<4) (h4:ls 4=false):Made v b2 b3 (XW ls k) (a.put (some (6+k)) (DU w.heap.size)) (w.alloc U7) (λj=>if j=k then w.heap.size else q j) b r:=by
 have i:=ZK M.size (d:=6+k) (by omega) (DU w.heap.size);have o:∀j,j<4->ls j=true->q j<w.heap.size:=λj c h=>(y_.1 (M.ch j c h).2.1).1
 refine⟨by simp[Act.put,M.size],by simp[Act.put,M.defers],?_,?_,M.JX.trans (GZ _ _),λj c n=>?_,λj m c g p h f=>?_,λh=>?_,λh=>?_,λh=>?_⟩
 .rw[i,if_neg (by omega)];exact M.t2
 .rw[i,if_neg (by omega)];exact M.t3
 .by_cases e:j=k
  .subst e;simp only[if_true];exact⟨by rw[i,if_pos rfl],QT _,M.JX.1⟩
  .simp only[XW,if_neg e]at n ⊢;obtain⟨k1,k2,k3⟩:=M.ch j c n;exact⟨by rw[i,if_neg (by omega)];exact k1,MG k2,k3⟩
 .simp only[XW]at h f;by_cases e:j=k
  .by_cases l:m=k
   .omega
   .simp only[if_pos e,if_neg l]at f ⊢;have:=o m g f;omega
  .by_cases l:m=k
   .simp only[if_neg e,if_pos l]at h ⊢;have:=o j c h;omega
   .simp only[if_neg e,if_neg l]at h f ⊢;exact M.ne j m c g p h f
 .simp only[XW,if_neg (show ¬(6=k) by omega)]at h;obtain⟨k1,k2,k3⟩:=M.al h;exact⟨by rw[i,if_neg (by omega)];exact k1,MG k2,k3⟩
 .simp only[XW,if_neg (show ¬(4=k) by omega),h4]at h;cases h
 .simp only[XW,if_neg (show ¬(5=k) by omega)]at h;have:=(M.bx h).2.2.2;rw[h4]at this;cases this
theorem Made.alloc (M:Made v b2 b3 ls a w q b r):Made v b2 b3 (XW ls 6) (a.put (some 5) (pr w.heap.size)) (w.alloc (.cells #[.pointer none] 200)) q w.heap.size r:=by
 have c:=ZK M.size (d:=5) (by omega) (pr w.heap.size);refine⟨by simp[Act.put,M.size],by simp[Act.put,M.defers],?_,?_,M.JX.trans (GZ _ _),λj e i=>?_,λj l e f m h g=>?_,λh=>?_,λh=>?_,λh=>?_⟩
 .rw[c,if_neg (by omega)];exact M.t2
 .rw[c,if_neg (by omega)];exact M.t3
 .simp only[XW,if_neg (show ¬(j=6) by omega)]at i;obtain⟨k1,k2,k3⟩:=M.ch j e i;exact⟨by rw[c,if_neg (by omega)];exact k1,MG k2,k3⟩
 .simp only[XW,if_neg (show ¬(j=6) by omega),if_neg (show ¬(l=6) by omega)]at h g;exact M.ne j l e f m h g
 .exact⟨by rw[c,if_pos rfl],QT _,M.JX.1⟩
 .obtain⟨k1,k2⟩:=M.bd h;exact⟨by rw[c,if_neg (by omega)];exact k1,λk n=>by simp only[XW,if_neg (show ¬(k=6) by omega)];exact k2 k n⟩
 .obtain⟨k1,k2,k3,o⟩:=M.bx h;exact⟨by rw[c,if_neg (by omega)];exact k1,MG k2,k3,o⟩
theorem Made.build (M:Made v b2 b3 ls a w q b r) (hd:∀k,k<4->ls k=true) (h5:ls 5=false):Made v b2 b3 (XW ls 4) (a.put (some 10) (.agg (AG q))) w q b r:=by
 have f:=ZK M.size (d:=10) (by omega) (.agg (AG q));refine⟨by simp[Act.put,M.size],by simp[Act.put,M.defers],?_,?_,M.JX,λj c n=>?_,λj g c e i h m=>?_,λh=>?_,λh=>?_,λh=>?_⟩
 .rw[f,if_neg (by omega)];exact M.t2
 .rw[f,if_neg (by omega)];exact M.t3
 .obtain⟨k1,k2,k3⟩:=M.ch j c (hd j c);exact⟨by rw[f,if_neg (by omega)];exact k1,k2,k3⟩
 .exact M.ne j g c e i (hd j c) (hd g e)
 .obtain⟨k1,k2,k3⟩:=M.al h;exact⟨by rw[f,if_neg (by omega)];exact k1,k2,k3⟩
 .exact⟨by rw[f,if_pos rfl],λk l=>by simp only[XW,if_neg (show ¬(k=4) by omega)];exact hd k l⟩
 .simp only[XW,if_neg (show ¬(5=4) by omega),h5]at h;cases h
theorem Made.box (M:Made v b2 b3 ls a w q b r) (h4:ls 4=true):Made v b2 b3 (XW ls 5) (a.put (some 11) (pr w.heap.size)) (w.alloc (.cells (AG q) 257)) q b w.heap.size:=by
 have c:=ZK M.size (d:=11) (by omega) (pr w.heap.size);refine⟨by simp[Act.put,M.size],by simp[Act.put,M.defers],?_,?_,M.JX.trans (GZ _ _),λj e i=>?_,λj l e f m h g=>?_,λh=>?_,λh=>?_,λh=>?_⟩
 .rw[c,if_neg (by omega)];exact M.t2
 .rw[c,if_neg (by omega)];exact M.t3
 .simp only[XW,if_neg (show ¬(j=5) by omega)]at i;obtain⟨k1,k2,k3⟩:=M.ch j e i;exact⟨by rw[c,if_neg (by omega)];exact k1,MG k2,k3⟩
 .simp only[XW,if_neg (show ¬(j=5) by omega),if_neg (show ¬(l=5) by omega)]at h g;exact M.ne j l e f m h g
 .obtain⟨k1,k2,k3⟩:=M.al h;exact⟨by rw[c,if_neg (by omega)];exact k1,MG k2,k3⟩
 .obtain⟨k1,k2⟩:=M.bd h;exact⟨by rw[c,if_neg (by omega)];exact k1,λk n=>by simp only[XW,if_neg (show ¬(k=5) by omega)];exact k2 k n⟩
 .exact⟨by rw[c,if_pos rfl],QT _,M.JX.1,by simp only[XW,if_neg (show ¬(4=5) by omega)];exact h4⟩
end
/-! ### the operations -/
section
variable {n:Nat} {Q:Exit->Act->o_->Prop} {K:Act->o_->Prop} {a:Act} {w w':o_} {ops:Array Oper} {i:Nat} {o:Oper} {x:n_}
theorem Og (hi:ops[i]?=some o) (hg:o.guard=none) (hn:o.about prog w a.eval=none) (hr:(execOp a.eval o).run prog w=.ok (.value x) w') (h:K (a.put o.dst x) w'):wpOpIn NF n prog ops Q i K a w:=by
 unfold wpOpIn;simp only[hi];rw[if_pos (by simp[Region.wanted,hg])];refine⟨λf b=>(by rw[hn]at b;cases b),?_⟩;show Oper.uponIn NF n prog o a K Q ((execOp a.eval o).run prog w);rw[hr];exact h
theorem ag7 (hi:ops[i]?=some o) (hg:o.guard=none) (hn:o.about prog w a.eval=none) (hr:(execOp a.eval o).run prog w=.ok .skip w') (h:K (a.put o.dst undef) w'):wpOpIn NF n prog ops Q i K a w:=by
 unfold wpOpIn;simp only[hi];rw[if_pos (by simp[Region.wanted,hg])];refine⟨λf b=>(by rw[hn]at b;cases b),?_⟩;show Oper.uponIn NF n prog o a K Q ((execOp a.eval o).run prog w);rw[hr];exact h
theorem af5:(execOp a.eval (QX 244 6)).run prog w=.ok (.value (DU w.heap.size)) (w.alloc U7):=by kernel_rfl
theorem af4:(execOp a.eval (QX 245 7)).run prog w=.ok (.value (DU w.heap.size)) (w.alloc U7):=by kernel_rfl
theorem af2:(execOp a.eval (QX 246 8)).run prog w=.ok (.value (DU w.heap.size)) (w.alloc U7):=by kernel_rfl
theorem af1:(execOp a.eval (QX 247 9)).run prog w=.ok (.value (DU w.heap.size)) (w.alloc U7):=by kernel_rfl
theorem wG:(execOp a.eval ZN).run prog w=.ok (.value (pr w.heap.size)) (w.alloc (.cells #[.pointer none] 200)):=by kernel_rfl
theorem oW {q:Nat->Nat}:((Instr.build 257 #[(0,DU (q 0)),(1,DU (q 1)),(2,DU (q 2)),(3,DU (q 3))])>>= λx=>pure (Next.value x):Sem Next).run prog w=.ok (.value (.agg (AG q))) w:=by kernel_rfl
theorem run_build {q:Nat->Nat} (h:∀k,k<4->sl a (6+k)=DU (q k)):(execOp a.eval Ut).run prog w=.ok (.value (.agg (AG q))) w:=by
 have b:a.eval (.tmp 6)=DU (q 0):=h 0 (by omega);have c:a.eval (.tmp 7)=DU (q 1):=h 1 (by omega);have d:a.eval (.tmp 8)=DU (q 2):=h 2 (by omega);have f:a.eval (.tmp 9)=DU (q 3):=h 3 (by omega);have e:execOp a.eval Ut=((Instr.build 257 #[(0,a.eval (.tmp 6)),(1,a.eval (.tmp 7)),(2,a.eval (.tmp 8)),(3,a.eval (.tmp 9))])>>= λx=>pure (Next.value x)):=by kernel_rfl
 rw[e,b,c,d,f];exact oW
theorem Ϝ {q:Nat->Nat}:(Instr.box 257 (.agg (AG q))>>= λx=>pure (Next.value x):Sem Next).run prog w=.ok (.value (pr w.heap.size)) (w.alloc (.cells (AG q) 257)):=by kernel_rfl
theorem af6 {q:Nat->Nat} (h:sl a 10=.agg (AG q)):(execOp a.eval vz).run prog w=.ok (.value (pr w.heap.size)) (w.alloc (.cells (AG q) 257)):=by
 have e:execOp a.eval vz=(Instr.box 257 (sl a 10)>>= λx=>pure (Next.value x)):=rfl;rw[e,h];exact Ϝ
theorem run_store {b r:Nat} (h5:sl a 5=pr b) (h11:sl a 11=pr r) (hb:w.heap[b]?=some (O_ #[.pointer none] 200)):(execOp a.eval Us).run prog w=.ok .skip (w.setCell (S_ b) (pr r)):=by
 have e:execOp a.eval Us=(Instr.storeAt 200 (sl a 5) (sl a 11)>>= λ_=>pure Next.skip):=rfl;rw[e,h5,h11];have c:w.cell? (S_ b)=some (.pointer none):=by simp[World.cell?,hb]
 have d:w.frozen? (S_ b)=false:=by simp[World.frozen?,hb]
 have e2:(Instr.storeAt 200 (pr b) (pr r)>>= λ_=>pure Next.skip:Sem Next).run prog w=(Sem.store .plain (S_ b) (pr r) (.pure Next.skip)).run prog w:=by kernel_rfl
 rw[e2];have e3:(Sem.store .plain (S_ b) (pr r) (.pure Next.skip)).run prog w=(match w.cell? (S_ b)with
  |some _=>if w.frozen? ⟨b,0,none⟩then .halt (.unsupported (.unsafePointer "a write to bytes that a string shares")) w else .ok .skip (w.setCell ⟨b,0,none⟩ (pr r))
  |none=>match w.farStore prog (S_ b) (pr r) false with
   |.ok (w,_)=>.ok .skip w
   |.error h=>.halt h w):=rfl;rw[e3,c,d]
 rfl
/-! ### whichever comes next -/
theorem ϟ {l:Array Bool} {i:Nat} (h:i∈Region.ready .any Yc l):i<8/\l.getD i true=false/\(i=4->∀k,k<4->l.getD k false=true)/\(i=5->l.getD 4 false=true)/\(i=7->∀k,k<7->l.getD k false=true):=by
 simp only[Region.ready,List.mem_filter,List.mem_range,Bool.and_eq_true,Bool.not_eq_true']at h;obtain⟨d,f,a⟩:=h;have b:i<8:=d;refine⟨b,f,λe=>?_,λe=>?_,λe=>?_⟩
 .subst e;simp[Yc,Ut,dta,Region.binds]at a;intro k c
  match k,c with
  |0,_=>simp[a]
  |1,_=>simp[a]
  |2,_=>simp[a]
  |3,_=>simp[a]
 .subst e;simp[Yc,vz,dta,Region.binds]at a;simp[a]
 .subst e;simp[Yc,Us,dta,Region.binds]at a;intro k c
  match k,c with
  |0,_=>simp[a]
  |1,_=>simp[a]
  |2,_=>simp[a]
  |3,_=>simp[a]
  |4,_=>simp[a]
  |5,_=>simp[a]
  |6,_=>simp[a]
theorem pz {l:Array Bool} (h:∀k,k<8->l.getD k true=true):Region.ready .any Yc l=[]:=by
 refine List.filter_eq_nil_iff.2 λi a=>?_
 have:=h i (List.mem_range.1 a);rw[this];simp
theorem jy {l:Array Bool} (hs:l.size=8) (h:Region.ready .any Yc l=[]):∀k,k<8->l.getD k true=true:=by
 have a:∀i,i<8->((Yc[i]?).map (·.after.all λe=>!Region.binds .any e || l.getD e.on false)).getD false=true->l.getD i false=true:=λi n q=>by
  cases hc:l.getD i true with
  |true=>simpa [Array.getD,hs,n]using hc
  |false=>
   have:i∈Region.ready .any Yc l:=List.mem_filter.2 ⟨List.mem_range.2 n,by rw[hc,q];rfl⟩
   rw[h]at this
   cases this
 have b:=a 0 (by omega) (by simp[Yc,QX]);have r:l[0]'(by omega)=true:=by simpa [Array.getD,hs]using b
 have c:=a 1 (by omega) (by simp[Yc,QX]);have q1:l[1]'(by omega)=true:=by simpa [Array.getD,hs]using c
 have d:=a 2 (by omega) (by simp[Yc,QX]);have s:l[2]'(by omega)=true:=by simpa [Array.getD,hs]using d
 have f:=a 3 (by omega) (by simp[Yc,QX]);have t:l[3]'(by omega)=true:=by simpa [Array.getD,hs]using f
 have m:=a 6 (by omega) (by simp[Yc,ZN]);have w:l[6]'(by omega)=true:=by simpa [Array.getD,hs]using m
 have g:=a 4 (by omega) (by
  simp only[Yc,Ut,dta]
  simp only[List.map_cons,List.map_nil]
  simp[Region.binds, *]);have u:l[4]'(by omega)=true:=by simpa [Array.getD,hs]using g
 have j:=a 5 (by omega) (by
  simp only[Yc,vz,dta]
  simp only[List.map_cons,List.map_nil]
  simp[Region.binds, *]);have v:l[5]'(by omega)=true:=by simpa [Array.getD,hs]using j
 have p:=a 7 (by omega) (by
  simp only[Yc,Us,dta]
  simp only[List.map_cons,List.map_nil]
  simp[Region.binds, *]);intro k o;have:l.getD k false=true:=by
  match k,o with
  |0,_=>exact b
  |1,_=>exact c
  |2,_=>exact d
  |3,_=>exact f
  |4,_=>exact g
  |5,_=>exact j
  |6,_=>exact m
  |7,_=>exact p
 simpa [Array.getD,hs,o]using this
theorem Χ {l:Array Bool} (hs:l.size=8) {i:Nat} (hi:i<8):(λj=>(l.setIfInBounds i true).getD j false)=XW (λj=>l.getD j false) i:=by
 funext j;unfold XW;simp only[Array.getD_eq_getD_getElem?,Array.getElem?_setIfInBounds];by_cases e:i=j
 .subst e;simp[hs,hi]
 .simp[e,Ne.symm e]
theorem count_set {l:Array Bool} {i:Nat} (h:l.getD i true=false):(l.setIfInBounds i true).toList.count true=l.toList.count true+1:=by
 have a:i<l.size:=by
  by_cases a:i<l.size
  .exact a
  .simp[Array.getD,a]at h
 have b:l[i]=false:=by simpa [Array.getD,a]using h
 rw[Array.setIfInBounds,dif_pos a];simp only[Array.toList_set];rw[List.count_set (by simpa using a)];simp[b]
theorem iy {v:o_} {b2 b3:Nat} (hQ:∀a w q b r,Made v b2 b3 (fun _=>true) a w q b r->Q .normal a (w.setCell (S_ b) (pr r))):∀(fuel:Nat) (l:Array Bool) (a:Act) (w:o_) (q:Nat->Nat) (b r:Nat),l.size=8->l.getD 7 true=false->l.toList.count true+fuel=8->
  Made v b2 b3 (λi=>l.getD i false) a w q b r->wpAnyIn NF n prog .any Yc Q fuel l a w
 |0,l,a,w,q,b,r,s,B,R,M=>by
  exfalso
  have:∀x∈l.toList,true=x:=by
   apply List.count_eq_length.1
   rw[Array.length_toList]
   omega
  have I:l.toList[7]?=some false:=by
   simpa [Array.getD,s]using B
  have:=this false (t_ I)
  cases this
 |fuel+1,l,a,w,q,b,r,s,B,R,M=>by
  refine⟨λS=>?_,λi C=>?_⟩
  .have:=jy s S 7 (by omega);rw[B]at this;cases this
  .obtain⟨t,g,d4,A,H⟩:=ϟ C;have c:l.getD i false=false:=(by simpa [Array.getD,s,t]using g);have next:∀(z:Act) (D:o_) (J:Nat->Nat) (G K:Nat),i≠7->Made v b2 b3 (XW (λj=>l.getD j false) i) z D J G K->wpAnyIn NF n prog .any Yc Q fuel (l.setIfInBounds i true) z D:=λz D J G K E F=>by
    refine iy hQ fuel _ z D J G K (by simp[s]) ?_ (by rw[count_set g];omega) (by rw[Χ s t];exact F)
    simp only[Array.getD_eq_getD_getElem?,z_ E]
    simpa [Array.getD_eq_getD_getElem?]using B
   have p:i<4->l.getD 4 false=false:=λh=>by
    cases e:l.getD 4 false with
    |false=>rfl
    |true=>have:=(M.bd e).2 i h;rw[c]at this;cases this
   match i,t,g,c,d4,A,H,next,p with
   |0,_,g,c,_,_,_,next,p=>exact Og (o:=QX 244 6) rfl rfl rfl af5 (next _ _ _ _ _ (by omega) (M.chan (k:=0) (by omega) (p (by omega))))
   |1,_,g,c,_,_,_,next,p=>exact Og (o:=QX 245 7) rfl rfl rfl af4 (next _ _ _ _ _ (by omega) (M.chan (k:=1) (by omega) (p (by omega))))
   |2,_,g,c,_,_,_,next,p=>exact Og (o:=QX 246 8) rfl rfl rfl af2 (next _ _ _ _ _ (by omega) (M.chan (k:=2) (by omega) (p (by omega))))
   |3,_,g,c,_,_,_,next,p=>exact Og (o:=QX 247 9) rfl rfl rfl af1 (next _ _ _ _ _ (by omega) (M.chan (k:=3) (by omega) (p (by omega))))
   |4,_,g,c,d4,_,_,next,_=>
    have P:l.getD 5 false=false:=by
     cases e:l.getD 5 false with
     |false=>rfl
     |true=>have:=(M.bx e).2.2.2;rw[c]at this;cases this
    exact Og (o:=Ut) rfl rfl rfl (run_build λk u=>(M.ch k u (d4 rfl k u)).1) (next _ _ _ _ _ (by omega) (M.build (d4 rfl) P))
   |5,_,g,c,_,A,_,next,_=>exact Og (o:=vz) rfl rfl rfl (af6 (M.bd (A rfl)).1) (next _ _ _ _ _ (by omega) (M.box (A rfl)))
   |6,_,g,c,_,_,_,next,_=>exact Og (o:=ZN) rfl rfl rfl wG (next _ _ _ _ _ (by omega) M.alloc)
   |7,_,g,c,_,_,H,_,_=>
    have m:=H rfl
    have F:Made v b2 b3 (λ_=>true) a w q b r:=⟨M.size,M.defers,M.t2,M.t3,M.JX,λk u _=>M.ch k u (m k (by omega)),λk O u y E _ _=>M.ne k O u y E (m k (by omega)) (m O (by omega)),λ_=>M.al (m 6 (by omega)),λ_=>⟨(M.bd (m 4 (by omega))).1,λ_ _=>rfl⟩,λ_=>let h:=M.bx (m 5 (by omega));⟨h.1,h.2.1,h.2.2.1,rfl⟩⟩
    have N:=hQ a w q b r F
    refine ag7 (o:=Us) rfl rfl rfl (run_store (M.al (m 6 (by omega))).1 (M.bx (m 5 (by omega))).1 (M.al (m 6 (by omega))).2.1) ?_
    have d:Region.ready .any Yc (l.setIfInBounds 7 true)=[]:=pz λk u=>by
     have:=congrFun (Χ s (i:=7) (by omega)) k
     simp only[XW]at this
     have L:(l.setIfInBounds 7 true).getD k false=true:=by
      rw[this]
      by_cases e:k=7
      .simp[e]
      .rw[if_neg e];exact m k (by omega)
     have y:k<(l.setIfInBounds 7 true).size:=(by simp[s];omega);simp only[Array.getD,dif_pos y]at L ⊢;exact L
    cases fuel with
    |zero=>exact⟨d,N⟩
    |succ f=>exact⟨λ_=>N,λi C=>by rw[d]at C;cases C⟩
end
theorem Jv {w:o_} {b x:Nat} {u:n_} (h:b≠x):(w.setCell (S_ b) u).heap[x]?=w.heap[x]?:=by
 simp[World.setCell,Array.getElem?_modify,h]
theorem jR (b2 b3:Nat) (v:o_) (g:Y_) (τ:Nat->Question->Nat) (d:Nat) (m:Nat):(S1 prog).wpIn NF m prog (Ends λtm w'=>∃g' b5 r q0 q1 q2 q3,tm=TN 18 (AY g' (vw b2 b3 b5))/\Ij v w'/\(∀x∈[b5,r,q0,q1,q2,q3],v.heap.size<=x)/\[b5,r,q0,q1,q2,q3].Nodup/\Bv r #[DU q0,DU q1,DU q2,DU q3] 257 w' 0 0/\w'.cell? (S_ b5)=some (pr r)/\∀q∈[q0,q1,q2,q3],w'.heap[q]?=some (.chan 0 #[] false 0 0 false)) ⟨TN 18 (AY g [(2,pr b2),(3,pr b3)]),[]⟩ (v.re τ d):=by
 rw[bo2];refine wpIn_region_any (by kernel_rfl) (iy (v:=v) (b2:=b2) (b3:=b3) (λa w q b r M=>?_) 8 _ _ _ (λ_=>0) 0 0 rfl rfl rfl ?_)
 .obtain⟨E,j,F⟩:=M.al rfl;obtain⟨N,C,J,_⟩:=M.bx rfl;have l:=M.ch 0 (by omega) rfl;have n:=M.ch 1 (by omega) rfl;have c2:=M.ch 2 (by omega) rfl;have c3:=M.ch 3 (by omega) rfl;have f:∀x,w.heap[x]?=some U7->b≠x:=λx c e=>by subst e;rw[j]at c;cases c
  have s:∀x,w.heap[x]?=some U7->r≠x:=λx c e=>by subst e;rw[C]at c;cases c
  have o:b≠r:=λe=>by
   rw[e,C]at j
   injection j with j
   injection j with _ e2 _
   cases e2
  have K:b<w.heap.size:=(y_.1 j).1;have I:Ij v (w.setCell (S_ b) (pr r)):=by
   refine⟨by simpa [World.setCell]using M.JX.1,λx c=>?_,M.JX.2.2.1,M.JX.2.2.2⟩
   rw[Jv (by omega)]
   exact M.JX.2.1 x c
  have G:=M.defers;refine⟨rfl,G,λi=>a.tmps.getD i undef,b,r,q 0,q 1,q 2,q 3,?_,I,?_,?_,?_,?_,?_⟩
  .rw[show AY (λi=>a.tmps.getD i undef) (vw b2 b3 b)=λi=>a.tmps.getD i undef from Nb λp D=>by
    simp only[vw,r_,List.not_mem_nil,or_false]at D
    obtain h|h|h:=D<;>subst h
    .exact M.t2
    .exact M.t3
    .exact E]
   exact Wy M.size
  .intro x c;simp only[r_,List.not_mem_nil,or_false]at c;obtain h|h|h|h|h|h:=c<;>subst h
   .exact F
   .exact J
   .exact l.2.2
   .exact n.2.2
   .exact c2.2.2
   .exact c3.2.2
  .have t:=M.ne 0 1 (by omega) (by omega) (by omega) rfl rfl;have u:=M.ne 0 2 (by omega) (by omega) (by omega) rfl rfl;have y:=M.ne 0 3 (by omega) (by omega) (by omega) rfl rfl;have z:=M.ne 1 2 (by omega) (by omega) (by omega) rfl rfl;have A:=M.ne 1 3 (by omega) (by omega) (by omega) rfl rfl;have B:=M.ne 2 3 (by omega) (by omega) (by omega) rfl rfl;simp only[List.nodup_cons,r_,List.not_mem_nil,or_false,not_or,List.nodup_nil,and_true,not_false_eq_true];exact⟨⟨o,f _ l.2.1,f _ n.2.1,f _ c2.2.1,f _ c3.2.1⟩,⟨s _ l.2.1,s _ n.2.1,s _ c2.2.1,s _ c3.2.1⟩,⟨t,u,y⟩,⟨z,A⟩,B⟩
  .unfold Bv;rw[Jv o];exact C
  .simp[World.cell?,World.setCell,Array.getElem?_modify,j]
  .intro x c;simp only[r_,List.not_mem_nil,or_false]at c;obtain h|h|h|h:=c<;>subst h
   .rw[Jv (f _ l.2.1)];exact l.2.1
   .rw[Jv (f _ n.2.1)];exact n.2.1
   .rw[Jv (f _ c2.2.1)];exact c2.2.1
   .rw[Jv (f _ c3.2.1)];exact c3.2.1
 .have H:∀i,(Array.replicate Yc.size false).getD i false=false:=λi=>by
   simp[Array.getD]
  refine⟨by simp[TN],rfl,rfl,rfl,⟨w_ _,λ_ _=>rfl,rfl,rfl⟩,λk _ h=>?_,λk L _ _ _ h=>?_,λh=>?_,λh=>?_,λh=>?_⟩<;>(rw[H]at h;cases h)
theorem xw (m:Nat):YS prog NF m:=⟨λr a b c v g τ d=>xY r a b c v g τ d m⟩
theorem oO (m:Nat):υ prog NF m:=⟨λc n v g τ d=>kJ c n v g τ d m,λa b v g τ d=>jR a b v g τ d m⟩
end Go.Fxa
namespace Go.Fxa
open Go.Conc Go.Proofs Go.RowKit
structure Keep (S:Nat->Prop) (w w':o_):Prop where
 os:w'.os=w.os
 output:w'.output=w.output
 size:w.heap.size<=w'.heap.size
 block:∀k,k<w.heap.size->¬S k->w'.heap[k]?=w.heap[k]?
def No:Nat->Prop:=λ_=>False
def At (b:Nat):Nat->Prop:=λk=>k=b
def At2 (b c:Nat):Nat->Prop:=λk=>k=b\/k=c
section
variable {S S':Nat->Prop} {a b c w w':o_}
theorem p_ (S:Nat->Prop) (w:o_):Keep S w w:=⟨rfl,rfl,w_ _,λ_ _ _=>rfl⟩
theorem Keep.mono (h:Keep S a b) (hs:∀k,k<a.heap.size->S k->S' k):Keep S' a b:=⟨h.os,h.output,h.size,λk c e=>h.block k c λd=>e (hs k c d)⟩
theorem Keep.no (h:Keep No a b):Keep S a b:=h.mono λ_ _ c=>c.elim
theorem Keep.trans (h:Keep S a b) (k:Keep S' b c) (hs:∀k,k<a.heap.size->S' k->S k):Keep S a c:=
 ⟨k.os.trans h.os,k.output.trans h.output,Nat.le_trans h.size k.size,λi d e=>(k.block i (Nat.lt_of_lt_of_le d h.size) λf=>e (hs i d f)).trans (h.block i d e)⟩
theorem Keep.then (h:Keep S a b) (k:Keep S b c):Keep S a c:=h.trans k λ_ _ h=>h
theorem Keep.drew (h:Keep S a w):Keep S a w.drew:=⟨h.os,h.output,h.size,h.block⟩
theorem Keep.alloc (h:Keep S a w) (o:Obj):Keep S a (w.alloc o):=
 h.then ⟨rfl,rfl,by simp,λk b _=>Below.heap_alloc _ _ _ b⟩
theorem Keep.setCell (h:Keep S a w) {p:f_} (u:n_) (hp:p.block<a.heap.size->S p.block):Keep S a (w.setCell p u):=
 ⟨h.os,h.output,by simpa using h.size,λk b c=>(Below.heap_setCell _ _ _ _ λe=>c (by subst e;exact hp b)).trans (h.block k b c)⟩
theorem Keep.cell (h:Keep S w w') {p:f_} (hp:p.block<w.heap.size) (hn:¬S p.block):w'.cell? p=w.cell? p:=World.cell?_of_block (w:=w) (h.block p.block hp hn)
theorem Keep.old (h:Keep S w w') {k:Nat} {o:Obj} (hk:w.heap[k]?=some o) (hn:¬S k):w'.heap[k]?=some o:=(h.block k (y_.1 hk).1 hn).trans hk
end
theorem BQ {w:o_} {k:Nat} {o:Obj} (h:w.heap[k]?=some o):k<w.heap.size:=(y_.1 h).1
theorem Af {w:o_} {k:Nat} {cs:X_} {T:j_} {fz:Nat×Nat} (h:w.heap[k]?=some (.cells cs T fz)) (i:Nat):w.cell? (T_ k i)=cs[i]?:=by simp[World.cell?,h]
theorem BO {w:o_} {k:Nat} {cs:X_} {T:j_} (h:w.heap[k]?=some (O_ cs T)) (i:Nat):w.frozen? (T_ k i)=false:=by simp[World.frozen?,h]
theorem Ah {w:o_} {k i:Nat} {cs:X_} {T:j_} {fz:Nat×Nat} (h:w.heap[k]?=some (.cells cs T fz)) (u:n_):(w.setCell (T_ k i) u).heap[k]?=some (.cells (cs.setIfInBounds i u) T fz):=by
 simp[World.setCell,Array.getElem?_modify,h]
theorem GY {w:o_} {k:Nat} {p:f_} (u:n_) (h:k≠p.block):(w.setCell p u).heap[k]?=w.heap[k]?:=Below.heap_setCell _ _ _ _ h
theorem heap_alloc_new {w:o_} {o:Obj} {k:Nat} (h:k=w.heap.size):(w.alloc o).heap[k]?=some o:=by subst h;exact QT _
theorem heap_alloc_old {w:o_} {o:Obj} {k:Nat} (h:k<w.heap.size):(w.alloc o).heap[k]?=w.heap[k]?:=Below.heap_alloc _ _ _ h
theorem heap_drew {w:o_} {k:Nat}:w.drew.heap[k]?=w.heap[k]?:=rfl
end Go.Fxa
namespace Go.Fxa
open Go.Conc Go.Proofs Go.RowKit
set_option maxRecDepth 1000000
set_option maxHeartbeats 0
@[simp] theorem lf:(14:h_)∈LF/\17∈LF/\18∈LF/\20∈LF/\22∈LF/\41∈LF/\42∈LF/\43∈LF/\44∈LF/\45∈LF/\46∈LF/\47∈LF/\48∈LF/\49∈LF/\50∈LF/\51∈LF/\52∈LF/\53∈LF/\54∈LF/\55∈LF/\57∈LF/\58∈LF/\59∈LF/\63∈LF/\87∈LF/\88∈LF/\89∈LF/\90∈LF/\91∈LF/\92∈LF/\96∈LF/\98∈LF/\100∈LF/\101∈LF/\102∈LF/\103∈LF/\104∈LF/\105∈LF/\106∈LF/\107∈LF/\122∈LF/\123∈LF/\124∈LF/\126∈LF/\127∈LF/\128∈LF/\129∈LF/\130∈LF/\131∈LF/\132∈LF/\138∈LF/\139∈LF/\140∈LF/\141∈LF/\142∈LF/\143∈LF/\144∈LF/\145∈LF/\148∈LF/\149∈LF/\150∈LF/\151∈LF/\152∈LF/\153∈LF/\156∈LF/\157∈LF/\158∈LF/\159∈LF/\160∈LF/\161∈LF/\171∈LF/\185∈LF/\193∈LF/\194∈LF/\195∈LF/\196∈LF/\198∈LF/\199∈LF/\200∈LF/\201∈LF/\202∈LF/\203∈LF/\204∈LF/\205∈LF/\206∈LF/\207∈LF/\208∈LF/\209∈LF/\210∈LF/\211∈LF/\212∈LF/\213∈LF/\226∈LF/\229∈LF/\230∈LF/\231∈LF/\232∈LF/\233∈LF/\234∈LF/\237∈LF/\238∈LF/\244∈LF/\245∈LF/\246∈LF/\248∈LF:=by(repeat' apply And.intro)<;>decide
@[simp] theorem ca5 (f:h_):NF.fn f=(f∈LF):=rfl
@[simp] theorem bp3:NF.round=none:=rfl
@[simp] theorem bp4:NF.depth=none:=rfl
@[simp] theorem bp5:NF.alive=true:=rfl
end Go.Fxa
