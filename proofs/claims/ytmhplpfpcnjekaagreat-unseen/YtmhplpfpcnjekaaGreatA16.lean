/- Which operations are fine: all -/
import Derived.Test.YtmhplpfpcnjekaaGreatA15
import Derived.TacticsInMore
import Derived.RegionIn
import Derived.LoopIn
import Derived.OrdersIn
import Derived.Below
import Derived.WalkSmall
open Go.Proofs.Tryz
namespace Go.Fxa
open Go.Conc
variable {t:j_} {x y:n_} {a:Array j_} {args:X_} {o:Oper}
def CE (P:l_) (o:Oper):Bool:=match o.op with
 |.move _ | .assign _ | .pick _ _ _ | .alloc _ | .box _ _ | .build _ _ | .buildSlice _ _ _ | .load _ _ | .store _ _ _ | .nilCheck _=>true
 |.unOp _ _ _ | .makeInterface _ _ | .makeFunc _ _ _ | .makeChan _ _ | .makeSlice _ _ _ | .slice _ _ _ _ _ | .fieldAddr _ _ _ | .field _ _ _ | .indexAddr _ _ _ | .index _ _ _ | .extract _ _ | .panic _=>true
 |.binOp op t x y _=>match op with
  |.eql=>Qr P t x y
  |.neq=>Qr P t x y
  |_=>true
 |.convert a b _=>jV P a && jV P b
 |.call c=>match c.callee with
  |.builtin b=>match b with
   |.append | .cap | .clear | .copy | .len | .max | .min=>true
   |_=>false
  |.value _=>true
  |.invoke _ _=>true
 |_=>false
def ac8 (P:l_) (l:List h_) (o:Oper):Bool:=CE P o || (match o.op with
 |.defer c=>match c.callee with
  |.value (.func f)=>l.contains f
  |_=>false
 |_=>false)
def opsOf (P:l_) (l:List h_) (f:h_):Oper->Bool:=if pY f then ac8 P l else CE P
section
variable {P:l_} {L:h_->Prop} {bb:Bool}
theorem ZN {s:n_}:(Instr.makeChan t s).Ar P λ_=>True:=by
 unfold Instr.makeChan;refine Aa NJ λn=>Aa (A7 AB) λd=>?_
 split
 .refine Aa Ee λi=>?_
  exact AO (λ_=>Aa Bf λ_=>Aa (Oq rfl) λ_=>Ae trivial) λ_=>Aa (Oq rfl) λ_=>Ae trivial
 .exact Ak
theorem Ey {s:Sem n_} (h:s.Ar P λ_=>True):(s>>= λx=>pure (Next.value x):Sem Next).Ar P (Fh L bb):=Aa h λ_=>Ae trivial
theorem aw0 {s:Sem Unit} (h:s.Ar P λ_=>True):(s>>= λ_=>pure Next.skip:Sem Next).Ar P (Fh L bb):=Aa h λ_=>Ae trivial
theorem QJ {f:n_->n_->Sem n_} (h:∀x y,(f x y).Ar P λ_=>True):∀(l:U_) (x:n_),(l.foldlM f x).Ar P λ_=>True
 |[],_=>Ae trivial
 |y::l,x=>Aa (h x y) λz=>QJ h l z
theorem Ν:(Builtin.min2 x y).Ar P λ_=>True:=by
 unfold Builtin.min2;split<;>first
  |exact Ae trivial
  |exact EW zF
  |exact Ak
  |exact Aa IE λ_=>Aa Ot λ_=>Ae trivial
  |(split<;>first
    |exact Ae trivial
    |exact Aa (e:=choose _) (λ_=>trivial) λ_=>Ae trivial)
theorem Ξ:(Builtin.max2 x y).Ar P λ_=>True:=by
 unfold Builtin.max2;split<;>first
  |exact Ae trivial
  |exact EW zF
  |exact Ak
  |exact Aa IE λ_=>Aa Ot λ_=>Ae trivial
  |(split<;>first
    |exact Ae trivial
    |exact Aa (e:=choose _) (λ_=>trivial) λ_=>Ae trivial)
theorem aj0:(Builtin.min_ a t args).Ar P λ_=>True:=by
 unfold Builtin.min_;split
 .exact Ak
 .exact QJ (λ_ _=>Ν) _ _
theorem aj1:(Builtin.max_ a t args).Ar P λ_=>True:=by
 unfold Builtin.max_;split
 .exact Ak
 .exact QJ (λ_ _=>Ξ) _ _
theorem bI (J:P.globals.size=0) (I:Tm P L) (h:CE P o=true):bn9 P L bb o:=by
 intro m v G k;obtain⟨C,op,type,pos,after,guard⟩:=o;unfold CE at h;simp only at h;unfold execOp;simp only;cases op with
 |move x=>exact Sem.Ar.here (Ae trivial) v
 |assign x=>exact Sem.Ar.here (Ae trivial) v
 |pick c a b=>exact Sem.Ar.here (Aa Ot λ_=>Ae trivial) v
 |alloc e=>exact Sem.Ar.here (Ey um) v
 |box e x=>exact Sem.Ar.here (Ey aj6) v
 |build t E=>exact Sem.Ar.here (Ey uh) v
 |buildSlice t n E=>exact Sem.Ar.here (Ey WO) v
 |load t a=>exact Sem.Ar.here (Ey mP) v
 |store t a x=>exact Sem.Ar.here (aw0 iI) v
 |nilCheck x=>
  refine Sem.Ar.here ?_ v
  dsimp only
  split<;>first
   |exact Bf
   |exact Ae trivial
   |skip
  split<;>first
   |exact Bf
   |exact Ae trivial
   |skip
  refine Aa (A7 Dx) λq=>Aa (Sr _ _ _ _) λr=>?_
  exact AO (λ_=>Aa (EW zF) λ_=>Ae trivial) λ_=>Ae trivial
 |unOp op t x=>exact Sem.Ar.here (Ey tK) v
 |makeInterface t x=>exact Sem.Ar.here (Ey TG) v
 |makeFunc f a b=>exact Sem.Ar.here (Ey ZM) v
 |makeChan t s=>exact Sem.Ar.here (Ey ZN) v
 |makeSlice t a b=>exact Sem.Ar.here (Ey Zd) v
 |slice t x a b c=>exact Sem.Ar.here (Ey iJ) v
 |fieldAddr t x f=>exact Sem.Ar.here (Ey iM) v
 |field t x f=>exact Sem.Ar.here (Ey tZ) v
 |indexAddr t x i=>exact Sem.Ar.here (Ey iL) v
 |index t x i=>exact Sem.Ar.here (Ey tY) v
 |extract x i=>exact Sem.Ar.here (Ey iO) v
 |panic x=>exact Sem.Ar.here (Ey tX) v
 |convert a b x=>
  simp only[Bool.and_eq_true]at h
  exact Sem.Ar.here (Ey (iQ h.1 h.2)) v
 |binOp op t x y z=>
  have A:(op=.eql\/op=.neq)->Qr P t x y=true:=λj=>by obtain rfl|rfl:=j<;>exact h
  refine Sem.Ar.here (Ey (Aa (iP A) λ_=>?_)) v
  by_cases j:op=.eql\/op=.neq
  .exact uj J j (A j)
  .exact ui J (λe=>j (.inl e)) λe=>j (.inr e)
 |call c=>
  obtain⟨callee,args,B⟩:=c
  cases callee with
  |builtin b=>
   refine Sem.Ar.here ?_ v
   cases b<;>first
    |(cases h;done)
    |exact Ey mX
    |exact Ey aj3
    |exact Ey ug
    |exact Ey Ο
    |exact Ey aj2
    |exact Ey aj0
    |exact Ey aj1
  |value f=>
   refine ϣ I λd F p g D=>k g ?_
   simp only[Oper.about,resolve,p]
   exact D
  |invoke r n=>
   have w:∀(x:n_) (l:X_),(#[x]++l)[0]?=some x:=λx l=>by rw[Array.getElem?_append_left zF];rfl
   show Ip P (Fh L bb) (invoke (.fn (.method n) #[]) (#[m.eval r]++args.map m.eval)) v
   simp only[invoke,w]
   refine Wp I λt u f H F e p=>k f ?_
   show Target.leads P v (.fn (.method n) #[]) (#[m.eval r]++args.map m.eval)=some f
   simp only[Target.leads,w,e,p]
 |_=>cases h
theorem am0 (j:P.globals.size=0) {l:List h_} (i:Tm P (·∈l)) (h:ac8 P l o=true):bn9 P (·∈l) true o:=by
 unfold ac8 at h;obtain h|h:=Bool.or_eq_true_iff.1 h
 .exact bI j i h
 .intro d v g e;obtain⟨b,op,type,pos,after,guard⟩:=o;simp only at h;unfold execOp;simp only;cases op<;>try cases h
  rename_i c _
  obtain⟨callee,args,a⟩:=c
  cases callee with
  |value f=>
   cases f with
   |func f=>exact Sem.Ar.here (show(pure (Next.defer ⟨.fn (.func f) #[],#[]++args.map d.eval⟩):Sem Next).Ar P (Fh (·∈l) true)from⟨rfl,f,#[],rfl,by simpa using h⟩) v
   |_=>cases h
  |_=>cases h
theorem bd6 (n:P.globals.size=0) {l:List h_} (h:(l.all λf=>match P.funcs[f]? with
  |some fn=>match fn.body with
   |some c=>c.Bv (opsOf P l f) && !(fn.name== "runtime.NumGoroutine") && (P.inits.idxOf? f).isNone
   |none=>false
  |none=>false)=true):Qj P (·∈l) (opsOf P l):=by
 have k:∀f∈l,∃fn c,P.funcs[f]?=some fn/\fn.body=some c/\c.Bv (opsOf P l f)=true/\(fn.name== "runtime.NumGoroutine")=false/\P.inits.idxOf? f=none:=λf b=>by
  have a:=List.all_eq_true.1 h f b
  cases e1:P.funcs[f]? with
  |none=>rw[e1]at a;cases a
  |some fn=>
   rw[e1]at a
   simp only at a
   cases e2:fn.body with
   |none=>rw[e2]at a;cases a
   |some c=>
    rw[e2]at a
    simp only[Bool.and_eq_true,Bool.not_eq_true',Option.isNone_iff_eq_none]at a
    exact⟨fn,c,rfl,e2,a.1.1,a.1.2,a.2⟩
 have m:Tm P (·∈l):=λf b=>by
  obtain⟨fn,c,a,e,i,g,j⟩:=k f b
  exact⟨fn,a,by rw[e];rfl,g⟩
 refine⟨λf o d=>?_,λf b=>?_,λf b=>?_⟩
 .unfold opsOf at d;cases hd:pY f with
  |false=>rw[hd]at d;exact bI n m d
  |true=>rw[hd]at d;exact am0 n m d
 .obtain⟨fn,c,a,e,i,g,j⟩:=k f b;exact⟨fn,c,a,g,e,i⟩
 .obtain⟨fn,c,a,e,i,g,j⟩:=k f b;exact j
end
end Go.Fxa
namespace Go.Fxa
open Go.Conc Go.Proofs
def LB:List h_:=[3,5,6,7,8,9,10,12,13,14,15,16,17,18,19,20,21,22,23,24,25,26,27,28,29,30,31,32,33,34,35,36,37,38,39,40,41,42,43,44,45,46,47,48,49,50,51,52,53,54,55,57,58,59,60,61,62,63,64,65,66,67,68,69,70,71,72,73,74,75,76,77,78,79,80,81,82,83,84,85,86,87,88,89,90,91,92,95,96,98,99,100,101,102,103,104,105,106,107,108,109,110,111,112,113,114,115,116,117,118,119,120,121,122,123,124,125,126,127,128,129,130,131,132,136,138,139,140,141,142,143,144,145,146,147,148,149,150,151,152,153,154,155,156,157,158,159,160,161,162,163,164,165,166,167,168,170,171,185,193,194,195,196,197,198,199,200,201,202,203,204,205,206,207,208,209,210,211,212,213,214,215,216,217,218,219,220,221,226,227,229,230,231,232,233,234,236,237,238,239,240,241,242,243,244,245,246,247,248,249,265,266,267,268,269,270,271,272,273,274,275,276,277,278,279,280,281]
def LF:List h_:=169::235::LB
theorem aq3:Qj prog (·∈LB) (opsOf prog LB):=bd6 sJ sJ
theorem ah2 {P:Program} {f:FuncId} {fn:Func} (a:P.funcs[f]?=some fn) (b:(fn.name== "runtime.NumGoroutine")=false) (c:fn.body.isNone=true) (d:Extern.findNext fn=none) (e:Extern.find fn=some (Extern.SlicesOverlaps.overlaps fn.params fn.resultTypes)):Ext P f:=⟨fn,_,_,a,b,c,d,e⟩
theorem bq7:Ext prog 169:=ah2 (fn:=(prog.funcs[169]?).getD default) sJ sJ sJ sJ sJ
theorem bq6:Ext prog 235:=ah2 (fn:=(prog.funcs[235]?).getD default) sJ sJ sJ sJ sJ
def NF:Fence:=Fence.list LF none
theorem PT:Vr prog (·∈LB) (opsOf prog LB) NF:=⟨aq3,rfl,rfl,rfl,λf h=>by
 obtain rfl|h:=r_.1 h
 .exact .inr bq7
 obtain rfl|h:=r_.1 h
 .exact .inr bq6
 .exact .inl h⟩
theorem Ja {P:l_} {f g:h_} (a:(P.funcs[f]?).any (·.norace)=false) (b:(P.funcs[g]?).any (·.norace)=false) (es:Array Event):seen P f es=seen P g es:=by
 unfold seen;simp[a,b]
theorem cj6:(prog.funcs[56]?).any (·.norace)=false:=sJ
theorem cj5:(prog.funcs[93]?).any (·.norace)=false:=sJ
theorem cj4:(prog.funcs[97]?).any (·.norace)=false:=sJ
theorem ca7:(prog.funcs[136]?).any (·.norace)=false:=sJ
theorem VS:(prog.funcs[185]?).any (·.norace)=false:=sJ
theorem ca6:(prog.funcs[187]?).any (·.norace)=false:=sJ
theorem ca4:(R2 prog).Bv (CE prog)=true:=sJ
theorem bz9:(R3 prog).Bv (CE prog)=true:=sJ
theorem bz8:(S0 prog).Bv (CE prog)=true:=sJ
theorem bz7:(S1 prog).Bv (CE prog)=true:=sJ
theorem bp7:(R10 prog).Bv (CE prog)=true:=sJ
theorem bp6:(R11 prog).Bv (CE prog)=true:=sJ
theorem bp4:(R15 prog).Bv (CE prog)=true:=sJ
theorem bp3:(R16 prog).Bv (CE prog)=true:=sJ
theorem ca5:(A0 prog).Bv (CE prog)=true:=sJ
theorem bp2:(R21 prog).Bv (CE prog)=true:=sJ
theorem az7:(WI prog).Bv (CE prog)=true:=sJ
theorem bp5:(R12 prog).Bv (CE prog)=true:=sJ
theorem ba0:(ZH prog).Bv (CE prog)=true:=sJ
theorem Us:Xy prog (·∈LB) (opsOf prog LB) NF 185 where
 fenced:=PT
 Qq:=⟨by show 185∈LF;decide,by show 185∈LB;decide,rfl⟩
 seen:=λf d b=>by
  obtain e|e|e|e|e:=d<;>rw[e]
  .exact Ja cj6 VS b
  .exact Ja cj5 VS b
  .exact Ja cj4 VS b
  .exact Ja ca7 VS b
  .exact Ja ca6 VS b
 ops:=λc a=>by
  show c.Bv (CE prog)=true
  obtain e|a:=r_.1 a
  .rw[e];exact ca4
  obtain e|a:=r_.1 a
  .rw[e];exact bz9
  obtain e|a:=r_.1 a
  .rw[e];exact bz8
  obtain e|a:=r_.1 a
  .rw[e];exact bz7
  obtain e|a:=r_.1 a
  .rw[e];exact bp7
  obtain e|a:=r_.1 a
  .rw[e];exact bp6
  obtain e|a:=r_.1 a
  .rw[e];exact bp4
  obtain e|a:=r_.1 a
  .rw[e];exact bp3
  obtain e|a:=r_.1 a
  .rw[e];exact ca5
  obtain e|a:=r_.1 a
  .rw[e];exact bp2
  obtain e|a:=r_.1 a
  .rw[e];exact az7
  obtain e|a:=r_.1 a
  .rw[e];exact ba0
  obtain e|a:=r_.1 a
  .rw[e];exact bp5
  cases a
end Go.Fxa
namespace Go.Fxa
open Go.Conc Go.Proofs Go.RowKit
set_option maxRecDepth 1000000
set_option maxHeartbeats 0
theorem Hm (v:o_) (o:Obj):Iy v (v.alloc o):=by
 have e:(v.alloc o).heap=v.heap.push o:=rfl;refine⟨by rw[e];simp,λx a=>?_,rfl,rfl⟩;rw[e,Array.getElem?_push,ru zD]
theorem lK {v w:o_} {τ:Nat->Question->Nat} {d:Nat} (h:Iy (v.re τ d) w):Iy v w:=h
theorem cd9:A0 prog=Code.region 0 #[{ dst:=some 3,op:=Op.box 206 (Operand.tmp 1),type:=0,pos:= "run.go:43",after:=#[],guard:=none }] false:=by kernel_rfl
theorem Ϥ (r:Nat) (a b c:n_) (v:o_) (g:Y_) (τ:Nat->Question->Nat) (d:Nat) (m:Nat):(A0 prog).wpIn NF m prog (Ends λe w'=>∃g' bB,e=TN 9 (A8 g' (aa0 r (.agg #[a,b,c]) bB))/\(Iy v w'/\bB=v.heap.size/\w'.heap.size=v.heap.size+1)/\Cells w' [(R_ bB),(S_ bB 1),(S_ bB 2)] [a,b,c]) ⟨TN 9 (A8 g [(0,pr r),(1,.agg #[a,b,c])]),[]⟩ (v.re τ d):=by
 rw[cd9];show Code.wpIn (Fence.list LF none) m prog _ _ ⟨#[pr r,.agg #[a,b,c],g 2,g 3,g 4,g 5,g 6,g 7,g 8],[]⟩ _;gi_wp2;refine⟨rfl,rfl,g,v.heap.size,rfl,⟨lK (Hm _ _),rfl,by show(v.heap.push _).size=_;simp⟩,?_,?_,?_,eu⟩ <;>
 .show World.cell? { v with heap:=v.heap.push (Obj.cells #[a,b,c] 206),tape:=τ,drawn:=d } _=_;simp[World.cell?]
theorem cc9:S0 prog=Code.region 0 #[{ dst:=some 2,op:=Op.box 202 (Operand.tmp 0),type:=0,pos:= "run.go:21",after:=#[],guard:=none },{ dst:=some 3,op:=Op.box 3 (Operand.tmp 1),type:=0,pos:= "run.go:21",after:=#[],guard:=none },{ dst:=some 4,op:=Op.assign (Operand.const (Value.pointer none)),type:=200,pos:= "run.go:21",after:=#[],guard:=none }] false:=by kernel_rfl
theorem oZ (sa:f_) (n:Int) (v:o_) (g:Y_) (τ:Nat->Question->Nat) (d:Nat) (m:Nat):(S0 prog).wpIn NF m prog (Ends λa w'=>∃g' b2 b3,a=TN 18 (A8 g' [(2,pr b2),(3,pr b3)])/\Iy v w'/\v.heap.size<=b2/\v.heap.size<=b3/\b2<w'.heap.size/\b3<w'.heap.size/\b2≠b3/\w'.cell? (R_ b2)=some (.pointer (some sa))/\w'.cell? (R_ b3)=some (b_ n)) ⟨TN 18 (A8 g [(0,.pointer (some sa)),(1,b_ n)]),[]⟩ (v.re τ d):=by
 rw[cc9];show Code.wpIn (Fence.list LF none) m prog _ _ ⟨#[.pointer (some sa),b_ n,g 2,g 3,g 4,g 5,g 6,g 7,g 8,g 9,g 10,g 11,g 12,g 13,g 14,g 15,g 16,g 17],[]⟩ _;gi_wp2;refine⟨rfl,rfl,A8 g [(0,.pointer (some sa)),(1,b_ n),(4,.pointer none)],v.heap.size,v.heap.size+1,rfl,(lK (Hm _ _)).trans (Hm _ _),w_ _,Nat.le_succ _,?_,?_,zD,?_,?_⟩
 .show v.heap.size<((v.heap.push _).push _).size;simp;omega
 .show v.heap.size+1<((v.heap.push _).push _).size;simp
 .show World.cell? { v with heap:=(v.heap.push (Obj.cells #[.pointer (some sa)] 202)).push _,tape:=τ,drawn:=d } _=_;simp[World.cell?,Array.getElem?_push]
 .show World.cell? { v with heap:=(v.heap.push (Obj.cells #[.pointer (some sa)] 202)).push (Obj.cells #[Value.int .i64 n] 3),tape:=τ,drawn:=d } _=_;simp only[World.cell?];rw[show((v.heap.push (Obj.cells #[.pointer (some sa)] 202)).push (Obj.cells #[Value.int .i64 n] 3))[v.heap.size+1]?=some (Obj.cells #[Value.int .i64 n] 3) by rw[Array.getElem?_push];simp]
  rfl
end Go.Fxa
namespace Go.Fxa
open Go.Conc Go.Proofs
variable {x b:Nat} {q:Nat->Nat} {l:Array Bool}
def dta (l:List Nat):Array Edge:=(l.map λn=>{ on:=n,ground:=Ground.data }).toArray
def RN (t d:Nat):Oper:={ dst:=some d,op:=Op.makeChan t (Operand.const (Value.int IntKind.i64 0)),type:=t,pos:= "run.go:22",after:=#[],guard:=none }
def Ve:Oper:={ dst:=some 10,op:=Op.build 257 #[(0,Operand.tmp 6),(1,Operand.tmp 7),(2,Operand.tmp 8),(3,Operand.tmp 9)],type:=257,pos:= "run.go:22",after:=dta [0,1,2,3],guard:=none }
def zT:Oper:={ dst:=some 11,op:=Op.box 257 (Operand.tmp 10),type:=200,pos:= "run.go:22",after:=dta [4],guard:=none }
def fC:Oper:={ dst:=some 5,op:=Op.alloc 200,type:=0,pos:= "run.go:22",after:=#[],guard:=none }
def Vd:Oper:={ dst:=none,op:=Op.store 200 (Operand.tmp 5) (Operand.tmp 11),type:=0,pos:= "run.go:22",after:=dta [6,5]++([0,1,2,3,4,5,6].map λn=>{ on:=n,ground:=Ground.phase }).toArray,guard:=none }
def Zy:Array Oper:=#[RN 244 6,RN 245 7,RN 246 8,RN 247 9,Ve,zT,fC,Vd]
theorem cc8:S1 prog=Code.region 1 Zy true:=sJ
def VU:Obj:=.chan 0 #[] false 0 0 false
def AG (q:Nat->Nat):X_:=#[DV (q 0),DV (q 1),DV (q 2),DV (q 3),.int .u64 0,.int .u32 0]
def sl (a:Act) (i:Nat):n_:=a.tmps.getD i undef
structure Made (v:o_) (b2 b3:Nat) (ls:Nat->Bool) (a:Act) (w:o_) (q:Nat->Nat) (b r:Nat):Prop where
 size:a.tmps.size=18
 defers:a.defers=[]
 t2:sl a 2=pr b2
 t3:sl a 3=pr b3
 Gw:Iy v w
 ch:∀k,k<4->ls k=true->sl a (6+k)=DV (q k)/\w.heap[q k]?=some VU/\v.heap.size<=q k
 ne:∀k k',k<4->k'<4->k≠k'->ls k=true->ls k'=true->q k≠q k'
 al:ls 6=true->sl a 5=pr b/\w.heap[b]?=some (N_ #[.pointer none] 200)/\v.heap.size<=b
 bd:ls 4=true->sl a 10=.agg (AG q)/\∀k,k<4->ls k=true
 bx:ls 5=true->sl a 11=pr r/\w.heap[r]?=some (N_ (AG q) 257)/\v.heap.size<=r/\ls 4=true
section
variable {v w:o_} {b2 b3:Nat} {ls:Nat->Bool} {a:Act} {q:Nat->Nat} {b r:Nat}
theorem eU (h:a.tmps.size=18) {d:Nat} (c:d<18) (x:n_) (i:Nat):sl (a.put (some d) x) i=if i=d then x else sl a i:=by
 unfold sl Act.put;simp only[g_,Array.getElem?_setIfInBounds];by_cases e:d=i
 .subst e;simp[h,c]
 .simp[e,ik e]
theorem Na {o:Obj} {c:Obj} (h:w.heap[x]?=some c):(w.alloc o).heap[x]?=some c:=by
 have:=(y_.1 h).1;exact((Hm w o).2.1 x this).trans h
theorem Rz (o:Obj):(w.alloc o).heap[w.heap.size]?=some o:=by
 show(w.heap.push o)[w.heap.size]?=some o;simp
def Zo (ls:Nat->Bool) (i:Nat) (j:Nat):Bool:=if j=i then true else ls j
theorem Made.chan (M:Made v b2 b3 ls a w q b r) {k:Nat} (t:k<4) (s:ls 4=false):Made v b2 b3 (Zo ls k) (a.put (some (6+k)) (DV w.heap.size)) (w.alloc VU) (λj=>if j=k then w.heap.size else q j) b r:=by
 have i:=eU M.size (d:=6+k) zD (DV w.heap.size);have o:∀j,j<4->ls j=true->q j<w.heap.size:=λj c h=>(y_.1 (M.ch j c h).2.1).1
 refine⟨by simp[Act.put,M.size],by simp[Act.put,M.defers],?_,?_,M.Gw.trans (Hm _ _),λj c n=>?_,λj m c g p h f=>?_,λh=>?_,λh=>?_,λh=>?_⟩
 .rw[i,ru zD];exact M.t2
 .rw[i,ru zD];exact M.t3
 .by_cases e:j=k
  .subst e;simp only[if_true];exact⟨by rw[i,rC rfl],Rz _,M.Gw.1⟩
  .simp only[Zo,ru e]at n ⊢;obtain⟨k1,k2,k3⟩:=M.ch j c n;exact⟨by rw[i,ru zD];exact k1,Na k2,k3⟩
 .simp only[Zo]at h f;by_cases e:j=k
  .by_cases l:m=k
   .omega
   .simp only[rC e,ru l]at f ⊢;have:=o m g f;omega
  .by_cases l:m=k
   .simp only[ru e,rC l]at h ⊢;have:=o j c h;omega
   .simp only[ru e,ru l]at h f ⊢;exact M.ne j m c g p h f
 .simp only[Zo,ru (show ¬(6=k) by omega)]at h;obtain⟨k1,k2,k3⟩:=M.al h;exact⟨by rw[i,ru zD];exact k1,Na k2,k3⟩
 .simp only[Zo,ru (show ¬(4=k) by omega),s]at h;cases h
 .simp only[Zo,ru (show ¬(5=k) by omega)]at h;have:=(M.bx h).2.2.2;rw[s]at this;cases this
theorem Made.alloc (M:Made v b2 b3 ls a w q b r):Made v b2 b3 (Zo ls 6) (a.put (some 5) (pr w.heap.size)) (w.alloc (.cells #[.pointer none] 200)) q w.heap.size r:=by
 have c:=eU M.size (d:=5) zD (pr w.heap.size);refine⟨by simp[Act.put,M.size],by simp[Act.put,M.defers],?_,?_,M.Gw.trans (Hm _ _),λj e i=>?_,λj l e f m h g=>?_,λh=>?_,λh=>?_,λh=>?_⟩
 .rw[c,ru zD];exact M.t2
 .rw[c,ru zD];exact M.t3
 .simp only[Zo,ru (show ¬(j=6) by omega)]at i;obtain⟨k1,k2,k3⟩:=M.ch j e i;exact⟨by rw[c,ru zD];exact k1,Na k2,k3⟩
 .simp only[Zo,ru (show ¬(j=6) by omega),ru (show ¬(l=6) by omega)]at h g;exact M.ne j l e f m h g
 .exact⟨by rw[c,rC rfl],Rz _,M.Gw.1⟩
 .obtain⟨k1,k2⟩:=M.bd h;exact⟨by rw[c,ru zD];exact k1,λk n=>by simp only[Zo,ru (show ¬(k=6) by omega)];exact k2 k n⟩
 .obtain⟨k1,k2,k3,o⟩:=M.bx h;exact⟨by rw[c,ru zD];exact k1,Na k2,k3,o⟩
theorem Made.build (M:Made v b2 b3 ls a w q b r) (o:∀k,k<4->ls k=true) (p:ls 5=false):Made v b2 b3 (Zo ls 4) (a.put (some 10) (.agg (AG q))) w q b r:=by
 have f:=eU M.size (d:=10) zD (.agg (AG q));refine⟨by simp[Act.put,M.size],by simp[Act.put,M.defers],?_,?_,M.Gw,λj c n=>?_,λj g c e i h m=>?_,λh=>?_,λh=>?_,λh=>?_⟩
 .rw[f,ru zD];exact M.t2
 .rw[f,ru zD];exact M.t3
 .obtain⟨k1,k2,k3⟩:=M.ch j c (o j c);exact⟨by rw[f,ru zD];exact k1,k2,k3⟩
 .exact M.ne j g c e i (o j c) (o g e)
 .obtain⟨k1,k2,k3⟩:=M.al h;exact⟨by rw[f,ru zD];exact k1,k2,k3⟩
 .exact⟨by rw[f,rC rfl],λk l=>by simp only[Zo,ru (show ¬(k=4) by omega)];exact o k l⟩
 .simp only[Zo,ru (show ¬(5=4) by omega),p]at h;cases h
theorem Made.box (M:Made v b2 b3 ls a w q b r) (o:ls 4=true):Made v b2 b3 (Zo ls 5) (a.put (some 11) (pr w.heap.size)) (w.alloc (.cells (AG q) 257)) q b w.heap.size:=by
 have c:=eU M.size (d:=11) zD (pr w.heap.size);refine⟨by simp[Act.put,M.size],by simp[Act.put,M.defers],?_,?_,M.Gw.trans (Hm _ _),λj e i=>?_,λj l e f m h g=>?_,λh=>?_,λh=>?_,λh=>?_⟩
 .rw[c,ru zD];exact M.t2
 .rw[c,ru zD];exact M.t3
 .simp only[Zo,ru (show ¬(j=5) by omega)]at i;obtain⟨k1,k2,k3⟩:=M.ch j e i;exact⟨by rw[c,ru zD];exact k1,Na k2,k3⟩
 .simp only[Zo,ru (show ¬(j=5) by omega),ru (show ¬(l=5) by omega)]at h g;exact M.ne j l e f m h g
 .obtain⟨k1,k2,k3⟩:=M.al h;exact⟨by rw[c,ru zD];exact k1,Na k2,k3⟩
 .obtain⟨k1,k2⟩:=M.bd h;exact⟨by rw[c,ru zD];exact k1,λk n=>by simp only[Zo,ru (show ¬(k=5) by omega)];exact k2 k n⟩
 .exact⟨by rw[c,rC rfl],Rz _,M.Gw.1,by simp only[Zo,ru (show ¬(4=5) by omega)];exact o⟩
end
/-! ### the operations -/
section
variable {n:Nat} {Q:Exit->Act->o_->Prop} {K:Act->o_->Prop} {a:Act} {w w':o_} {ops:Array Oper} {i:Nat} {o:Oper} {x:n_}
theorem OH (d:ops[i]?=some o) (c:o.guard=none) (e:o.about prog w a.eval=none) (g:(execOp a.eval o).run prog w=.ok (.value x) w') (h:K (a.put o.dst x) w'):wpOpIn NF n prog ops Q i K a w:=by
 unfold wpOpIn;simp only[d];rw[rC (by simp[Region.wanted,c])];refine⟨λf b=>(by rw[e]at b;cases b),?_⟩;show Oper.uponIn NF n prog o a K Q ((execOp a.eval o).run prog w);rw[g];exact h
theorem az6 (d:ops[i]?=some o) (c:o.guard=none) (e:o.about prog w a.eval=none) (g:(execOp a.eval o).run prog w=.ok .skip w') (h:K (a.put o.dst undef) w'):wpOpIn NF n prog ops Q i K a w:=by
 unfold wpOpIn;simp only[d];rw[rC (by simp[Region.wanted,c])];refine⟨λf b=>(by rw[e]at b;cases b),?_⟩;show Oper.uponIn NF n prog o a K Q ((execOp a.eval o).run prog w);rw[g];exact h
theorem ay5:(execOp a.eval (RN 244 6)).run prog w=.ok (.value (DV w.heap.size)) (w.alloc VU):=sJ
theorem ay4:(execOp a.eval (RN 245 7)).run prog w=.ok (.value (DV w.heap.size)) (w.alloc VU):=sJ
theorem ay3:(execOp a.eval (RN 246 8)).run prog w=.ok (.value (DV w.heap.size)) (w.alloc VU):=sJ
theorem ay2:(execOp a.eval (RN 247 9)).run prog w=.ok (.value (DV w.heap.size)) (w.alloc VU):=sJ
theorem γ:(execOp a.eval fC).run prog w=.ok (.value (pr w.heap.size)) (w.alloc (.cells #[.pointer none] 200)):=sJ
theorem uM:((Instr.build 257 #[(0,DV (q 0)),(1,DV (q 1)),(2,DV (q 2)),(3,DV (q 3))])>>= λx=>pure (Next.value x):Sem Next).run prog w=.ok (.value (.agg (AG q))) w:=sJ
theorem run_build (h:∀k,k<4->sl a (6+k)=DV (q k)):(execOp a.eval Ve).run prog w=.ok (.value (.agg (AG q))) w:=by
 have b:a.eval (.tmp 6)=DV (q 0):=h 0 zD;have c:a.eval (.tmp 7)=DV (q 1):=h 1 zD;have d:a.eval (.tmp 8)=DV (q 2):=h 2 zD;have f:a.eval (.tmp 9)=DV (q 3):=h 3 zD;have e:execOp a.eval Ve=((Instr.build 257 #[(0,a.eval (.tmp 6)),(1,a.eval (.tmp 7)),(2,a.eval (.tmp 8)),(3,a.eval (.tmp 9))])>>= λx=>pure (Next.value x)):=sJ
 rw[e,b,c,d,f];exact uM
theorem ak4:(Instr.box 257 (.agg (AG q))>>= λx=>pure (Next.value x):Sem Next).run prog w=.ok (.value (pr w.heap.size)) (w.alloc (.cells (AG q) 257)):=sJ
theorem ay6 (h:sl a 10=.agg (AG q)):(execOp a.eval zT).run prog w=.ok (.value (pr w.heap.size)) (w.alloc (.cells (AG q) 257)):=by
 have e:execOp a.eval zT=(Instr.box 257 (sl a 10)>>= λx=>pure (Next.value x)):=rfl;rw[e,h];exact ak4
theorem run_store {r:Nat} (j:sl a 5=pr b) (f:sl a 11=pr r) (g:w.heap[b]?=some (N_ #[.pointer none] 200)):(execOp a.eval Vd).run prog w=.ok .skip (w.setCell (R_ b) (pr r)):=by
 have e:execOp a.eval Vd=(Instr.storeAt 200 (sl a 5) (sl a 11)>>= λ_=>pure Next.skip):=rfl;rw[e,j,f];have c:w.cell? (R_ b)=some (.pointer none):=by simp[World.cell?,g]
 have d:w.frozen? (R_ b)=false:=by simp[World.frozen?,g]
 have e2:(Instr.storeAt 200 (pr b) (pr r)>>= λ_=>pure Next.skip:Sem Next).run prog w=(Sem.store .plain (R_ b) (pr r) (.pure Next.skip)).run prog w:=sJ
 rw[e2];have e3:(Sem.store .plain (R_ b) (pr r) (.pure Next.skip)).run prog w=(match w.cell? (R_ b)with
  |some _=>if w.frozen? ⟨b,0,none⟩then .halt (.unsupported (.unsafePointer "a write to bytes that a string shares")) w else .ok .skip (w.setCell ⟨b,0,none⟩ (pr r))
  |none=>match w.farStore prog (R_ b) (pr r) false with
   |.ok (w,_)=>.ok .skip w
   |.error h=>.halt h w):=rfl;rw[e3,c,d]
 rfl
/-! ### whichever comes next -/
theorem ak9 {i:Nat} (h:i∈Region.ready .any Zy l):i<8/\l.getD i true=false/\(i=4->∀k,k<4->l.getD k false=true)/\(i=5->l.getD 4 false=true)/\(i=7->∀k,k<7->l.getD k false=true):=by
 simp only[Region.ready,List.mem_filter,List.mem_range,Bool.and_eq_true,Bool.not_eq_true']at h;obtain⟨d,f,a⟩:=h;have b:i<8:=d;refine⟨b,f,λe=>?_,λe=>?_,λe=>?_⟩
 .subst e;simp[Zy,Ve,dta,Region.binds]at a;intro k c
  match k,c with
  |0,_=>simp[a]
  |1,_=>simp[a]
  |2,_=>simp[a]
  |3,_=>simp[a]
 .subst e;simp[Zy,zT,dta,Region.binds]at a;simp[a]
 .subst e;simp[Zy,Vd,dta,Region.binds]at a;intro k c
  match k,c with
  |0,_=>simp[a]
  |1,_=>simp[a]
  |2,_=>simp[a]
  |3,_=>simp[a]
  |4,_=>simp[a]
  |5,_=>simp[a]
  |6,_=>simp[a]
theorem uQ (h:∀k,k<8->l.getD k true=true):Region.ready .any Zy l=[]:=by
 refine List.filter_eq_nil_iff.2 λi a=>?_
 have:=h i (List.mem_range.1 a);rw[this];simp
theorem nK (y:l.size=8) (h:Region.ready .any Zy l=[]):∀k,k<8->l.getD k true=true:=by
 have a:∀i,i<8->((Zy[i]?).map (·.after.all λe=>!Region.binds .any e || l.getD e.on false)).getD false=true->l.getD i false=true:=λi n q=>by
  cases hc:l.getD i true with
  |true=>simpa [Array.getD,y,n]using hc
  |false=>
   have:i∈Region.ready .any Zy l:=List.mem_filter.2 ⟨List.mem_range.2 n,by rw[hc,q];rfl⟩
   rw[h]at this
   cases this
 have b:=a 0 zD (by simp[Zy,RN]);have r:l[0]'zD=true:=by simpa [Array.getD,y]using b
 have c:=a 1 zD (by simp[Zy,RN]);have q1:l[1]'zD=true:=by simpa [Array.getD,y]using c
 have d:=a 2 zD (by simp[Zy,RN]);have s:l[2]'zD=true:=by simpa [Array.getD,y]using d
 have f:=a 3 zD (by simp[Zy,RN]);have t:l[3]'zD=true:=by simpa [Array.getD,y]using f
 have m:=a 6 zD (by simp[Zy,fC]);have w:l[6]'zD=true:=by simpa [Array.getD,y]using m
 have g:=a 4 zD (by
  simp only[Zy,Ve,dta]
  simp only[List.map_cons,List.map_nil]
  simp[Region.binds, *]);have u:l[4]'zD=true:=by simpa [Array.getD,y]using g
 have j:=a 5 zD (by
  simp only[Zy,zT,dta]
  simp only[List.map_cons,List.map_nil]
  simp[Region.binds, *]);have v:l[5]'zD=true:=by simpa [Array.getD,y]using j
 have p:=a 7 zD (by
  simp only[Zy,Vd,dta]
  simp only[List.map_cons,List.map_nil]
  simp[Region.binds, *]);intro k o;have:l.getD k false=true:=by
  match k,o with
  |0,_=>exact b
  |1,_=>exact c
  |2,_=>exact d
  |3,_=>exact f
  |4,_=>exact g
  |5,_=>exact j
  |6,_=>exact m
  |7,_=>exact p
 simpa [Array.getD,y,o]using this
theorem ag4 (d:l.size=8) {i:Nat} (c:i<8):(λj=>(l.setIfInBounds i true).getD j false)=Zo (λj=>l.getD j false) i:=by
 funext j;unfold Zo;simp only[g_,Array.getElem?_setIfInBounds];by_cases e:i=j
 .subst e;simp[d,c]
 .simp[e,ik e]
theorem count_set {i:Nat} (h:l.getD i true=false):(l.setIfInBounds i true).toList.count true=l.toList.count true+1:=by
 have a:i<l.size:=by
  by_cases a:i<l.size
  .exact a
  .simp[Array.getD,a]at h
 have b:l[i]=false:=by simpa [Array.getD,a]using h
 rw[Array.setIfInBounds,dif_pos a];simp only[Array.toList_set];rw[List.count_set (by simpa using a)];simp[b]
theorem lF {v:o_} {b2 b3:Nat} (U:∀a w q b r,Made v b2 b3 (fun _=>true) a w q b r->Q .normal a (w.setCell (R_ b) (pr r))):∀(T:Nat) (l:Array Bool) (a:Act) (w:o_) (q:Nat->Nat) (b r:Nat),l.size=8->l.getD 7 true=false->l.toList.count true+T=8->
  Made v b2 b3 (λi=>l.getD i false) a w q b r->wpAnyIn NF n prog .any Zy Q T l a w
 |0,l,a,w,q,b,r,s,B,R,M=>by
  exfalso
  have:∀x∈l.toList,true=x:=by
   apply List.count_eq_length.1
   rw[Array.length_toList]
   omega
  have I:l.toList[7]?=some false:=by
   simpa [Array.getD,s]using B
  have:=this false (t_ I)
  cases this
 |T+1,l,a,w,q,b,r,s,B,R,M=>by
  refine⟨λS=>?_,λi C=>?_⟩
  .have:=nK s S 7 zD;rw[B]at this;cases this
  .obtain⟨t,g,d4,A,H⟩:=ak9 C;have c:l.getD i false=false:=(by simpa [Array.getD,s,t]using g);have next:∀(z:Act) (D:o_) (J:Nat->Nat) (G K:Nat),i≠7->Made v b2 b3 (Zo (λj=>l.getD j false) i) z D J G K->wpAnyIn NF n prog .any Zy Q T (l.setIfInBounds i true) z D:=λz D J G K E F=>by
    refine lF U T _ z D J G K (by simp[s]) ?_ (by rw[count_set g];omega) (by rw[ag4 s t];exact F)
    simp only[g_,z_ E]
    simpa [g_]using B
   have p:i<4->l.getD 4 false=false:=λh=>by
    cases e:l.getD 4 false with
    |false=>rfl
    |true=>have:=(M.bd e).2 i h;rw[c]at this;cases this
   match i,t,g,c,d4,A,H,next,p with
   |0,_,g,c,_,_,_,next,p=>exact OH (o:=RN 244 6) rfl rfl rfl ay5 (next _ _ _ _ _ zD (M.chan (k:=0) zD (p zD)))
   |1,_,g,c,_,_,_,next,p=>exact OH (o:=RN 245 7) rfl rfl rfl ay4 (next _ _ _ _ _ zD (M.chan (k:=1) zD (p zD)))
   |2,_,g,c,_,_,_,next,p=>exact OH (o:=RN 246 8) rfl rfl rfl ay3 (next _ _ _ _ _ zD (M.chan (k:=2) zD (p zD)))
   |3,_,g,c,_,_,_,next,p=>exact OH (o:=RN 247 9) rfl rfl rfl ay2 (next _ _ _ _ _ zD (M.chan (k:=3) zD (p zD)))
   |4,_,g,c,d4,_,_,next,_=>
    have P:l.getD 5 false=false:=by
     cases e:l.getD 5 false with
     |false=>rfl
     |true=>have:=(M.bx e).2.2.2;rw[c]at this;cases this
    exact OH (o:=Ve) rfl rfl rfl (run_build λk u=>(M.ch k u (d4 rfl k u)).1) (next _ _ _ _ _ zD (M.build (d4 rfl) P))
   |5,_,g,c,_,A,_,next,_=>exact OH (o:=zT) rfl rfl rfl (ay6 (M.bd (A rfl)).1) (next _ _ _ _ _ zD (M.box (A rfl)))
   |6,_,g,c,_,_,_,next,_=>exact OH (o:=fC) rfl rfl rfl γ (next _ _ _ _ _ zD M.alloc)
   |7,_,g,c,_,_,H,_,_=>
    have m:=H rfl
    have F:Made v b2 b3 (λ_=>true) a w q b r:=⟨M.size,M.defers,M.t2,M.t3,M.Gw,λk u _=>M.ch k u (m k zD),λk O u y E _ _=>M.ne k O u y E (m k zD) (m O zD),λ_=>M.al (m 6 zD),λ_=>⟨(M.bd (m 4 zD)).1,λ_ _=>rfl⟩,λ_=>let h:=M.bx (m 5 zD);⟨h.1,h.2.1,h.2.2.1,rfl⟩⟩
    have N:=U a w q b r F
    refine az6 (o:=Vd) rfl rfl rfl (run_store (M.al (m 6 zD)).1 (M.bx (m 5 zD)).1 (M.al (m 6 zD)).2.1) ?_
    have d:Region.ready .any Zy (l.setIfInBounds 7 true)=[]:=uQ λk u=>by
     have:=congrFun (ag4 s (i:=7) zD) k
     simp only[Zo]at this
     have L:(l.setIfInBounds 7 true).getD k false=true:=by
      rw[this]
      by_cases e:k=7
      .simp[e]
      .rw[ru e];exact m k zD
     have y:k<(l.setIfInBounds 7 true).size:=(by simp[s];omega);simp only[Array.getD,dif_pos y]at L ⊢;exact L
    cases T with
    |zero=>exact⟨d,N⟩
    |succ f=>exact⟨λ_=>N,λi C=>by rw[d]at C;cases C⟩
end
theorem JR {w:o_} {u:n_} (h:b≠x):(w.setCell (R_ b) u).heap[x]?=w.heap[x]?:=by
 simp[World.setCell,jJ,h]
theorem ou (b2 b3:Nat) (v:o_) (g:Y_) (τ:Nat->Question->Nat) (d:Nat) (m:Nat):(S1 prog).wpIn NF m prog (Ends λS w'=>∃g' O r P q1 Q R,S=TN 18 (A8 g' (zQ b2 b3 O))/\Iy v w'/\(∀x∈[O,r,P,q1,Q,R],v.heap.size<=x)/\[O,r,P,q1,Q,R].Nodup/\BA r #[DV P,DV q1,DV Q,DV R] 257 w' 0 0/\w'.cell? (R_ O)=some (pr r)/\∀q∈[P,q1,Q,R],w'.heap[q]?=some (.chan 0 #[] false 0 0 false)) ⟨TN 18 (A8 g [(2,pr b2),(3,pr b3)]),[]⟩ (v.re τ d):=by
 rw[cc8];refine wpIn_region_any sJ (lF (v:=v) (b2:=b2) (b3:=b3) (λa w q b r M=>?_) 8 _ _ _ (λ_=>0) 0 0 rfl rfl rfl ?_)
 .obtain⟨E,j,F⟩:=M.al rfl;obtain⟨N,C,J,_⟩:=M.bx rfl;have l:=M.ch 0 zD rfl;have n:=M.ch 1 zD rfl;have c2:=M.ch 2 zD rfl;have c3:=M.ch 3 zD rfl;have f:∀x,w.heap[x]?=some VU->b≠x:=λx c e=>by subst e;rw[j]at c;cases c
  have s:∀x,w.heap[x]?=some VU->r≠x:=λx c e=>by subst e;rw[C]at c;cases c
  have o:b≠r:=λe=>by
   rw[e,C]at j
   injection j with j
   injection j with _ e2 _
   cases e2
  have K:b<w.heap.size:=(y_.1 j).1;have I:Iy v (w.setCell (R_ b) (pr r)):=by
   refine⟨by simpa [World.setCell]using M.Gw.1,λx c=>?_,M.Gw.2.2.1,M.Gw.2.2.2⟩
   rw[JR zD]
   exact M.Gw.2.1 x c
  have G:=M.defers;refine⟨rfl,G,λi=>a.tmps.getD i undef,b,r,q 0,q 1,q 2,q 3,?_,I,?_,?_,?_,?_,?_⟩
  .rw[show A8 (λi=>a.tmps.getD i undef) (zQ b2 b3 b)=λi=>a.tmps.getD i undef from NH λp D=>by
    simp only[zQ,r_,p_,or_false]at D
    obtain h|h|h:=D<;>subst h
    .exact M.t2
    .exact M.t3
    .exact E]
   exact XX M.size
  .intro x c;simp only[r_,p_,or_false]at c;obtain h|h|h|h|h|h:=c<;>subst h
   .exact F
   .exact J
   .exact l.2.2
   .exact n.2.2
   .exact c2.2.2
   .exact c3.2.2
  .have t:=M.ne 0 1 zD zD zD rfl rfl;have u:=M.ne 0 2 zD zD zD rfl rfl;have y:=M.ne 0 3 zD zD zD rfl rfl;have z:=M.ne 1 2 zD zD zD rfl rfl;have A:=M.ne 1 3 zD zD zD rfl rfl;have B:=M.ne 2 3 zD zD zD rfl rfl;simp only[List.nodup_cons,r_,p_,or_false,not_or,List.nodup_nil,and_true,not_false_eq_true];exact⟨⟨o,f _ l.2.1,f _ n.2.1,f _ c2.2.1,f _ c3.2.1⟩,⟨s _ l.2.1,s _ n.2.1,s _ c2.2.1,s _ c3.2.1⟩,⟨t,u,y⟩,⟨z,A⟩,B⟩
  .unfold BA;rw[JR o];exact C
  .simp[World.cell?,World.setCell,jJ,j]
  .intro x c;simp only[r_,p_,or_false]at c;obtain h|h|h|h:=c<;>subst h
   .rw[JR (f _ l.2.1)];exact l.2.1
   .rw[JR (f _ n.2.1)];exact n.2.1
   .rw[JR (f _ c2.2.1)];exact c2.2.1
   .rw[JR (f _ c3.2.1)];exact c3.2.1
 .have H:∀i,(Array.replicate Zy.size false).getD i false=false:=λi=>by
   simp[Array.getD]
  refine⟨by simp[TN],rfl,rfl,rfl,⟨w_ _,λ_ _=>rfl,rfl,rfl⟩,λk _ h=>?_,λk L _ _ _ h=>?_,λh=>?_,λh=>?_,λh=>?_⟩<;>(rw[H]at h;cases h)
theorem ω (m:Nat):aO prog NF m:=⟨λr a b c v g τ d=>Ϥ r a b c v g τ d m⟩
theorem uz (m:Nat):ai2 prog NF m:=⟨λc n v g τ d=>oZ c n v g τ d m,λa b v g τ d=>ou a b v g τ d m⟩
end Go.Fxa
namespace Go.Fxa
open Go.Conc Go.Proofs Go.RowKit
variable {p:f_} {k:Nat} {o:Obj} {w:o_} {cs:X_} {T:j_} {fz:Nat×Nat}
structure Ac (S:Nat->Prop) (w w':o_):Prop where
 os:w'.os=w.os
 output:w'.output=w.output
 size:w.heap.size<=w'.heap.size
 block:∀k,k<w.heap.size->¬S k->w'.heap[k]?=w.heap[k]?
def No:Nat->Prop:=λ_=>False
def At (b:Nat):Nat->Prop:=λk=>k=b
def ZA (b c:Nat):Nat->Prop:=λk=>k=b\/k=c
section
variable {S S':Nat->Prop} {a b c w w':o_}
theorem Ac.refl (S:Nat->Prop) (w:o_):Ac S w w:=⟨rfl,rfl,w_ _,λ_ _ _=>rfl⟩
theorem Ac.mono (h:Ac S a b) (f:∀k,k<a.heap.size->S k->S' k):Ac S' a b:=⟨h.os,h.output,h.size,λk c e=>h.block k c λd=>e (f k c d)⟩
theorem Ac.no (h:Ac No a b):Ac S a b:=h.mono λ_ _ c=>c.elim
theorem Ac.trans (h:Ac S a b) (k:Ac S' b c) (g:∀k,k<a.heap.size->S' k->S k):Ac S a c:=
 ⟨k.os.trans h.os,k.output.trans h.output,pV h.size k.size,λi d e=>(k.block i (Nat.lt_of_lt_of_le d h.size) λf=>e (g i d f)).trans (h.block i d e)⟩
theorem Ac.then (h:Ac S a b) (k:Ac S b c):Ac S a c:=h.trans k λ_ _ h=>h
theorem Ac.drew (h:Ac S a w):Ac S a w.drew:=⟨h.os,h.output,h.size,h.block⟩
theorem Ac.alloc (h:Ac S a w) (o:Obj):Ac S a (w.alloc o):=
 h.then ⟨rfl,rfl,zF,λk b _=>Below.heap_alloc _ _ _ b⟩
theorem Ac.setCell (h:Ac S a w) (u:n_) (d:p.block<a.heap.size->S p.block):Ac S a (w.setCell p u):=
 ⟨h.os,h.output,by simpa using h.size,λk b c=>(Below.heap_setCell _ _ _ _ λe=>c (by subst e;exact d b)).trans (h.block k b c)⟩
theorem Ac.cell (h:Ac S w w') (e:p.block<w.heap.size) (d:¬S p.block):w'.cell? p=w.cell? p:=World.cell?_of_block (w:=w) (h.block p.block e d)
theorem Ac.old (h:Ac S w w') (d:w.heap[k]?=some o) (e:¬S k):w'.heap[k]?=some o:=(h.block k (y_.1 d).1 e).trans d
end
theorem Dt (h:w.heap[k]?=some o):k<w.heap.size:=(y_.1 h).1
theorem Ah (h:w.heap[k]?=some (.cells cs T fz)) (i:Nat):w.cell? (S_ k i)=cs[i]?:=by simp[World.cell?,h]
theorem BQ (h:w.heap[k]?=some (N_ cs T)) (i:Nat):w.frozen? (S_ k i)=false:=by simp[World.frozen?,h]
theorem Ap {i:Nat} (h:w.heap[k]?=some (.cells cs T fz)) (u:n_):(w.setCell (S_ k i) u).heap[k]?=some (.cells (cs.setIfInBounds i u) T fz):=by
 simp[World.setCell,jJ,h]
theorem Hl (u:n_) (h:k≠p.block):(w.setCell p u).heap[k]?=w.heap[k]?:=Below.heap_setCell _ _ _ _ h
theorem Y7 (h:k=w.heap.size):(w.alloc o).heap[k]?=some o:=by subst h;exact Rz _
theorem heap_alloc_old (h:k<w.heap.size):(w.alloc o).heap[k]?=w.heap[k]?:=Below.heap_alloc _ _ _ h
theorem heap_drew:w.drew.heap[k]?=w.heap[k]?:=rfl
end Go.Fxa
namespace Go.Fxa
open Go.Conc Go.Proofs Go.RowKit
set_option maxRecDepth 1000000
set_option maxHeartbeats 0
@[simp] theorem lf:(14:h_)∈LF/\17∈LF/\18∈LF/\20∈LF/\22∈LF/\41∈LF/\42∈LF/\43∈LF/\44∈LF/\45∈LF/\46∈LF/\47∈LF/\48∈LF/\49∈LF/\50∈LF/\51∈LF/\52∈LF/\53∈LF/\54∈LF/\55∈LF/\57∈LF/\58∈LF/\59∈LF/\63∈LF/\87∈LF/\88∈LF/\89∈LF/\90∈LF/\91∈LF/\92∈LF/\96∈LF/\98∈LF/\100∈LF/\101∈LF/\102∈LF/\103∈LF/\104∈LF/\105∈LF/\106∈LF/\107∈LF/\122∈LF/\123∈LF/\124∈LF/\126∈LF/\127∈LF/\128∈LF/\129∈LF/\130∈LF/\131∈LF/\132∈LF/\138∈LF/\139∈LF/\140∈LF/\141∈LF/\142∈LF/\143∈LF/\144∈LF/\145∈LF/\148∈LF/\149∈LF/\150∈LF/\151∈LF/\152∈LF/\153∈LF/\156∈LF/\157∈LF/\158∈LF/\159∈LF/\160∈LF/\161∈LF/\171∈LF/\185∈LF/\193∈LF/\194∈LF/\195∈LF/\196∈LF/\198∈LF/\199∈LF/\200∈LF/\201∈LF/\202∈LF/\203∈LF/\204∈LF/\205∈LF/\206∈LF/\207∈LF/\208∈LF/\209∈LF/\210∈LF/\211∈LF/\212∈LF/\213∈LF/\226∈LF/\229∈LF/\230∈LF/\231∈LF/\232∈LF/\233∈LF/\234∈LF/\237∈LF/\238∈LF/\244∈LF/\245∈LF/\246∈LF/\248∈LF:=by(repeat' apply And.intro)<;>decide
@[simp] theorem cr1 (f:h_):NF.fn f=(f∈LF):=rfl
@[simp] theorem ce0:NF.round=none:=rfl
@[simp] theorem ce1:NF.depth=none:=rfl
@[simp] theorem ce2:NF.alive=true:=rfl
end Go.Fxa
