/- Comparisons; conversions; calls: tame. Guards, conversions, checks for nil, calls: tame; and which operations are fine. Which operations are fine: all that plain code of this program is made of. The plain functions of this program. The pieces are plain code of this program. The pieces that box and make. -/
import Derived.Test.YtmhplpfpcnjekaaGreatK13
import Derived.TacticsInMore
import Derived.RegionIn
import Derived.LoopIn
namespace Go.Fxa
open Go.Conc
def flatTy (P:Program):Nat→TypeId→Bool
 | 0,_=>false
 | d+1,t=>match P.underlying t with
  | some (.int _)=>match P.info? t with
   | some i=>match i.desc with
    | .named n _=>n != "sync.copyChecker"
    | _=>true
   | none=>true
  | some .bool=>true
  | some .string=>true
  | some (.struct fs)=>fs.all fun f=>flatTy P d f.type
  | _=>false
section
variable {P:Program}
theorem tame_forIn {α β:Type} {f:α→β→Sem (ForInStep β)}:∀{l:List α} {b:β},(∀a∈l,∀b,(f a b).Tame P fun _=>True)→(forIn l b f).Tame P fun _=>True
 | [],b,_=>aa5 trivial
 | a::l,b,h=>by
  rw[List.forIn_cons]
  refine aa1 (h a (List.mem_cons_self ..) b) fun s=>?_
  cases s with
  | done b'=>exact aa5 trivial
  | yield b'=>exact tame_forIn fun a ha b=>h a (List.mem_cons_of_mem _ ha) b
theorem tame_forInA {α β:Type} {f:α→β→Sem (ForInStep β)} {l:Array α} {b:β} (h:∀a∈l,∀b,(f a b).Tame P fun _=>True):(forIn l b f).Tame P fun _=>True:=by
 rw[←Array.forIn_toList]
 exact tame_forIn fun a ha b=>h a (Array.mem_toList_iff.1 ha) b
theorem flat_fields {d:Nat} {t:TypeId} {fs:Array Field} (h:flatTy P (d+1) t=true) (e:P.underlying t=some (.struct fs)):∀f∈fs,flatTy P d f.type=true:=by
 simp only[flatTy,e]at h
 intro f hf
 exact Array.all_eq_true'.1 h f hf
theorem tame_equalIn (hG:P.globals.size=0):∀(k d:Nat) (t:TypeId) (x y:Value),flatTy P k t=true→(Op.equalIn d t x y).Tame P fun _=>True
 | 0,d,t,x,y,h=>by cases h
 | k+1,0,t,x,y,h=>rfl
 | k+1,d+1,t,x,y,h=>by
  unfold Op.equalIn
  refine ah0 fun desc hd=>?_
  cases desc with
  | bool=>split<;>first|contradiction|exact aa5 trivial|exact aa7
  | string=>split<;>first|contradiction|exact aa5 trivial|exact aa7
  | int ik=>
   split<;>first
    | contradiction
    | exact aa5 trivial
    | exact aa7
    | exact rfl
    | exact ab1 (fun _=>aa5 trivial) fun _=>aa7
    | skip
   refine ad3 (fun z=>ad3 (fun z'=>ab8 (K:=fun _=>False) ?_) (ae4 ?_)) (ak3 fun z'=>ae4 ?_)
   all_goals
    refine ae9 ad6 fun q hq=>?_
    subst hq
    rw[if_neg (by simp[hG])]
    refine ae9 ak5 fun i hi=>?_
    simp only[flatTy,hd,hi]at h
    split
    ·rename_i e
     rw[e]at h
     simp at h
    ·rfl
  | struct fs=>
   have hfs:=flat_fields h hd
   split<;>first
    | contradiction
    | exact aa7
    | skip
   rename_i e
   injection e with e
   subst e
   refine aa1 (ab8 ad6) fun q=>?_
   extract_lets jp
   have hj:∀u,(jp u).Tame P fun _=>True:=fun u=>by
    refine aa1 (tame_forInA fun f hf b=>ab1 (fun _=>aa1 am1 fun _=>aa1 am1 fun _=>aa1 (tame_equalIn hG k d f.type _ _ (hfs f hf)) fun r=>ab1 (fun _=>aa5 trivial) fun _=>aa5 trivial) fun _=>aa5 trivial) fun s=>?_
    obtain⟨s1,_⟩:=s
    cases s1<;>exact aa5 trivial
   exact ab1 (fun _=>aa1 (ai9 (by simp)) fun u=>hj u) fun _=>hj ()
  | _=>(simp only[flatTy,hd]at h;cases h)
theorem tame_eqGuardIn:∀(k d:Nat) (t:TypeId) (x y:Value),flatTy P k t=true→(Op.eqGuardIn d t x y).Tame P fun _=>True
 | 0,d,t,x,y,h=>by cases h
 | k+1,0,t,x,y,h=>rfl
 | k+1,d+1,t,x,y,h=>by
  unfold Op.eqGuardIn
  refine ah0 fun desc hd=>?_
  cases desc with
  | struct fs=>
   have hfs:=flat_fields h hd
   split<;>first
    | contradiction
    | exact aa5 trivial
    | skip
   rename_i e
   injection e with e
   subst e
   refine aa1 (tame_forInA fun f hf b=>ab1 (fun _=>aa1 am1 fun _=>aa1 am1 fun _=>aa1 (tame_eqGuardIn k d f.type _ _ (hfs f hf)) fun r=>ab1 (fun _=>aa5 trivial) fun _=>aa5 trivial) fun _=>aa5 trivial) fun s=>?_
   obtain⟨s1,_⟩:=s
   cases s1<;>exact aa5 trivial
  | bool=>split<;>first|contradiction|exact aa5 trivial
  | string=>split<;>first|contradiction|exact aa5 trivial
  | int ik=>split<;>first|contradiction|exact aa5 trivial
  | _=>(simp only[flatTy,hd]at h;cases h)
def nilOp:Operand→Bool
 | .const (.pointer none)=>true
 | .const (.slice none _ _)=>true
 | .const .nilFunc=>true
 | _=>false
def nilVal:Value→Bool
 | .pointer none=>true
 | .slice none _ _=>true
 | .nilFunc=>true
 | _=>false
def nilTy (P:Program) (t:TypeId):Bool:=match P.underlying t with
 | some (.pointer _)=>true
 | some (.slice _)=>true
 | some (.func _ _ _)=>true
 | _=>false
theorem tame_equalNil {t:TypeId} {x y:Value} {d:Nat} (h:nilTy P t=true) (hn:nilVal x=true∨nilVal y=true):(Op.equalIn (d+1) t x y).Tame P fun _=>True:=by
 unfold Op.equalIn
 refine ah0 fun desc hd=>?_
 cases desc with
 | pointer e=>
  split<;>first
   | contradiction
   | exact aa5 trivial
   | exact aa7
   | (exfalso;rcases hn with hn|hn<;>cases hn;done)
 | slice e=>split<;>first|contradiction|exact aa5 trivial|exact aa7
 | func a b c=>split<;>first|contradiction|exact aa5 trivial|exact aa7
 | _=>(simp only[nilTy,hd]at h;cases h)
theorem nil_eval {x:Operand} (h:nilOp x=true) (fr:Frame):nilVal (fr.eval x)=true:=by
 unfold nilOp at h
 split at h<;>first|rfl|cases h
def eqFine (P:Program) (t:TypeId) (x y:Operand):Bool:=flatTy P 5 t || (nilTy P t && (nilOp x || nilOp y))
theorem tame_equal (hG:P.globals.size=0) {t:TypeId} {x y:Operand} {fr:Frame} (h:eqFine P t x y=true):(Op.equal t (fr.eval x) (fr.eval y)).Tame P fun _=>True:=by
 unfold eqFine at h
 simp only[Bool.or_eq_true,Bool.and_eq_true]at h
 rcases h with h|⟨h1,h2⟩
 ·exact tame_equalIn hG 5 _ _ _ _ h
 ·exact tame_equalNil (d:=9999) h1 (h2.imp (fun h=>nil_eval h fr) fun h=>nil_eval h fr)
theorem tame_binEq (hG:P.globals.size=0) {op:BinOp} (ho:op=.eql∨op=.neq) {t:TypeId} {x y:Operand} {fr:Frame} (h:eqFine P t x y=true):(binOp op t (fr.eval x) (fr.eval y)).Tame P fun _=>True:=by
 have he:=tame_equal hG (fr:=fr) h
 generalize fr.eval x=a at he ⊢
 generalize fr.eval y=b at he ⊢
 rcases ho with rfl|rfl
 ·unfold binOp
  split<;>first
   | contradiction
   | exact aa1 he fun _=>aa5 trivial
   | exact ab1 (fun _=>rfl) fun _=>tame_intCmp
   | exact ab1 (fun _=>rfl) fun _=>am8
   | exact ab1 (fun _=>rfl) fun _=>tame_complexOp
   | exact tame_stringOp
 ·unfold binOp
  split<;>first
   | contradiction
   | exact aa1 he fun _=>aa5 trivial
   | exact ab1 (fun _=>rfl) fun _=>tame_intCmp
   | exact ab1 (fun _=>rfl) fun _=>am8
   | exact ab1 (fun _=>rfl) fun _=>tame_complexOp
   | exact tame_stringOp
end
section
variable {P:Program}
theorem tame_eqGuard {op:BinOp} {t:TypeId} {x y:Operand} {fr:Frame} (h:(op=.eql∨op=.neq)→eqFine P t x y=true):(eqGuard op t x y (fr.eval x) (fr.eval y)).Tame P fun _=>True:=by
 unfold eqGuard
 by_cases ho:op=.eql∨op=.neq
 ·have h':=h ho
  unfold eqFine at h'
  simp only[Bool.or_eq_true,Bool.and_eq_true]at h'
  have e:(!(match op with | .eql=>true | .neq=>true|_=>false))=false:=by rcases ho with rfl|rfl<;>rfl
  refine ab1 (fun _=>aa5 trivial) fun _=>?_
  rcases h' with h' | ⟨_,hn⟩
  ·split
   ·exact ab1 (fun _=>aa5 trivial) fun _=>aa1 (tame_eqGuardIn 5 _ _ _ _ h') fun _=>ab1 (fun _=>ai9 (by simp)) fun _=>aa5 trivial
   ·exact aa1 (ab8 ad6) fun _=>aa1 (ab8 ad6) fun _=>ab1 (fun _=>aa5 trivial) fun _=>aa1 (tame_eqGuardIn 5 _ _ _ _ h') fun _=>ab1 (fun _=>ai9 (by simp)) fun _=>aa5 trivial
   ·exact aa5 trivial
  ·have hv:nilVal (fr.eval x)=true∨nilVal (fr.eval y)=true:=hn.imp (fun h=>nil_eval h fr) fun h=>nil_eval h fr
   generalize fr.eval x=a at hv ⊢
   generalize fr.eval y=b at hv ⊢
   split
   ·rcases hv with hv|hv<;>cases hv
   ·rcases hv with hv|hv<;>cases hv
   ·exact aa5 trivial
 ·refine ab1 (fun _=>aa5 trivial) fun hn=>?_
  exfalso
  apply ho
  cases op<;>first|exact .inl rfl|exact .inr rfl|(simp at hn;done)
def intTy (P:Program) (t:TypeId):Bool:=match P.underlying t with
 | some (.int _)=>true
 | _=>false
theorem tame_floatToInt {s:FloatKind} {b:Nat} {k:IntKind}:(Conv.floatToInt s b k).Tame P fun _=>True:=by
 unfold Conv.floatToInt
 split
 ·exact ab1 (fun _=>aa5 trivial) fun _=>aa1 ag6 fun _=>aa5 trivial
 ·exact aa1 ag6 fun _=>aa5 trivial
theorem tame_convert {a b:TypeId} (ha:intTy P a=true) (hb:intTy P b=true) {x:Value}:(convert a b x).Tame P fun _=>True:=by
 unfold convert
 refine ah0 fun d hd=>ah0 fun d' hd'=>?_
 unfold intTy at ha hb
 rw[hd]at ha
 rw[hd']at hb
 cases d<;>first|(cases ha;done)|skip
 cases d'<;>first|(cases hb;done)|skip
 split<;>first
  | contradiction
  | exact aa5 trivial
  | exact tame_floatToInt
  | exact rfl
theorem aj0:∀(l:List FieldStep) (t:TypeId) (x:Option Value),(followBlind l t x).Tame P fun _=>True
 | [],_,_=>aa5 trivial
 | s::l,t,x=>by
  unfold followBlind
  refine aa1 (ab8 ab0) fun d=>?_
  split
  ·split
   ·split
    ·exact aa5 trivial
    ·exact aj0 l _ _
    ·exact aa7
    ·exact aa5 trivial
    ·exact aa1 am1 fun _=>aj0 l _ _
    ·exact aa7
    ·exact aj0 l _ _
   ·exact aa7
  ·exact aa7
theorem tame_nilAhead:∀(n:Nat) (t:TypeId) (v:Value) (s:String),(nilAhead n t v s).Tame P fun _=>True
 | 0,_,_,_=>aa5 trivial
 | n+1,t,v,s=>by
  unfold nilAhead
  refine aa1 ae5 fun i=>?_
  split
  ·refine aa1 (aj0 _ _ _) fun r=>?_
   split
   ·exact aa5 trivial
   ·split
    ·exact tame_nilAhead n _ _ _
    ·exact aa5 trivial
    ·exact aa7
    ·exact aa5 trivial
    ·exact aa5 trivial
    ·refine aa1 (ab8 ab0) fun d=>?_
     split<;>exact aa5 trivial
  ·exact aa7
theorem an7:∀(l:List FieldStep) (t:TypeId) (x:Place),(follow l t x).Tame P fun _=>True
 | [],_,_=>aa5 trivial
 | s::l,t,x=>by
  unfold follow
  refine aa1 (ab8 ab0) fun d=>?_
  have hg:∀(t:TypeId) (x:Place),(x.get t).Tame P fun _=>True:=fun t x=>by
   cases x with
   | val v=>exact aa5 trivial
   | var a=>exact aj8
  split
  ·split
   ·refine ab1 (fun _=>aa1 (hg _ _) fun _=>aa1 ao0 fun _=>aa1 an9 fun _=>an7 l _ _) fun _=>?_
    split
    ·exact aa1 an9 fun _=>an7 l _ _
    ·exact aa1 am1 fun _=>an7 l _ _
    ·exact aa7
   ·exact aa7
  ·exact aa7
theorem tame_get {t:TypeId} {x:Place}:(x.get t).Tame P fun _=>True:=by
 cases x with
 | val v=>exact aa5 trivial
 | var a=>exact aj8
theorem tame_wrapNil {t:TypeId} {x a b:Value}:(Builtin.ssaWrapNilChk_ #[t] t #[x,a,b]).Tame P fun _=>True:=by
 cases a<;>first|exact rfl|skip
 cases b<;>first|exact rfl|skip
 cases x<;>first|exact rfl|skip
 rename_i o
 cases o with
 | some a=>exact trivial
 | none=>
  refine aa1 (e:=choose _) ag6 fun c=>?_
  extract_lets jp
  have hj:∀u,(jp u).Tame P fun _=>True:=fun u=>by
   dsimp -zeta only[jp]
   split
   ·refine aa1 (ab8 ab0) fun d=>?_
    split
    ·refine aa1 ae5 fun i=>?_
     split
     ·split
      ·extract_lets base targs
       split
       ·exact ab6
       ·exact rfl
      ·exact aa7
     ·exact aa7
    ·exact aa7
   ·exact aa7
  exact ab1 (fun _=>aa1 ab6 fun u=>hj u) fun _=>hj ()
theorem tame_receiverAt {t:TypeId} {x:Place} {b:Bool} {o:Option String}:(receiverAt t x b o).Tame P fun _=>True:=by
 unfold receiverAt
 refine aa1 (ab8 ab0) fun d=>?_
 split
 ·exact tame_get
 ·refine aa1 tame_get fun q=>?_
  split
  ·exact aa1 tame_wrapNil fun _=>aa1 ao0 fun _=>aj8
  ·exact aa1 (aa5 trivial) fun _=>aa1 ao0 fun _=>aj8
 ·exact aa5 trivial
 ·exact aa7
 ·exact tame_get
theorem tame_receiverVia {t:TypeId} {v:Value} {p:Array FieldStep} {b:Bool}:(receiverVia t v p b).Tame P fun _=>True:=aa1 (an7 _ _ _) fun _=>tame_receiverAt
theorem tame_method:∀(n:Nat) (t:TypeId) (v:Value) (s:String),(method n t v s).Tame P fun _=>True
 | 0,_,_,_=>rfl
 | n+1,t,v,s=>by
  unfold method
  refine aa1 ae5 fun i=>?_
  split
  ·refine aa1 (an7 _ _ _) fun r=>?_
   obtain⟨r1,r2⟩:=r
   dsimp only
   split
   ·refine aa1 tame_get fun q=>?_
    split
    ·exact tame_method n _ _ _
    ·exact ab6
    ·exact aa7
   ·exact aa1 tame_receiverAt fun _=>aa5 trivial
  ·exact aa7
/-! ### calls -/
def Bodied (P:Program) (L:FuncId→Prop):Prop:=∀f,L f→∃fn,P.funcs[f]?=some fn∧fn.body.isNone=false∧(fn.name== "runtime.NumGoroutine")=false
variable {L:FuncId→Prop}
theorem am9 (hB:Bodied P L) {f:FuncId} (hf:L f) {args:Array Value}:(callFunc f args).Tame P (NextOk L):=by
 obtain⟨fn,h1,h2,h3⟩:=hB f hf
 unfold callFunc
 refine ae9 ad6 fun q hq=>?_
 subst hq
 rw[h1]
 simp only[h2,h3,Bool.false_eq_true,if_false]
 exact hf
theorem tame_yield {l:Nat} {args:Array Value}:(Instr.yield l args).Tame P (NextOk L):=by
 unfold Instr.yield Instr.getLoop
 refine⟨fun o ho=>?_,fun w es a w' es' _ _ h=>?_⟩
 ·cases o<;>first|(cases ho;done)|exact rfl
 ·simp[Sem.bind,stuck,deadObj,Bind.bind]at h
theorem run_of_runT {α:Type} {e:Sem α} {w w':World} {es es':Array Event} {a:α} (h:e.runT P w es=(.ok a w',es')):e.run P w=.ok a w':=by
 have:=Sem.runT_eq P e w es
 rw[this]at h
 exact congrArg Prod.fst h
def methodOn (recv:Value) (name:String):Sem (FuncId×Value):=match recv with
 | .iface t u=>program>>= fun q=>method (q.types.size+Made.depth) t u name
 | .nilIface=>runtimePanic .nilDeref
 | _=>stuck "invoke: interface value expected"
theorem callMethod_eq (recv:Value) (name:String) (args:Array Value):callMethod recv name args=(methodOn recv name>>= fun x=>callFunc x.1 (#[x.2]++args)):=by
 cases recv<;>rfl
theorem tame_methodOn {recv:Value} {name:String}:(methodOn recv name).Tame P fun _=>True:=by
 unfold methodOn
 split
 ·exact aa1 (ab8 ad6) fun _=>tame_method _ _ _ _
 ·exact ab6
 ·exact aa7
theorem run_methodOn {recv:Value} {name:String} {v v1:World} {x:FuncId×Value} (h:(methodOn recv name).run P v=.ok x v1):∃t u,recv=.iface t u∧(method (P.types.size+Made.depth) t u name).run P v=.ok x v1:=by
 cases recv with
 | iface t u=>exact⟨t,u,rfl,h⟩
 | nilIface=>
  have:(runtimePanic .nilDeref:Sem (FuncId×Value)).run P v=.ok x v1:=h
  cases this
 | _=>cases (show(stuck "invoke: interface value expected":Sem (FuncId×Value)).run P v=.ok x v1 from h)
theorem method_here (hB:Bodied P L) {recv:Value} {name:String} {args:Array Value} {v:World} (hab:∀t u f r w',recv=.iface t u→(method (P.types.size+Made.depth) t u name).run P v=.ok (f,r) w'→L f):
  TameAt P (NextOk L) (callMethod recv name args) v:=by
 refine⟨FuncId×Value,methodOn recv name,fun x=>callFunc x.1 (#[x.2]++args),callMethod_eq _ _ _,tame_methodOn,fun x v1 es es1 h=>?_⟩
 obtain⟨t,u,e,hr⟩:=run_methodOn (run_of_runT h)
 exact am9 hB (hab t u x.1 x.2 v1 e hr)
theorem call_here (hB:Bodied P L) {f:Value} {args:Array Value} {v:World} (hab:∀d w',(Deferred.ofValue f args).run P v=.ok d w'→∀g,d.target.leads P w' d.args=some g→L g):
  TameAt P (NextOk L) (Deferred.ofValue f args>>= fun d=>invoke d.target d.args) v:=by
 cases f with
 | nilFunc=>exact Sem.Tame.here (show(invoke .nil args).Tame P (NextOk L) by simp only[invoke];exact ab6) v
 | func fn first cap=>
  have hab':=hab ⟨.fn fn cap,first++args⟩ v rfl
  show TameAt P (NextOk L) (invoke (.fn fn cap) (first++args)) v
  simp only at hab'
  generalize first++args=ar at hab' ⊢
  cases fn with
  | func g=>exact Sem.Tame.here (show(callFunc g (ar++cap)).Tame P (NextOk L)from am9 hB (hab' g rfl)) v
  | via t path g ptr=>
   refine Sem.Tame.here ?_ v
   simp only[invoke]
   cases ar[0]? with
   | none=>exact aa7
   | some x=>exact aa1 tame_receiverVia fun _=>am9 hB (hab' g rfl)
  | yield l=>exact Sem.Tame.here (show(Instr.yield l ar).Tame P (NextOk L)from tame_yield) v
  | method name=>
   simp only[invoke]
   cases h0:ar[0]? with
   | none=>exact Sem.Tame.here aa7 v
   | some x=>
    refine method_here hB fun t u f r w' e hr=>hab' f ?_
    subst e
    simp only[Target.leads,h0,hr]
  | methodOf t name=>
   simp only[invoke]
   cases h0:ar[0]? with
   | none=>exact Sem.Tame.here aa7 v
   | some x=>
    have e:(underlying t>>= fun d=>callMethod (match d with | .interface _=>x|_=>.iface t x) name (ar.extract 1 ar.size))=((underlying t>>= fun d=>methodOn (match d with | .interface _=>x|_=>.iface t x) name)>>= fun y=>callFunc y.1 (#[y.2]++ar.extract 1 ar.size)):=by
     rw[bind_assoc]
     congr 1
     funext d
     exact callMethod_eq _ _ _
    refine⟨FuncId×Value,underlying t>>= fun d=>methodOn (match d with | .interface _=>x|_=>.iface t x) name,fun y=>callFunc y.1 (#[y.2]++ar.extract 1 ar.size),e,aa1 (ab8 ab0) fun _=>tame_methodOn,fun y v1 es es1 h=>?_⟩
    have hr:=run_of_runT h
    have hr':(match P.underlying t with
     | some d=>methodOn (match d with | .interface _=>x|_=>.iface t x) name
     | none=>stuck "":Sem (FuncId×Value)).run P v=.ok y v1:=by
     cases hu:P.underlying t with
     | none=>simp[underlying,hu]at hr
     | some d=>simpa [underlying,hu]using hr
    cases hu:P.underlying t with
    | none=>rw[hu]at hr';cases hr'
    | some d=>
     rw[hu]at hr'
     obtain⟨t',u',e',hm⟩:=run_methodOn hr'
     refine am9 hB (hab' y.1 ?_)
     simp only[Target.leads,h0,hu,Option.map_some]
     cases d<;>(simp only at e' ⊢;first
      | (injection e' with e1 e2;subst e1 e2;simp only[hm];done)
      | (subst e';simp only[hm];done))
 | _=>exact Sem.Tame.here (dead_bind (e:=(stuck _:Sem Deferred)) dead_stuck) v
end
def ac5 (P:Program) (o:Oper):Bool:=match o.op with
 | .move _ | .assign _ | .pick _ _ _ | .alloc _ | .box _ _ | .build _ _ | .buildSlice _ _ _ | .load _ _ | .store _ _ _ | .nilCheck _=>true
 | .unOp _ _ _ | .makeInterface _ _ | .makeFunc _ _ _ | .makeChan _ _ | .makeSlice _ _ _ | .slice _ _ _ _ _ | .fieldAddr _ _ _ | .field _ _ _ | .indexAddr _ _ _ | .index _ _ _ | .extract _ _ | .panic _=>true
 | .binOp op t x y _=>match op with
  | .eql=>eqFine P t x y
  | .neq=>eqFine P t x y
  | _=>true
 | .convert a b _=>intTy P a && intTy P b
 | .call c=>match c.callee with
  | .builtin b=>match b with
   | .append | .cap | .clear | .copy | .len=>true
   | _=>false
  | .value _=>true
  | .invoke _ _=>false
 | _=>false
section
variable {P:Program} {L:FuncId→Prop}
theorem tame_makeChan {t:TypeId} {s:Value}:(Instr.makeChan t s).Tame P fun _=>True:=by
 unfold Instr.makeChan
 refine aa1 tame_asInt fun n=>aa1 (ab8 ab0) fun d=>?_
 split
 ·refine aa1 ae5 fun i=>?_
  exact ab1 (fun _=>aa1 ab6 fun _=>aa1 (tame_newObj rfl) fun _=>aa5 trivial) fun _=>aa1 (tame_newObj rfl) fun _=>aa5 trivial
 ·exact aa7
theorem ai0 {s:Sem Value} (h:s.Tame P fun _=>True):(s>>= fun x=>pure (Next.value x):Sem Next).Tame P (NextOk L):=aa1 h fun _=>aa5 trivial
theorem unit_ok {s:Sem Unit} (h:s.Tame P fun _=>True):(s>>= fun _=>pure Next.skip:Sem Next).Tame P (NextOk L):=aa1 h fun _=>aa5 trivial
theorem opFine_ok (hG:P.globals.size=0) (hB:Bodied P L) {o:Oper} (h:ac5 P o=true):OpOk P L o:=by
 intro fr v hp hab
 obtain⟨dst,op,type,pos,after,guard⟩:=o
 unfold ac5 at h
 simp only at h
 unfold execOp
 simp only
 cases op with
 | move x=>exact Sem.Tame.here (aa5 trivial) v
 | assign x=>exact Sem.Tame.here (aa5 trivial) v
 | pick c a b=>exact Sem.Tame.here (aa1 tame_asBool fun _=>aa5 trivial) v
 | alloc e=>exact Sem.Tame.here (ai0 tame_alloc) v
 | box e x=>exact Sem.Tame.here (ai0 tame_box) v
 | build t ps=>exact Sem.Tame.here (ai0 tame_build) v
 | buildSlice t n ps=>exact Sem.Tame.here (ai0 tame_buildSlice) v
 | load t a=>exact Sem.Tame.here (ai0 tame_loadAt) v
 | store t a x=>exact Sem.Tame.here (unit_ok tame_storeAt) v
 | nilCheck x=>
  refine Sem.Tame.here ?_ v
  dsimp only
  split<;>first
   | exact ab6
   | exact aa5 trivial
   | skip
  split<;>first
   | exact ab6
   | exact aa5 trivial
   | skip
  refine aa1 (ab8 ad6) fun q=>aa1 (tame_nilAhead _ _ _ _) fun r=>?_
  exact ab1 (fun _=>aa1 (ai9 (by simp)) fun _=>aa5 trivial) fun _=>aa5 trivial
 | unOp op t x=>exact Sem.Tame.here (ai0 tame_unary) v
 | makeInterface t x=>exact Sem.Tame.here (ai0 tame_makeInterface) v
 | makeFunc f a b=>exact Sem.Tame.here (ai0 tame_makeFunc) v
 | makeChan t s=>exact Sem.Tame.here (ai0 tame_makeChan) v
 | makeSlice t a b=>exact Sem.Tame.here (ai0 tame_makeSlice) v
 | slice t x a b c=>exact Sem.Tame.here (ai0 tame_sliceAt) v
 | fieldAddr t x f=>exact Sem.Tame.here (ai0 tame_fieldAt) v
 | field t x f=>exact Sem.Tame.here (ai0 tame_field) v
 | indexAddr t x i=>exact Sem.Tame.here (ai0 tame_indexAt) v
 | index t x i=>exact Sem.Tame.here (ai0 tame_index) v
 | extract x i=>exact Sem.Tame.here (ai0 tame_extract) v
 | panic x=>exact Sem.Tame.here (ai0 tame_panic) v
 | convert a b x=>
  simp only[Bool.and_eq_true]at h
  exact Sem.Tame.here (ai0 (tame_convert h.1 h.2)) v
 | binOp op t x y z=>
  have hq:(op=.eql∨op=.neq)→eqFine P t x y=true:=fun ho=>by rcases ho with rfl|rfl<;>exact h
  refine Sem.Tame.here (ai0 (aa1 (tame_eqGuard hq) fun _=>?_)) v
  by_cases ho:op=.eql∨op=.neq
  ·exact tame_binEq hG ho (hq ho)
  ·exact tame_binOp hG (fun e=>ho (.inl e)) fun e=>ho (.inr e)
 | call c=>
  obtain⟨callee,args,ats⟩:=c
  cases callee with
  | builtin b=>
   refine Sem.Tame.here ?_ v
   cases b<;>first
    | (cases h;done)
    | exact ai0 tame_append
    | exact ai0 tame_cap
    | exact ai0 tame_clear
    | exact ai0 tame_copy
    | exact ai0 tame_len
  | value f=>
   refine call_here hB fun d w' hr g hg=>hab g ?_
   simp only[Oper.about,resolve,hr]
   exact hg
  | invoke r n=>cases h
 | _=>cases h
theorem fine_of (hG:P.globals.size=0) {l:List FuncId} (h:(l.all fun f=>match P.funcs[f]? with
  | some fn=>match fn.body with
   | some c=>c.allOps (ac5 P) && !(fn.name== "runtime.NumGoroutine") && (P.inits.idxOf? f).isNone
   | none=>false
  | none=>false)=true):Fine P (·∈l) (ac5 P):=by
 have hx:∀f∈l,∃fn c,P.funcs[f]?=some fn∧fn.body=some c∧c.allOps (ac5 P)=true∧(fn.name== "runtime.NumGoroutine")=false∧P.inits.idxOf? f=none:=fun f hf=>by
  have h1:=List.all_eq_true.1 h f hf
  cases e1:P.funcs[f]? with
  | none=>rw[e1]at h1;cases h1
  | some fn=>
   rw[e1]at h1
   simp only at h1
   cases e2:fn.body with
   | none=>rw[e2]at h1;cases h1
   | some c=>
    rw[e2]at h1
    simp only[Bool.and_eq_true,Bool.not_eq_true',Option.isNone_iff_eq_none]at h1
    exact⟨fn,c,rfl,e2,h1.1.1,h1.1.2,h1.2⟩
 refine⟨fun o ho=>opFine_ok hG (fun f hf=>?_) ho,fun f hf=>?_,fun f hf=>?_⟩
 ·obtain⟨fn,c,h1,h2,h3,h4,h5⟩:=hx f hf
  exact⟨fn,h1,by rw[h2];rfl,h4⟩
 ·obtain⟨fn,c,h1,h2,h3,h4,h5⟩:=hx f hf
  exact⟨fn,c,h1,h2,h3⟩
 ·obtain⟨fn,c,h1,h2,h3,h4,h5⟩:=hx f hf
  exact h5
end
end Go.Fxa
namespace Go.Fxa
open Go.Conc
open Go.Proofs
def LF:List FuncId:=[3,12,14,17,18,19,20,22,30,31,32,33,34,35,36,37,38,39,40,41,42,43,44,45,46,47,48,49,50,51,52,53,54,55,57,58,59,63,67,68,69,70,71,72,73,74,75,76,77,78,79,80,81,82,83,84,85,86,87,88,89,90,91,92,95,96,98,99,100,101,102,103,104,105,106,107,108,109,110,111,112,113,114,115,116,117,118,119,120,121,122,123,124,125,126,127,128,129,130,131,132,136,138,139,140,141,142,143,144,145,148,149,150,151,152,153,156,157,158,159,160,161,162,163,164,165,166,167,168,170,171,185,193,194,195,196,198,199,200,201,202,203,204,205,206,207,208,209,210,211,212,213,214,215,216,217,218,219,220,221,226,227,229,230,231,232,233,234,236,237,238,239,240,241,242,243,244,245,246,247,248,249]
theorem fineTryz:Fine Tryz.prog (·∈LF) (ac5 Tryz.prog):=fine_of (by kernel_rfl) (by kernel_rfl)
def NF:Fence:=Fence.list LF none
theorem fencedTryz:Fenced Tryz.prog (·∈LF) (ac5 Tryz.prog) NF:=⟨fineTryz,rfl,rfl,rfl,fun _ h=>h⟩
theorem ao1 {P:Program} {f g:FuncId} (hf:(P.funcs[f]?).any (·.norace)=false) (hg:(P.funcs[g]?).any (·.norace)=false) (es:Array Event):seen P f es=seen P g es:=by
 unfold seen
 simp[hf,hg]
theorem nr56:(Tryz.prog.funcs[56]?).any (·.norace)=false:=by kernel_rfl
theorem nr93:(Tryz.prog.funcs[93]?).any (·.norace)=false:=by kernel_rfl
theorem nr97:(Tryz.prog.funcs[97]?).any (·.norace)=false:=by kernel_rfl
theorem nr136:(Tryz.prog.funcs[136]?).any (·.norace)=false:=by kernel_rfl
theorem nr185:(Tryz.prog.funcs[185]?).any (·.norace)=false:=by kernel_rfl
theorem nr187:(Tryz.prog.funcs[187]?).any (·.norace)=false:=by kernel_rfl
theorem op_R2:(R2 Tryz.prog).allOps (ac5 Tryz.prog)=true:=by kernel_rfl
theorem op_R3:(R3 Tryz.prog).allOps (ac5 Tryz.prog)=true:=by kernel_rfl
theorem op_S0:(S0 Tryz.prog).allOps (ac5 Tryz.prog)=true:=by kernel_rfl
theorem op_S1:(S1 Tryz.prog).allOps (ac5 Tryz.prog)=true:=by kernel_rfl
theorem op_R10:(R10 Tryz.prog).allOps (ac5 Tryz.prog)=true:=by kernel_rfl
theorem op_R11:(R11 Tryz.prog).allOps (ac5 Tryz.prog)=true:=by kernel_rfl
theorem op_R15:(R15 Tryz.prog).allOps (ac5 Tryz.prog)=true:=by kernel_rfl
theorem op_R16:(R16 Tryz.prog).allOps (ac5 Tryz.prog)=true:=by kernel_rfl
theorem op_A0:(A0 Tryz.prog).allOps (ac5 Tryz.prog)=true:=by kernel_rfl
theorem op_R21:(R21 Tryz.prog).allOps (ac5 Tryz.prog)=true:=by kernel_rfl
theorem op_reg2:(reg2 Tryz.prog).allOps (ac5 Tryz.prog)=true:=by kernel_rfl
theorem op_ansC:(ansC Tryz.prog).allOps (ac5 Tryz.prog)=true:=by kernel_rfl
theorem waysTryz:Ways Tryz.prog (·∈LF) (ac5 Tryz.prog) NF 185 where
 fenced:=fencedTryz
 hosted:=by show 185∈LF;decide
 seen:=fun f hf es=>by
  rcases hf with e|e|e|e|e<;>rw[e]
  ·exact ao1 nr56 nr185 es
  ·exact ao1 nr93 nr185 es
  ·exact ao1 nr97 nr185 es
  ·exact ao1 nr136 nr185 es
  ·exact ao1 nr187 nr185 es
 ops:=fun c hc=>by
  rcases List.mem_cons.1 hc with e|hc
  ·rw[e];exact op_R2
  rcases List.mem_cons.1 hc with e|hc
  ·rw[e];exact op_R3
  rcases List.mem_cons.1 hc with e|hc
  ·rw[e];exact op_S0
  rcases List.mem_cons.1 hc with e|hc
  ·rw[e];exact op_S1
  rcases List.mem_cons.1 hc with e|hc
  ·rw[e];exact op_R10
  rcases List.mem_cons.1 hc with e|hc
  ·rw[e];exact op_R11
  rcases List.mem_cons.1 hc with e|hc
  ·rw[e];exact op_R15
  rcases List.mem_cons.1 hc with e|hc
  ·rw[e];exact op_R16
  rcases List.mem_cons.1 hc with e|hc
  ·rw[e];exact op_A0
  rcases List.mem_cons.1 hc with e|hc
  ·rw[e];exact op_R21
  rcases List.mem_cons.1 hc with e|hc
  ·rw[e];exact op_reg2
  rcases List.mem_cons.1 hc with e|hc
  ·rw[e];exact op_ansC
  cases hc
end Go.Fxa
namespace Go.Fxa
open Go.Conc
open Go.Proofs
open Go.RowKit
set_option maxRecDepth 1000000
theorem aj5 (v:World) (o:Obj):Grows v (v.alloc o):=by
 have e:(v.alloc o).heap=v.heap.push o:=rfl
 refine⟨by rw[e];simp,fun x hx=>?_,rfl,rfl⟩
 rw[e,Array.getElem?_push,if_neg (by omega)]
theorem grows_re {v w:World} {τ:Nat→Question→Nat} {d:Nat} (h:Grows (v.re τ d) w):Grows v w:=h
theorem A0_eq:A0 Tryz.prog=Code.region 0 #[{ dst:=some 3,op:=Op.box 206 (Operand.tmp 1),type:=0,pos:= "run.go:43",after:=#[],guard:=none }] false:=by kernel_rfl
theorem box_piece (r:Nat) (s0 s1 s2:Value) (v:World) (g:Nat→Value) (τ:Nat→Question→Nat) (d:Nat) (m:Nat):(A0 Tryz.prog).wpIn NF m Tryz.prog (Ends fun tm w'=>∃g' bB,tm=TN 9 (ups g' (sl97 r (.agg #[s0,s1,s2]) bB))∧Grows v w'∧Cells w' [⟨bB,0,none⟩,⟨bB,1,none⟩,⟨bB,2,none⟩] [s0,s1,s2]) ⟨TN 9 (ups g [(0,pr r),(1,.agg #[s0,s1,s2])]),[]⟩ (v.re τ d):=by
 rw[A0_eq]
 show Code.wpIn (Fence.list LF none) m Tryz.prog _ _ ⟨#[pr r,.agg #[s0,s1,s2],g 2,g 3,g 4,g 5,g 6,g 7,g 8],[]⟩ _
 gi_wp2
 refine⟨rfl,rfl,g,v.heap.size,rfl,grows_re (aj5 _ _),?_,?_,?_,trivial⟩ <;>
 ·show World.cell? { v with heap:=v.heap.push (Obj.cells #[s0,s1,s2] 206),tape:=τ,drawn:=d } _=_
  simp[World.cell?]
theorem S0_eq:S0 Tryz.prog=Code.region 0 #[{ dst:=some 2,op:=Op.box 202 (Operand.tmp 0),type:=0,pos:= "run.go:21",after:=#[],guard:=none },{ dst:=some 3,op:=Op.box 3 (Operand.tmp 1),type:=0,pos:= "run.go:21",after:=#[],guard:=none },{ dst:=some 4,op:=Op.assign (Operand.const (Value.pointer none)),type:=200,pos:= "run.go:21",after:=#[],guard:=none }] false:=by kernel_rfl
theorem boxes_piece (sa:Addr) (n:Int) (v:World) (g:Nat→Value) (τ:Nat→Question→Nat) (d:Nat) (m:Nat):(S0 Tryz.prog).wpIn NF m Tryz.prog (Ends fun tm w'=>∃g' b2 b3,tm=TN 18 (ups g' [(2,pr b2),(3,pr b3)])∧Grows v w'∧v.heap.size≤b2∧v.heap.size≤b3∧b2<w'.heap.size∧b3<w'.heap.size∧b2≠b3∧w'.cell? ⟨b2,0,none⟩=some (.pointer (some sa))∧w'.cell? ⟨b3,0,none⟩=some (.int .i64 n)) ⟨TN 18 (ups g [(0,.pointer (some sa)),(1,.int .i64 n)]),[]⟩ (v.re τ d):=by
 rw[S0_eq]
 show Code.wpIn (Fence.list LF none) m Tryz.prog _ _ ⟨#[.pointer (some sa),.int .i64 n,g 2,g 3,g 4,g 5,g 6,g 7,g 8,g 9,g 10,g 11,g 12,g 13,g 14,g 15,g 16,g 17],[]⟩ _
 gi_wp2
 refine⟨rfl,rfl,ups g [(0,.pointer (some sa)),(1,.int .i64 n),(4,.pointer none)],v.heap.size,v.heap.size+1,rfl,(grows_re (aj5 _ _)).trans (aj5 _ _),Nat.le_refl _,Nat.le_succ _,?_,?_,by omega,?_,?_⟩
 ·show v.heap.size<((v.heap.push _).push _).size;simp;omega
 ·show v.heap.size+1<((v.heap.push _).push _).size;simp
 ·show World.cell? { v with heap:=(v.heap.push (Obj.cells #[.pointer (some sa)] 202)).push _,tape:=τ,drawn:=d } _=_
  simp[World.cell?,Array.getElem?_push]
 ·show World.cell? { v with heap:=(v.heap.push (Obj.cells #[.pointer (some sa)] 202)).push (Obj.cells #[Value.int .i64 n] 3),tape:=τ,drawn:=d } _=_
  simp only[World.cell?]
  rw[show((v.heap.push (Obj.cells #[.pointer (some sa)] 202)).push (Obj.cells #[Value.int .i64 n] 3))[v.heap.size+1]?=some (Obj.cells #[Value.int .i64 n] 3) by rw[Array.getElem?_push];simp]
  rfl
end Go.Fxa
