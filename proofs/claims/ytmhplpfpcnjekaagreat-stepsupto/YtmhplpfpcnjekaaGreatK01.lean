/- A run of one goroutine's operation, carried from a world in which some blocks are dead to the real one, and from one tape to another that answers alike. One own step of a goroutine in plain code: from a world in which some blocks are dead, alone, to the real world, with other frames below, in whatever company. Which operations of the model are tame: the laws of its primitives, one by one. -/
import Derived.Conc.Beside
import Derived.Conc.Listed
import Derived.Fence
import Derived.Laws.Sem
namespace Go.Fxa
end Go.Fxa
namespace Go
open Go.Fxa
def World.re (w:World) (τ:Nat→Question→Nat) (d:Nat):World:={ w with tape:=τ,drawn:=d }
end Go
namespace Go.Fxa
end Go.Fxa
namespace Go
open Go.Fxa
def Halt.hard:Halt→Bool
 | .panic _=>true
 | .stuck _=>true
 | .unsupported (.initOrder _)=>false
 | .unsupported _=>true
 | _=>false
end Go
namespace Go.Fxa
def deadObj:Obj:=.view ⟨0,0,some 0⟩ 0
end Go.Fxa
namespace Go
open Go.Fxa
def Obj.plain:Obj→Bool
 | .view a _=>a.spot.isSome
 | .pending ..=>false
 | .loop _=>false
 | .map ..=>false
 | _=>true
end Go
namespace Go.Fxa
def NoOk (P:Program) (r:Nat) {α:Type} (e:Sem α):Prop:=∀(w:World) (es:Array Event) (a:α) (w':World) (es':Array Event),(∀(r:Nat) (o:Obj),w.heap[r]?=some o→o.plain=true)→w.heap[r]?=some deadObj→e.runT P w es≠(.ok a w',es')
end Go.Fxa
namespace Go
open Go.Fxa
def Sem.Dead (P:Program) {α:Type}:Sem α→Prop
 | .pure _=>False
 | .load _ _ k=>∀x,(k x).Dead P
 | .store _ _ _ k=>k.Dead P
 | .new o k=>o.plain=true∧∀r,(k r).Dead P
 | .shape _ k=>∀s,(k s).Dead P
 | .freeze _ _ k=>k.Dead P
 | .frozen _ k=>∀b,(k b).Dead P
 | .getObj _ k=>∀o,(k o).Dead P
 | .setObj _ o k=>o.plain=true∧k.Dead P
 | .choose _ k=>∀n,(k n).Dead P
 | .sys _ k=>∀r,(k r).Dead P
 | .program k=>(k P).Dead P
 | .mark _ k=>k.Dead P
 | .halt h=>h.hard=true
end Go
namespace Go.Fxa
end Go.Fxa
namespace Go
open Go.Fxa
def Sem.Tame (P:Program) {α:Type} (K:α→Prop):Sem α→Prop
 | .pure a=>K a
 | .load _ _ k=>∀x,(k x).Tame P K
 | .store _ _ _ k=>k.Tame P K
 | .new o k=>o.plain=true∧∀r,(k r).Tame P K
 | .shape r k=>(∀s,(k s).Tame P K)∧NoOk P r (k none)
 | .freeze _ _ k=>k.Dead P
 | .frozen _ k=>∀b,(k b).Dead P
 | .getObj r k=>(∀o,o.plain=true→(k o).Tame P K)∧NoOk P r (k deadObj)
 | .setObj _ o k=>o.plain=true∧k.Dead P
 | .choose _ k=>∀n,(k n).Tame P K
 | .sys _ k=>∀r,(k r).Dead P
 | .program k=>(k P).Tame P K
 | .mark m k=>(m=.noRoom∧k.Tame P K)∨k.Dead P
 | .halt h=>h.hard=true
end Go
namespace Go.Fxa
section
variable {P:Program} {α β:Type}
end
end Go.Fxa
namespace Go
open Go.Fxa
section
variable {P:Program} {α β:Type}
theorem Sem.Dead.not_ok {e:Sem α} (h:e.Dead P):∀w es a w' es',e.runT P w es≠(.ok a w',es'):=by
 induction e with
 | pure a=>exact h.elim
 | load m a k ih=>
  intro w es b w' es' he
  simp only[Sem.runT]at he
  split at he
  ·exact ih _ (h _) _ _ _ _ _ he
  ·split at he
   ·exact ih _ (h _) _ _ _ _ _ he
   ·simp at he
 | store m a v k ih=>
  intro w es b w' es' he
  cases v<;>simp only[Sem.runT]at he<;>first
   | (simp at he;done)
   | (split at he
      ·split at he
       ·simp at he
       ·exact ih h _ _ _ _ _ he
      ·split at he
       ·exact ih h _ _ _ _ _ he
       ·simp at he)
 | new o k ih=>exact fun w es b w' es' he=>ih _ (h.2 _) _ _ _ _ _ he
 | shape r k ih=>exact fun w es b w' es' he=>ih _ (h _) _ _ _ _ _ he
 | freeze a n k ih=>exact fun w es b w' es' he=>ih h _ _ _ _ _ he
 | frozen a k ih=>exact fun w es b w' es' he=>ih _ (h _) _ _ _ _ _ he
 | getObj r k ih=>
  intro w es b w' es' he
  simp only[Sem.runT]at he
  split at he
  ·simp at he
  ·exact ih _ (h _) _ _ _ _ _ he
  ·simp at he
 | setObj r o k ih=>
  intro w es b w' es' he
  simp only[Sem.runT]at he
  split at he
  ·simp at he
  ·exact ih h.2 _ _ _ _ _ he
  ·simp at he
 | choose q k ih=>
  intro w es b w' es' he
  simp only[Sem.runT]at he
  split at he
  ·exact ih _ (h _) _ _ _ _ _ he
  ·exact ih _ (h _) _ _ _ _ _ he
 | sys c k ih=>exact fun w es b w' es' he=>ih _ (h _) _ _ _ _ _ he
 | program k ih=>exact fun w es b w' es' he=>ih _ h _ _ _ _ _ he
 | mark m k ih=>exact fun w es b w' es' he=>ih h _ _ _ _ _ he
 | halt h'=>intro w es b w' es' he;simp[Sem.runT]at he
end
end Go
namespace Go.Fxa
section
variable {P:Program} {α β:Type}
end
end Go.Fxa
namespace Go
open Go.Fxa
section
variable {P:Program} {α β:Type}
theorem Sem.Dead.tame {e:Sem α} {K:α→Prop} (h:e.Dead P):e.Tame P K:=by
 induction e with
 | pure a=>exact h.elim
 | load m a k ih=>exact fun x=>ih x (h x)
 | store m a v k ih=>exact ih h
 | new o k ih=>exact⟨h.1,fun x=>ih x (h.2 x)⟩
 | shape r k ih=>exact⟨fun x=>ih x (h x),fun w es a w' es' _ _=>(h none).not_ok w es a w' es'⟩
 | freeze a n k ih=>exact h
 | frozen a k ih=>exact h
 | getObj r k ih=>exact⟨fun x _=>ih x (h x),fun w es a w' es' _ _=>(h deadObj).not_ok w es a w' es'⟩
 | setObj r o k ih=>exact h
 | choose q k ih=>exact fun x=>ih x (h x)
 | sys c k ih=>exact h
 | program k ih=>exact ih P h
 | mark m k ih=>exact .inr h
 | halt h'=>exact h
end
end Go
namespace Go.Fxa
section
variable {P:Program} {α β:Type}
end
end Go.Fxa
namespace Go
open Go.Fxa
section
variable {P:Program} {α β:Type}
theorem Sem.Dead.bind {e:Sem α} {f:α→Sem β} (h:e.Dead P):(e.bind f).Dead P:=by
 induction e with
 | pure a=>exact h.elim
 | load m a k ih=>exact fun x=>ih x (h x)
 | store m a v k ih=>exact ih h
 | new o k ih=>exact⟨h.1,fun x=>ih x (h.2 x)⟩
 | shape r k ih=>exact fun x=>ih x (h x)
 | freeze a n k ih=>exact ih h
 | frozen a k ih=>exact fun x=>ih x (h x)
 | getObj r k ih=>exact fun x=>ih x (h x)
 | setObj r o k ih=>exact⟨h.1,ih h.2⟩
 | choose q k ih=>exact fun x=>ih x (h x)
 | sys c k ih=>exact fun x=>ih x (h x)
 | program k ih=>exact ih P h
 | mark m k ih=>exact ih h
 | halt h'=>exact h
end
end Go
namespace Go.Fxa
section
variable {P:Program} {α β:Type}
theorem runT_bind_ok {e:Sem α} {f:α→Sem β}:∀{w:World} {es:Array Event} {b:β} {w':World} {es':Array Event},(e.bind f).runT P w es=(.ok b w',es')→∃a w1 es1,e.runT P w es=(.ok a w1,es1):=by
 intro w es b w' es' h
 rw[Sem.runT_bind']at h
 cases hr:e.runT P w es with
 | mk r es1=>
  cases r with
  | ok a w1=>exact⟨a,w1,es1,rfl⟩
  | halt hh w1=>rw[hr]at h;simp at h
theorem NoOk.bind {r:Nat} {e:Sem α} {f:α→Sem β} (h:NoOk P r e):NoOk P r (e.bind f):=fun w es b w' es' hp hr he=>by
 obtain⟨a,w1,es1,h1⟩:=runT_bind_ok he
 exact h w es a w1 es1 hp hr h1
end
end Go.Fxa
namespace Go
open Go.Fxa
section
variable {P:Program} {α β:Type}
theorem Sem.Tame.bind {e:Sem α} {f:α→Sem β} {K:α→Prop} {K':β→Prop} (h:e.Tame P K) (hf:∀a,K a→(f a).Tame P K'):(e.bind f).Tame P K':=by
 induction e with
 | pure a=>exact hf a h
 | load m a k ih=>exact fun x=>ih x (h x)
 | store m a v k ih=>exact ih h
 | new o k ih=>exact⟨h.1,fun x=>ih x (h.2 x)⟩
 | shape r k ih=>exact⟨fun x=>ih x (h.1 x),h.2.bind⟩
 | freeze a n k ih=>exact Sem.Dead.bind h
 | frozen a k ih=>exact fun x=>(h x).bind
 | getObj r k ih=>exact⟨fun x hx=>ih x (h.1 x hx),h.2.bind⟩
 | setObj r o k ih=>exact⟨h.1,Sem.Dead.bind h.2⟩
 | choose q k ih=>exact fun x=>ih x (h x)
 | sys c k ih=>exact fun x=>(h x).bind
 | program k ih=>exact ih P h
 | mark m k ih=>exact h.elim (fun h=>.inl ⟨h.1,ih h.2⟩) fun h=>.inr h.bind
 | halt h'=>exact h
end
end Go
namespace Go.Fxa
section
variable {P:Program} {α β:Type}
end
structure Old where
 dead:Nat→Prop
 ref:Nat→Obj
abbrev noOld:Old:=⟨fun _=>False,fun _=>deadObj⟩
structure Twin (Od:Old) (Z:Nat→Prop) (v w:World):Prop where
 size:v.heap.size=w.heap.size
 same:∀r,¬Z r→¬Od.dead r→v.heap[r]?=w.heap[r]?
 dead:∀r,Z r→r<v.heap.size→v.heap[r]?=some deadObj
 plain:∀(r:Nat) (o:Obj),v.heap[r]?=some o→o.plain=true
 os:v.os=w.os
 output:v.output=w.output
 odead:∀r,Od.dead r→v.heap[r]?=some deadObj
 kept:∀r,Od.dead r→w.heap[r]?=some (Od.ref r)
 dis:∀r,Od.dead r→¬Z r
def EvT (Z:Nat→Prop) (n:Nat) (e:Event):Prop:=
 (∃a,e.loc=.cell a∧¬Z a.block∧a.block<n)∨(∃r,e.loc=.obj r∧¬Z r∧r<n)∨e.loc=.mark .noRoom
theorem EvT.mono {Z:Nat→Prop} {n n':Nat} {e:Event} (h:EvT Z n e) (hn:n≤n'):EvT Z n' e:=by
 rcases h with⟨a,h1,h2,h3⟩|⟨a,h1,h2,h3⟩|h
 ·exact .inl ⟨a,h1,h2,by omega⟩
 ·exact .inr (.inl ⟨a,h1,h2,by omega⟩)
 ·exact .inr (.inr h)
section
variable {Z:Nat→Prop} {v w:World}
theorem Twin.cellOld {Od:Old} (T:Twin Od Z v w) {a:Addr} {x:Value} (h:v.cell? a=some x):¬Od.dead a.block:=fun ho=>by
 unfold World.cell? at h
 rw[T.odead _ ho]at h
 simp[deadObj]at h
theorem Twin.cell {Od:Old} (T:Twin Od Z v w) {a:Addr} {x:Value} (h:v.cell? a=some x):w.cell? a=some x∧¬Z a.block∧a.block<w.heap.size∧w.frozen? a=v.frozen? a:=by
 have hz:¬Z a.block:=by
  intro hz
  unfold World.cell? at h
  by_cases hlt:a.block<v.heap.size
  ·rw[T.dead _ hz hlt]at h
   simp[deadObj]at h
  ·rw[Array.getElem?_eq_none (by omega)]at h
   simp at h
 have ho:=T.cellOld h
 refine⟨by rw[←h];unfold World.cell?;rw[T.same _ hz ho],hz,?_,by unfold World.frozen?;rw[T.same _ hz ho]⟩
 rw[←T.size]
 unfold World.cell? at h
 cases e:v.heap[a.block]? with
 | none=>rw[e]at h;simp at h
 | some o=>exact(Array.getElem?_eq_some_iff.1 e).1
theorem Twin.retape {Od:Old} (T:Twin Od Z v w) (τ τ':Nat→Question→Nat) (d d':Nat):Twin Od Z (v.re τ d) (w.re τ' d'):=
 ⟨T.size,T.same,T.dead,T.plain,T.os,T.output,T.odead,T.kept,T.dis⟩
theorem Twin.setCell {Od:Old} (T:Twin Od Z v w) {a:Addr} (x:Value) (hz:¬Z a.block) (ho:¬Od.dead a.block):Twin Od Z (v.setCell a x) (w.setCell a x):=by
 have hs:∀u:World,(u.setCell a x).heap.size=u.heap.size:=fun u=>by simp[World.setCell]
 have hne:∀(u:World) r,r≠a.block→(u.setCell a x).heap[r]?=u.heap[r]?:=fun u r hr=>by
  simp[World.setCell,Array.getElem?_modify,Ne.symm hr]
 have heq:(v.setCell a x).heap[a.block]?=(w.setCell a x).heap[a.block]?:=by
  simp only[World.setCell,Array.getElem?_modify,if_true,T.same _ hz ho]
 have hno:∀r,Od.dead r→r≠a.block:=fun r hr h=>ho (h ▸ hr)
 refine⟨by rw[hs,hs,T.size],fun r hr hro=>?_,fun r hr hlt=>?_,fun r o hr=>?_,T.os,T.output,fun r hr=>by rw[hne _ _ (hno r hr)];exact T.odead r hr,fun r hr=>by rw[hne _ _ (hno r hr)];exact T.kept r hr,T.dis⟩
 ·by_cases h:r=a.block
  ·subst h;exact heq
  ·rw[hne _ _ h,hne _ _ h,T.same _ hr hro]
 ·have h:r≠a.block:=fun h=>hz (h ▸ hr)
  rw[hne _ _ h]
  exact T.dead r hr (by rw[hs]at hlt;exact hlt)
 ·by_cases h:r=a.block
  ·subst h
   simp only[World.setCell,Array.getElem?_modify,if_true]at hr
   cases e:v.heap[a.block]? with
   | none=>rw[e]at hr;simp at hr
   | some ob=>
    rw[e]at hr
    have:=T.plain _ _ e
    simp only[Option.map_some,Option.some.injEq]at hr
    subst hr
    cases ob<;>first|rfl|exact this
  ·rw[hne _ _ h]at hr;exact T.plain _ _ hr
theorem Twin.push {Od:Old} (T:Twin Od Z v w) {o:Obj} (ho:o.plain=true) (hz:¬Z v.heap.size):
  Twin Od Z { v with heap:=v.heap.push o } { w with heap:=w.heap.push o }:=by
 have up:∀(u:World) (r:Nat) (q:Obj),u.heap[r]?=some q→(u.heap.push o)[r]?=some q:=fun u r q h=>by
  have lt:=(Array.getElem?_eq_some_iff.1 h).1
  rw[Array.getElem?_push,if_neg (by omega)]
  exact h
 refine⟨by simp[T.size],fun r hr hro=>?_,fun r hr hlt=>?_,fun r o' hr=>?_,T.os,T.output,fun r hr=>up v r _ (T.odead r hr),fun r hr=>up w r _ (T.kept r hr),T.dis⟩
 ·have e:=T.same r hr hro
  simp only[Array.getElem?_push,T.size,e]
 ·simp only[Array.size_push]at hlt
  have:r≠v.heap.size:=fun h=>hz (h ▸ hr)
  rw[Array.getElem?_push,if_neg this]
  exact T.dead r hr (by omega)
 ·simp only[Array.getElem?_push]at hr
  split at hr
  ·obtain rfl:=Option.some.inj hr;exact ho
  ·exact T.plain _ _ hr
end
theorem far_load_view {P:Program} {v:World} {a:Addr} {b:Bool} {ad:Addr} {t:TypeId} (hs:ad.spot.isSome=true) (ho:v.heap[a.block]?=some (.view ad t)):∃why,v.farLoad P a b=.error (.unsupported (.unsafePointer why)):=by
 unfold World.farLoad
 rw[ho]
 have:∃why,v.viewLoad P ad t a b=.error why:=by
  unfold World.viewLoad World.seen
  simp only[hs,Bool.or_true,if_true]
  exact⟨_,rfl⟩
 obtain⟨why,e⟩:=this
 simp only[e]
 exact⟨why,rfl⟩
theorem far_store_view {P:Program} {v:World} {a:Addr} {x:Value} {b:Bool} {ad:Addr} {t:TypeId} (hs:ad.spot.isSome=true) (ho:v.heap[a.block]?=some (.view ad t)):∃why,v.farStore P a x b=.error (.unsupported (.unsafePointer why)):=by
 unfold World.farStore
 rw[ho]
 have:∃why,v.viewStore P ad t a x b=.error why:=by
  unfold World.viewStore World.seen
  simp only[hs,Bool.or_true,if_true]
  split
  ·exact⟨_,rfl⟩
  ·exact⟨_,rfl⟩
 obtain⟨why,e⟩:=this
 simp only[e]
 exact⟨why,rfl⟩
theorem far_load_hard {P:Program} {v:World} (hp:∀(r:Nat) (o:Obj),v.heap[r]?=some o→o.plain=true) (a:Addr) (b:Bool):
  ∃hh,v.farLoad P a b=.error hh∧hh.hard=true:=by
 cases ho:v.heap[a.block]? with
 | none=>exact⟨_,by unfold World.farLoad;rw[ho],by simp[World.noCell,ho,Halt.hard]⟩
 | some ob=>
  have:=hp _ _ ho
  cases ob with
  | view ad t=>obtain⟨why,e⟩:=far_load_view (P:=P) (b:=b) this ho;exact⟨_,e,rfl⟩
  | pending c t=>cases this
  | _=>exact⟨_,by unfold World.farLoad;rw[ho],by simp[World.noCell,ho,Halt.hard]⟩
theorem far_store_hard {P:Program} {v:World} (hp:∀(r:Nat) (o:Obj),v.heap[r]?=some o→o.plain=true) (a:Addr) (x:Value) (b:Bool):
  ∃hh,v.farStore P a x b=.error hh∧hh.hard=true:=by
 cases ho:v.heap[a.block]? with
 | none=>exact⟨_,by unfold World.farStore;rw[ho],by simp[World.noCell,ho,Halt.hard]⟩
 | some ob=>
  have:=hp _ _ ho
  cases ob with
  | view ad t=>obtain⟨why,e⟩:=far_store_view (P:=P) (x:=x) (b:=b) this ho;exact⟨_,e,rfl⟩
  | pending c t=>cases this
  | _=>exact⟨_,by unfold World.farStore;rw[ho],by simp[World.noCell,ho,Halt.hard]⟩
theorem aj9 {P:Program} {α:Type} {K:α→Prop} {e:Sem α} (he:e.Tame P K):∀{v:World} {es:Array Event} {a:α} {v':World} {es':Array Event},
  (∀(r:Nat) (o:Obj),v.heap[r]?=some o→o.plain=true)→e.runT P v es=(.ok a v',es')→v.drawn≤v'.drawn∧v'.tape=v.tape∧v.heap.size≤v'.heap.size:=by
 induction e with
 | pure a=>intro v es b v' es' _ h;simp only[Sem.runT,Prod.mk.injEq,Result.ok.injEq]at h;obtain⟨⟨_,rfl⟩,_⟩:=h;simp
 | load m a k ih=>
  intro v es b v' es' hp h
  simp only[Sem.runT]at h
  split at h
  ·exact ih _ (he _) hp h
  ·split at h
   ·exact ih _ (he _) hp h
   ·simp at h
 | store m a x k ih=>
  intro v es b v' es' hp h
  have key:(match v.cell? a with
    | some _=>if v.frozen? a then(Result.halt (.unsupported (.unsafePointer "a write to bytes that a string shares")) v,es)else k.runT P (v.setCell a x) (es.push ⟨.cell a,true,m==.atomic⟩)
    | none=>match v.farStore P a x (m==.atomic)with
     | .ok (w,touched)=>k.runT P w (es++touched.toArray.map (⟨.cell ·,true,m==.atomic⟩))
     | .error h=>(.halt h v,es))=(.ok b v',es'):=by
   cases x<;>first|exact h|(simp[Sem.runT]at h;done)
  clear h
  split at key
  ·split at key
   ·simp at key
   ·have:=ih he (v:=v.setCell a x) ?_ key
    ·simpa [World.setCell]using this
    ·intro r o hr
     simp only[World.setCell,Array.getElem?_modify]at hr
     split at hr
     ·rename_i hra
      cases ho:v.heap[r]? with
      | none=>rw[ho]at hr;simp at hr
      | some ob=>
       have:=hp _ _ ho
       rw[ho]at hr
       simp only[Option.map_some,Option.some.injEq]at hr
       subst hr
       cases ob<;>first|rfl|exact this
     ·exact hp _ _ hr
  ·rename_i hc
   obtain⟨hh,e,_⟩:=far_store_hard (P:=P) hp a x (m==.atomic)
   rw[e]at key
   simp at key
 | new o k ih=>
  intro v es b v' es' hp h
  have:=ih _ (he.2 _) (v:={ v with heap:=v.heap.push o }) (fun r ob hr=>by
   simp only[Array.getElem?_push]at hr
   split at hr
   ·obtain rfl:=Option.some.inj hr;exact he.1
   ·exact hp _ _ hr) h
  simp only[Array.size_push]at this
  exact⟨this.1,this.2.1,by omega⟩
 | shape r k ih=>intro v es b v' es' hp h;exact ih _ (he.1 _) hp h
 | freeze a n k ih=>intro v es b v' es' _ h;exact(Sem.Dead.not_ok he _ _ _ _ _ h).elim
 | frozen a k ih=>intro v es b v' es' _ h;exact((he _).not_ok _ _ _ _ _ h).elim
 | getObj r k ih=>
  intro v es b v' es' hp h
  simp only[Sem.runT]at h
  split at h
  ·simp at h
  ·rename_i o _ ho
   exact ih _ (he.1 _ (hp _ _ ho)) hp h
  ·simp at h
 | setObj r o k ih=>
  intro v es b v' es' _ h
  simp only[Sem.runT]at h
  split at h
  ·simp at h
  ·exact(Sem.Dead.not_ok he.2 _ _ _ _ _ h).elim
  ·simp at h
 | choose q k ih=>
  intro v es b v' es' hp h
  simp only[Sem.runT]at h
  split at h
  ·exact ih _ (he _) hp h
  ·have:=ih _ (he _) (v:={ v with drawn:=v.drawn+1 }) hp h
   simp only at this
   exact⟨by omega,this.2.1,this.2.2⟩
 | sys c k ih=>intro v es b v' es' _ h;exact((he _).not_ok _ _ _ _ _ h).elim
 | program k ih=>intro v es b v' es' hp h;exact ih _ he hp h
 | mark m k ih=>
  intro v es b v' es' hp h
  rcases he with he|he
  ·exact ih he.2 hp h
  ·exact(Sem.Dead.not_ok he _ _ _ _ _ h).elim
 | halt h'=>intro v es b v' es' _ h;simp[Sem.runT]at h
theorem plain_setCell {v:World} (hp:∀(r:Nat) (o:Obj),v.heap[r]?=some o→o.plain=true) (a:Addr) (x:Value):
  ∀(r:Nat) (o:Obj),(v.setCell a x).heap[r]?=some o→o.plain=true:=by
 intro r o hr
 simp only[World.setCell,Array.getElem?_modify]at hr
 split at hr
 ·cases ho:v.heap[r]? with
  | none=>rw[ho]at hr;simp at hr
  | some ob=>
   have:=hp _ _ ho
   rw[ho]at hr
   simp only[Option.map_some,Option.some.injEq]at hr
   subst hr
   cases ob<;>first|rfl|exact this
 ·exact hp _ _ hr
theorem plain_freeze {v:World} (hp:∀(r:Nat) (o:Obj),v.heap[r]?=some o→o.plain=true) (a:Addr) (n:Nat):
  ∀(r:Nat) (o:Obj),(v.freeze a n).heap[r]?=some o→o.plain=true:=by
 intro r o hr
 unfold World.freeze at hr
 split at hr
 ·exact hp _ _ hr
 ·simp only[Array.getElem?_modify]at hr
  split at hr
  ·cases ho:v.heap[r]? with
   | none=>rw[ho]at hr;simp at hr
   | some ob=>
    have:=hp _ _ ho
    rw[ho]at hr
    simp only[Option.map_some,Option.some.injEq]at hr
    subst hr
    cases ob<;>first|rfl|exact this
  ·exact hp _ _ hr
theorem sys_heap (v:World) (c:Sys):(v.sys c).2.heap=v.heap:=by
 have ask:∀{β:Type} (k:Ask β) (u:World),(u.ask k).2.heap=u.heap:=by
  intro β k
  induction k with
  | done a=>intro u;rfl
  | ask what range k ih=>
   intro u
   unfold World.ask
   simp only
   split
   ·exact ih _ _
   ·exact ih _ _
 unfold World.sys
 have:=ask (Kernel.perform c v.os) v
 split
 ·rfl
 ·rename_i r os w' hne he
  rw[he]at this
  exact this
theorem tame_hard {P:Program} {α:Type} {K:α→Prop} {e:Sem α} (he:e.Tame P K):∀{v:World} {es:Array Event} {h:Halt} {v':World} {es':Array Event},
  (∀(r:Nat) (o:Obj),v.heap[r]?=some o→o.plain=true)→e.runT P v es=(.halt h v',es')→h.hard=true:=by
 induction e with
 | pure a=>intro v es hh v' es' _ h;simp[Sem.runT]at h
 | load m a k ih=>
  intro v es hh v' es' hp h
  simp only[Sem.runT]at h
  split at h
  ·exact ih _ (he _) hp h
  ·obtain⟨h2,e2,hd⟩:=far_load_hard (P:=P) hp a (m==.atomic)
   rw[e2]at h
   simp only[Prod.mk.injEq,Result.halt.injEq]at h
   rw[←h.1.1];exact hd
 | store m a x k ih=>
  intro v es hh v' es' hp h
  have form:(Sem.store m a x k).runT P v es=(match v.cell? a with
    | some _=>if v.frozen? a then(Result.halt (.unsupported (.unsafePointer "a write to bytes that a string shares")) v,es)else k.runT P (v.setCell a x) (es.push ⟨.cell a,true,m==.atomic⟩)
    | none=>match v.farStore P a x (m==.atomic)with
     | .ok (w,touched)=>k.runT P w (es++touched.toArray.map (⟨.cell ·,true,m==.atomic⟩))
     | .error h=>(.halt h v,es))∨∃s,(Sem.store m a x k).runT P v es=(.halt (.stuck s) v,es):=by
   cases x<;>first|exact .inl rfl|exact .inr ⟨_,rfl⟩
  rcases form with form|⟨s,hv⟩
  case inr=>rw[hv]at h;simp only[Prod.mk.injEq,Result.halt.injEq]at h;rw[←h.1.1];rfl
  rw[form]at h
  split at h
  ·split at h
   ·simp only[Prod.mk.injEq,Result.halt.injEq]at h;rw[←h.1.1];rfl
   ·exact ih he (plain_setCell hp a x) h
  ·obtain⟨h2,e2,hd⟩:=far_store_hard (P:=P) hp a x (m==.atomic)
   rw[e2]at h
   simp only[Prod.mk.injEq,Result.halt.injEq]at h
   rw[←h.1.1];exact hd
 | new o k ih=>
  intro v es hh v' es' hp h
  exact ih _ (he.2 _) (v:={ v with heap:=v.heap.push o }) (fun r ob hr=>by
   simp only[Array.getElem?_push]at hr
   split at hr
   ·obtain rfl:=Option.some.inj hr;exact he.1
   ·exact hp _ _ hr) h
 | shape r k ih=>intro v es hh v' es' hp h;exact ih _ (he.1 _) hp h
 | freeze a n k ih=>intro v es hh v' es' hp h;exact ih (Sem.Dead.tame he) (plain_freeze hp a n) h
 | frozen a k ih=>intro v es hh v' es' hp h;exact ih _ (Sem.Dead.tame (he _)) hp h
 | getObj r k ih=>
  intro v es hh v' es' hp h
  simp only[Sem.runT]at h
  split at h
  ·simp only[Prod.mk.injEq,Result.halt.injEq]at h;rw[←h.1.1];rfl
  ·rename_i o _ ho
   exact ih _ (he.1 _ (hp _ _ ho)) hp h
  ·simp only[Prod.mk.injEq,Result.halt.injEq]at h;rw[←h.1.1];rfl
 | setObj r o k ih=>
  intro v es hh v' es' hp h
  simp only[Sem.runT]at h
  split at h
  ·simp only[Prod.mk.injEq,Result.halt.injEq]at h;rw[←h.1.1];rfl
  ·refine ih (Sem.Dead.tame he.2) (v:={ v with heap:=v.heap.setIfInBounds r o }) (fun r' ob hr=>?_) h
   simp only[Array.getElem?_setIfInBounds]at hr
   split at hr
   ·split at hr
    ·obtain rfl:=Option.some.inj hr;exact he.1
    ·simp at hr
   ·exact hp _ _ hr
  ·simp only[Prod.mk.injEq,Result.halt.injEq]at h;rw[←h.1.1];rfl
 | choose q k ih=>
  intro v es hh v' es' hp h
  simp only[Sem.runT]at h
  split at h
  ·exact ih _ (he _) hp h
  ·exact ih _ (he _) (v:={ v with drawn:=v.drawn+1 }) hp h
 | sys c k ih=>intro v es hh v' es' hp h;exact ih _ (Sem.Dead.tame (he _)) (by rw[sys_heap];exact hp) h
 | program k ih=>intro v es hh v' es' hp h;exact ih _ he hp h
 | mark m k ih=>
  intro v es hh v' es' hp h
  rcases he with he|he
  ·exact ih he.2 hp h
  ·exact ih (Sem.Dead.tame he) hp h
 | halt h'=>
  intro v es hh v' es' _ h
  simp only[Sem.runT,Prod.mk.injEq,Result.halt.injEq]at h
  rw[←h.1.1];exact he
theorem twin_run {Od:Old} {P:Program} {α:Type} {Z:Nat→Prop} {K:α→Prop} {e:Sem α} (he:e.Tame P K):∀{v w:World} {es:Array Event} {a:α} {v':World} {es':Array Event},
  Twin Od Z v w→(∀r,Z r→r<v.heap.size)→e.runT P v es=(.ok a v',es')→
  (∀j,j<v'.drawn-v.drawn→∀q,w.tape (w.drawn+j) q=v.tape (v.drawn+j) q)→
  ∃w' more,K a∧e.runT P w es=(.ok a w',es')∧Twin Od Z v' w'∧(∀r,Z r→w'.heap[r]?=w.heap[r]?)∧w'.tape=w.tape∧w'.drawn=w.drawn+(v'.drawn-v.drawn)∧es'=es++more∧∀x∈more,EvT Z v'.heap.size x:=by
 induction e with
 | pure a=>
  intro v w es b v' es' T hZ h _
  simp only[Sem.runT,Prod.mk.injEq,Result.ok.injEq]at h
  obtain⟨⟨rfl,rfl⟩,rfl⟩:=h
  exact⟨w,#[],he,rfl,T,fun _ _=>rfl,rfl,by simp,by simp,by simp⟩
 | load m a k ih=>
  intro v w es b v' es' T hZ h hag
  have hg:=aj9 he T.plain h
  simp only[Sem.runT]at h
  split at h
  ·rename_i x hx
   obtain⟨hw,hz,hlt,_⟩:=T.cell hx
   obtain⟨w',more,hK,h1,h2,hkp,h3,h4,h5,h6⟩:=ih _ (he _) T hZ h hag
   refine⟨w',#[⟨.cell a,false,m==.atomic⟩]++more,hK,by simp only[Sem.runT,hw];exact h1,h2,hkp,h3,h4,by rw[h5];simp,fun y hy=>?_⟩
   rcases Array.mem_append.1 hy with hy|hy
   ·simp at hy;subst hy;exact .inl ⟨a,rfl,hz,by have:=T.size;omega⟩
   ·exact h6 y hy
  ·rename_i hn
   exfalso
   obtain⟨hh,e,_⟩:=far_load_hard (P:=P) T.plain a (m==.atomic)
   rw[e]at h
   simp at h
 | store m a x k ih=>
  intro v w es b v' es' T hZ h hag
  have form:(∀u:World,(Sem.store m a x k).runT P u es=(match u.cell? a with
    | some _=>if u.frozen? a then(Result.halt (.unsupported (.unsafePointer "a write to bytes that a string shares")) u,es)else k.runT P (u.setCell a x) (es.push ⟨.cell a,true,m==.atomic⟩)
    | none=>match u.farStore P a x (m==.atomic)with
     | .ok (w,touched)=>k.runT P w (es++touched.toArray.map (⟨.cell ·,true,m==.atomic⟩))
     | .error h=>(.halt h u,es)))∨∃s,(Sem.store m a x k).runT P v es=(.halt (.stuck s) v,es):=by
   cases x<;>first|exact .inl fun _=>rfl|exact .inr ⟨_,rfl⟩
  rcases form with form|⟨s,hv⟩
  case inr=>rw[hv]at h;simp at h
  rw[form]at h
  rw[form]
  split at h
  ·rename_i y hy
   have hy0:=hy
   obtain⟨hw,hz,hlt,hf⟩:=T.cell hy
   split at h
   ·simp at h
   ·rename_i hfz
    have hs1:(v.setCell a x).heap.size=v.heap.size:=by simp[World.setCell]
    obtain⟨w',more,hK,h1,h2,hkp,h3,h4,h5,h6⟩:=ih he (T.setCell x hz (T.cellOld hy)) (by rw[hs1];exact hZ) h hag
    refine⟨w',#[⟨.cell a,true,m==.atomic⟩]++more,hK,?_,h2,fun r hr=>by
     rw[hkp r hr]
     have hne:a.block≠r:=fun e=>hz (e ▸ hr)
     simp[World.setCell,Array.getElem?_modify,hne],h3,h4,by rw[h5];simp,fun y hy=>?_⟩
    ·simp only[hw,hf,hfz];exact h1
    ·rcases Array.mem_append.1 hy with hy|hy
     ·have hgr:=aj9 (e:=k) he (T.setCell x hz (T.cellOld hy0)).plain h
      simp at hy;subst hy;exact .inl ⟨a,rfl,hz,by have:=T.size;omega⟩
     ·exact h6 y hy
  ·rename_i hn
   exfalso
   obtain⟨hh,e,_⟩:=far_store_hard (P:=P) T.plain a x (m==.atomic)
   rw[e]at h
   simp at h
 | new o k ih=>
  intro v w es b v' es' T hZ h hag
  have hz:¬Z v.heap.size:=fun hz=>Nat.lt_irrefl _ (hZ _ hz)
  obtain⟨w',more,hK,h1,h2,hkp,h3,h4,h5,h6⟩:=ih _ (he.2 _) (T.push he.1 hz) (fun r hr=>by have:=hZ r hr;simp only[Array.size_push];omega) h hag
  exact⟨w',more,hK,by simp only[Sem.runT];rw[←T.size];exact h1,h2,fun r hr=>by
   rw[hkp r hr]
   have:=hZ r hr
   rw[T.size]at this
   simp only[Array.getElem?_push]
   rw[if_neg (by omega)],h3,h4,h5,h6⟩
 | shape r k ih=>
  intro v w es b v' es' T hZ h hag
  have h':(k (v.shape? r)).runT P v es=(.ok b v',es'):=h
  have hz:¬Z r:=fun hz=>by
   have hd:=T.dead r hz (hZ r hz)
   have e:v.shape? r=none:=by unfold World.shape?;rw[hd];rfl
   rw[e]at h'
   exact he.2 _ _ _ _ _ T.plain hd h'
  have ho:¬Od.dead r:=fun ho=>by
   have hd:=T.odead r ho
   have e:v.shape? r=none:=by unfold World.shape?;rw[hd];rfl
   rw[e]at h'
   exact he.2 _ _ _ _ _ T.plain hd h'
  have e:w.shape? r=v.shape? r:=by unfold World.shape?;rw[T.same r hz ho]
  obtain⟨w',more,hK,h1,h2⟩:=ih _ (he.1 _) T hZ h' hag
  exact⟨w',more,hK,by simp only[Sem.runT];rw[e];exact h1,h2⟩
 | freeze a n k ih=>intro v w es b v' es' _ _ h;exact(Sem.Dead.not_ok he _ _ _ _ _ h).elim
 | frozen a k ih=>intro v w es b v' es' _ _ h;exact((he _).not_ok _ _ _ _ _ h).elim
 | getObj r k ih=>
  intro v w es b v' es' T hZ h hag
  have hg:=aj9 he T.plain h
  simp only[Sem.runT]at h
  split at h
  ·simp at h
  ·rename_i o hno ho
   have hlt:=(Array.getElem?_eq_some_iff.1 ho).1
   have hz:¬Z r:=fun hz=>by
    have e:=T.dead r hz hlt
    rw[e]at ho
    obtain rfl:=Option.some.inj ho
    exact he.2 _ _ _ _ _ T.plain e h
   have hod:¬Od.dead r:=fun hz=>by
    have e:=T.odead r hz
    rw[e]at ho
    obtain rfl:=Option.some.inj ho
    exact he.2 _ _ _ _ _ T.plain e h
   obtain⟨w',more,hK,h1,h2,hkp,h3,h4,h5,h6⟩:=ih _ (he.1 _ (T.plain _ _ ho)) T hZ h hag
   refine⟨w',#[⟨.obj r,false,o.isChan⟩]++more,hK,?_,h2,hkp,h3,h4,by rw[h5];simp,fun y hy=>?_⟩
   ·have hw:w.heap[r]?=some o:=by rw[←T.same r hz hod,ho]
    simp only[Sem.runT,hw]
    cases o<;>first|exact h1|exact(hno _ _ _ rfl).elim
   ·rcases Array.mem_append.1 hy with hy|hy
    ·simp at hy;subst hy;exact .inr (.inl ⟨r,rfl,hz,by omega⟩)
    ·exact h6 y hy
  ·simp at h
 | setObj r o k ih=>
  intro v w es b v' es' _ _ h
  simp only[Sem.runT]at h
  split at h
  ·simp at h
  ·exact(Sem.Dead.not_ok he.2 _ _ _ _ _ h).elim
  ·simp at h
 | choose q k ih=>
  intro v w es b v' es' T hZ h hag
  simp only[Sem.runT]at h
  split at h
  ·rename_i hq
   obtain⟨w',more,hK,h1,h2⟩:=ih _ (he _) T hZ h hag
   exact⟨w',more,hK,by simp only[Sem.runT,hq,if_true];exact h1,h2⟩
  ·rename_i hq
   have hg:=aj9 (he _) (v:={ v with drawn:=v.drawn+1 }) T.plain h
   simp only at hg
   have h0:w.tape w.drawn q=v.tape v.drawn q:=by
    have:=hag 0 (by omega) q
    simpa using this
   obtain⟨w',more,hK,h1,h2,hkp,h3,h4,h5,h6⟩:=ih _ (he _) (v:={ v with drawn:=v.drawn+1 }) (w:={ w with drawn:=w.drawn+1 }) ⟨T.size,T.same,T.dead,T.plain,T.os,T.output,T.odead,T.kept,T.dis⟩ hZ h (fun j hj q'=>by
    have:=hag (j+1) (by simp only at hj;omega) q'
    have e1:w.drawn+1+j=w.drawn+(j+1):=by omega
    have e2:v.drawn+1+j=v.drawn+(j+1):=by omega
    simp only[e1,e2]
    exact this)
   refine⟨w',more,hK,by simp only[Sem.runT,hq,h0];exact h1,h2,hkp,h3,?_,h5,h6⟩
   rw[h4]
   simp only
   omega
 | sys c k ih=>intro v w es b v' es' _ _ h;exact((he _).not_ok _ _ _ _ _ h).elim
 | program k ih=>intro v w es b v' es' T hZ h hag;exact ih _ he T hZ h hag
 | mark m k ih=>
  intro v w es b v' es' T hZ h hag
  rcases he with⟨rfl,he⟩|he
  ·obtain⟨w',more,hK,h1,h2,hkp,h3,h4,h5,h6⟩:=ih he T hZ h hag
   refine⟨w',#[⟨.mark .noRoom,false,true⟩]++more,hK,h1,h2,hkp,h3,h4,by rw[h5];simp,fun y hy=>?_⟩
   rcases Array.mem_append.1 hy with hy|hy
   ·simp at hy;subst hy;exact .inr (.inr rfl)
   ·exact h6 y hy
  ·exact(Sem.Dead.not_ok he _ _ _ _ _ h).elim
 | halt h'=>intro v w es b v' es' _ _ h;simp[Sem.runT]at h
/-! ### tame where it stands -/
def TameAt (P:Program) {β:Type} (K:β→Prop) (e:Sem β) (v:World):Prop:=
 ∃(α:Type) (e1:Sem α) (f:α→Sem β),e=e1.bind f∧e1.Tame P (fun _=>True)∧∀a v1 es es1,e1.runT P v es=(.ok a v1,es1)→(f a).Tame P K
section
variable {P:Program} {β:Type} {K:β→Prop} {e:Sem β}
end
end Go.Fxa
namespace Go
open Go.Fxa
section
variable {P:Program} {β:Type} {K:β→Prop} {e:Sem β}
theorem Sem.Tame.here (h:e.Tame P K) (v:World):TameAt P K e v:=⟨Unit,.pure (),fun _=>e,rfl,trivial,fun _ _ _ _ _=>h⟩
end
end Go
namespace Go.Fxa
section
variable {P:Program} {β:Type} {K:β→Prop} {e:Sem β}
theorem plain_run {α:Type} {e:Sem α} {K:α→Prop} (he:e.Tame P K) {v v':World} {es es':Array Event} {a:α} (hp:∀(r:Nat) (o:Obj),v.heap[r]?=some o→o.plain=true) (h:e.runT P v es=(.ok a v',es')):∀(r:Nat) (o:Obj),v'.heap[r]?=some o→o.plain=true:=by
 obtain⟨_,_,_,_,T,_⟩:=twin_run (Od:=noOld) (Z:=fun _=>False) (w:=v) he (@Twin.mk noOld _ _ _ rfl (fun _ _ _=>rfl) (fun _ h=>h.elim) hp rfl rfl (fun _ h=>False.elim h) (fun _ h=>False.elim h) (fun _ h=>False.elim h)) (fun _ h=>h.elim) h (fun _ _ _=>rfl)
 exact T.plain
theorem grows_at {v v':World} {es es':Array Event} {b:β} (he:TameAt P K e v) (hp:∀(r:Nat) (o:Obj),v.heap[r]?=some o→o.plain=true) (h:e.runT P v es=(.ok b v',es')):v.drawn≤v'.drawn∧v'.tape=v.tape∧v.heap.size≤v'.heap.size:=by
 obtain⟨α,e1,f,rfl,h1,hf⟩:=he
 rw[Sem.runT_bind']at h
 cases hr:e1.runT P v es with
 | mk r es1=>
  cases r with
  | halt hh w1=>rw[hr]at h;simp at h
  | ok a v1=>
   rw[hr]at h
   have g1:=aj9 h1 hp hr
   have g2:=aj9 (hf _ _ _ _ hr) (plain_run h1 hp hr) h
   exact⟨Nat.le_trans g1.1 g2.1,g2.2.1.trans g1.2.1,Nat.le_trans g1.2.2 g2.2.2⟩
theorem hard_at {v v':World} {es es':Array Event} {h':Halt} (he:TameAt P K e v) (hp:∀(r:Nat) (o:Obj),v.heap[r]?=some o→o.plain=true) (h:e.runT P v es=(.halt h' v',es')):h'.hard=true:=by
 obtain⟨α,e1,f,rfl,h1,hf⟩:=he
 rw[Sem.runT_bind']at h
 cases hr:e1.runT P v es with
 | mk r es1=>
  cases r with
  | halt hh w1=>
   rw[hr]at h
   simp only[Prod.mk.injEq,Result.halt.injEq]at h
   rw[←h.1.1]
   exact tame_hard h1 hp hr
  | ok a v1=>
   rw[hr]at h
   exact tame_hard (hf _ _ _ _ hr) (plain_run h1 hp hr) h
theorem twin_at {Od:Old} {Z:Nat→Prop} {v w v':World} {es es':Array Event} {b:β} (he:TameAt P K e v) (T:Twin Od Z v w) (hZ:∀r,Z r→r<v.heap.size) (h:e.runT P v es=(.ok b v',es'))
  (hag:∀j,j<v'.drawn-v.drawn→∀q,w.tape (w.drawn+j) q=v.tape (v.drawn+j) q):
  ∃w' more,K b∧e.runT P w es=(.ok b w',es')∧Twin Od Z v' w'∧(∀r,Z r→w'.heap[r]?=w.heap[r]?)∧w'.tape=w.tape∧w'.drawn=w.drawn+(v'.drawn-v.drawn)∧es'=es++more∧∀x∈more,EvT Z v'.heap.size x:=by
 obtain⟨α,e1,f,rfl,h1,hf⟩:=he
 rw[Sem.runT_bind']at h
 cases hr:e1.runT P v es with
 | mk r es1=>
  cases r with
  | halt hh w1=>rw[hr]at h;simp at h
  | ok a v1=>
   rw[hr]at h
   have hfa:=hf _ _ _ _ hr
   have g1:=aj9 h1 T.plain hr
   have g2:=aj9 hfa (plain_run h1 T.plain hr) h
   obtain⟨w1,m1,_,k1,T1,kz1,kt1,kd1,ke1,kv1⟩:=twin_run h1 T hZ hr (fun j hj=>hag j (by omega))
   obtain⟨w2,m2,hK,k2,T2,kz2,kt2,kd2,ke2,kv2⟩:=twin_run hfa T1 (fun r hr=>Nat.lt_of_lt_of_le (hZ r hr) g1.2.2) h (fun j hj q=>by
    have:=hag (v1.drawn-v.drawn+j) (by omega) q
    have e1:w.drawn+(v1.drawn-v.drawn+j)=w1.drawn+j:=by omega
    have e2:v.drawn+(v1.drawn-v.drawn+j)=v1.drawn+j:=by omega
    rw[e1,e2]at this
    rw[kt1,g1.2.1]
    exact this)
   refine⟨w2,m1++m2,hK,?_,T2,fun r hr=>(kz2 r hr).trans (kz1 r hr),kt2.trans kt1,by omega,by rw[ke2,ke1,Array.append_assoc],fun x hx=>?_⟩
   ·rw[Sem.runT_bind',k1];exact k2
   ·rcases Array.mem_append.1 hx with hx|hx
    ·exact(kv1 x hx).mono g2.2.2
    ·exact kv2 x hx
end
end Go.Fxa
namespace Go.Fxa
open Go.Conc
def NextOk (L:FuncId→Prop):Next→Prop
 | .value _=>True
 | .skip=>True
 | .enter f _=>L f
 | _=>False
def OpOk (P:Program) (L:FuncId→Prop) (o:Oper):Prop:=
 ∀(fr:Frame) (v:World),(∀(r:Nat) (ob:Obj),v.heap[r]?=some ob→ob.plain=true)→(∀f,o.about P v fr.eval=some f→L f)→TameAt P (NextOk L) (execOp fr.eval o) v
end Go.Fxa
namespace Go
open Go.Fxa
open Go.Conc
def Code.allOps (p:Oper→Bool):Code→Bool
 | .skip=>true
 | .region _ ops _=>ops.all p
 | .seq a b=>a.allOps p && b.allOps p
 | .cond _ a b=>a.allOps p && b.allOps p
 | .block _ a=>a.allOps p
 | .loop a=>a.allOps p
 | .exit _=>true
 | .label _=>true
 | .ret=>true
 | .rangeFunc ..=>false
 | .scope _=>false
 | .goto _=>false
 | .refuse _=>true
end Go
namespace Go.Fxa
open Go.Conc
end Go.Fxa
namespace Go
open Go.Fxa
open Go.Conc
def Item.fine (p:Oper→Bool):Item→Bool
 | .code c=>c.allOps p
 | .inBlock _=>true
 | .inLoop c=>c.allOps p
 | .inRegion ops _=>ops.all p
 | _=>false
end Go
namespace Go.Fxa
open Go.Conc
structure Fine (P:Program) (L:FuncId→Prop) (p:Oper→Bool):Prop where
 op:∀o,p o=true→OpOk P L o
 body:∀f,L f→∃fn c,P.funcs[f]?=some fn∧fn.body=some c∧c.allOps p=true
 init:∀f,L f→P.inits.idxOf? f=none
structure FrameOk (P:Program) (L:FuncId→Prop) (p:Oper→Bool) (fr:Frame):Prop where
 fn:∃fn,P.funcs[fr.fn]?=some fn∧P.inits.idxOf? fr.fn=none
 defers:fr.defers=[]
 kind:fr.kind=.normal
 round:fr.roundOf=none
 todo:∀it∈fr.todo,it.fine p=true
section
variable {P:Program} {L:FuncId→Prop} {p:Oper→Bool} {Z:Nat→Prop}
theorem exitTo_sub {id:Nat}:∀{k k':List Item},exitTo id k=some k'→∀it∈k',it∈k
 | [],k',h=>by simp[exitTo]at h
 | it::k,k',h=>by
  intro x hx
  cases it with
  | inBlock id'=>
   simp only[exitTo]at h
   split at h
   ·obtain rfl:=Option.some.inj h;exact List.mem_cons_of_mem _ hx
   ·exact List.mem_cons_of_mem _ (exitTo_sub h x hx)
  | _=>simp only[exitTo]at h;exact List.mem_cons_of_mem _ (exitTo_sub h x hx)
theorem al9 {fr:Frame} (h:FrameOk P L p fr) (v:Value):FrameOk P L p (fr.finish v):=by
 obtain⟨h1,h2,h3,h4,h5⟩:=h
 unfold Frame.finish
 split<;>first
  | exact⟨h1,h2,h3,h4,h5⟩
  | (rename_i e
     refine⟨h1,h2,h3,h4,fun it hit=>?_⟩
     rw[e]at h5
     have h6:=h5 _ (List.mem_cons_self ..)
     first
      | (simp[Item.fine]at h6;done)
      | (rcases List.mem_cons.1 hit with rfl|hit
         ·first|exact h6|(simp[Item.fine]at h6;done)
         ·exact h5 it (List.mem_cons_of_mem _ hit)))
theorem aj7 (fr:Frame) (v:Value):(fr.finish v).mode=fr.mode:=by
 unfold Frame.finish;split<;>rfl
theorem frameOk_enter (F:Fine P L p) {f:FuncId} (hf:L f) (args:Array Value):FrameOk P L p (Frame.enter P f args .normal):=by
 obtain⟨fn,c,h1,h2,h3⟩:=F.body f hf
 refine⟨⟨fn,h1,F.init f hf⟩,rfl,rfl,rfl,fun it hit=>?_⟩
 simp only[Frame.enter,h1,Option.bind_some,h2,Option.getD_some,List.mem_singleton]at hit
 subst hit
 exact h3
end
section
variable {P:Program} {α β:Type}
theorem tame_mono {e:Sem α} {K K':α→Prop} (h:e.Tame P K) (hk:∀a,K a→K' a):e.Tame P K':=by
 induction e with
 | pure a=>exact hk a h
 | load m a k ih=>exact fun x=>ih x (h x)
 | store m a v k ih=>exact ih h
 | new o k ih=>exact⟨h.1,fun x=>ih x (h.2 x)⟩
 | shape r k ih=>exact⟨fun x=>ih x (h.1 x),h.2⟩
 | freeze a n k ih=>exact h
 | frozen a k ih=>exact h
 | getObj r k ih=>exact⟨fun x hx=>ih x (h.1 x hx),h.2⟩
 | setObj r o k ih=>exact h
 | choose q k ih=>exact fun x=>ih x (h x)
 | sys c k ih=>exact h
 | program k ih=>exact ih P h
 | mark m k ih=>exact h.elim (fun h=>.inl ⟨h.1,ih h.2⟩) .inr
 | halt h'=>exact h
theorem ab8 {e:Sem α} {K:α→Prop} (h:e.Tame P K):e.Tame P fun _=>True:=tame_mono h fun _ _=>trivial
theorem ae9 {e:Sem α} {f:α→Sem β} {K:α→Prop} {K':β→Prop} (h:e.Tame P K) (hf:∀a,K a→(f a).Tame P K'):(e>>= f).Tame P K':=Sem.Tame.bind h hf
theorem aa1 {e:Sem α} {f:α→Sem β} {K':β→Prop} (h:e.Tame P fun _=>True) (hf:∀a,(f a).Tame P K'):(e>>= f).Tame P K':=Sem.Tame.bind h fun a _=>hf a
theorem dead_bind {e:Sem α} {f:α→Sem β} {K':β→Prop} (h:e.Dead P):(e>>= f).Tame P K':=(Sem.Dead.bind h).tame
theorem tame_map {e:Sem α} {f:α→β} {K:α→Prop} {K':β→Prop} (h:e.Tame P K) (hf:∀a,K a→K' (f a)):(Functor.map f e).Tame P K':=by
 rw[map_eq_pure_bind];exact ae9 h fun a ha=>hf a ha
theorem aa5 {a:α} {K:α→Prop} (h:K a):(Pure.pure a:Sem α).Tame P K:=h
theorem aa7 {s:String} {K:α→Prop}:(stuck s:Sem α).Tame P K:=rfl
theorem dead_stuck {s:String}:(stuck s:Sem α).Dead P:=rfl
theorem tame_goPanic {v:Value} {K:α→Prop}:(goPanic v:Sem α).Tame P K:=rfl
theorem dead_goPanic {v:Value}:(goPanic v:Sem α).Dead P:=rfl
theorem ab1 {c:Prop} [Decidable c] {x y:Sem α} {K:α→Prop} (h1:c→x.Tame P K) (h2:¬c→y.Tame P K):(if c then x else y).Tame P K:=by
 split
 ·exact h1 ‹_›
 ·exact h2 ‹_›
theorem tame_load {a:Addr} {m:Mode}:(load a m).Tame P fun _=>True:=fun _=>trivial
theorem tame_store {a:Addr} {v:Value} {m:Mode}:(store a v m).Tame P fun _=>True:=trivial
theorem tame_newObj {o:Obj} (h:o.plain=true):(newObj o).Tame P fun _=>True:=⟨h,fun _=>trivial⟩
theorem ad6:(program).Tame P fun p=>p=P:=rfl
theorem ag6 {q:Question}:(choose q).Tame P fun _=>True:=fun _=>trivial
theorem ak5 {t:TypeId}:(typeInfo t).Tame P fun i=>P.info? t=some i:=by
 refine ae9 ad6 fun p hp=>?_
 subst hp
 cases h:p.info? t with
 | none=>exact aa7
 | some i=>exact rfl
theorem ab0 {t:TypeId}:(underlying t).Tame P fun d=>P.underlying t=some d:=by
 refine ae9 ad6 fun p hp=>?_
 subst hp
 cases h:p.underlying t with
 | none=>exact aa7
 | some i=>exact rfl
theorem af9 {t:TypeId}:(zeroValue t).Tame P fun _=>True:=by
 refine ae9 ak5 fun i _=>?_
 split
 ·trivial
 ·rfl
theorem tame_sizeOf {t:TypeId}:(sizeOf t).Tame P fun n=>∃i,P.info? t=some i∧i.size=n:=ae9 ak5 fun i hi=>⟨i,hi,rfl⟩
theorem tame_isAgg {t:TypeId}:(isAgg t).Tame P fun _=>True:=by
 refine ae9 ab0 fun d _=>?_
 split<;>trivial
theorem tame_loadCellsFrom {a:Addr}:∀{n i:Nat} {acc:Array Value},(loadCellsFrom a i n acc).Tame P fun _=>True
 | 0,_,_=>trivial
 | _+1,_,_=>aa1 tame_load fun _=>tame_loadCellsFrom
theorem tame_loadCells {a:Addr} {n:Nat}:(loadCells a n).Tame P fun _=>True:=tame_loadCellsFrom
theorem ag3 {a:Addr}:∀{vs:List Value} {i:Nat},(storeCells a vs i).Tame P fun _=>True
 | [],_=>trivial
 | _::_,_=>aa1 tame_store fun _=>ag3
theorem aj8 {t:TypeId} {a:Addr}:(loadVar t a).Tame P fun _=>True:=
 aa1 tame_isAgg fun _=>ab1 (fun _=>aa1 (ab8 tame_sizeOf) fun _=>aa1 tame_loadCells fun _=>trivial) fun _=>tame_load
theorem tame_storeVar {t:TypeId} {a:Addr} {v:Value}:(storeVar t a v).Tame P fun _=>True:=
 aa1 (ab8 tame_sizeOf) fun _=>ab1 (fun _=>aa1 aa7 fun _=>ag3) fun _=>ag3
theorem an6 {t:TypeId} {cs:Array Value}:(newRow t cs).Tame P fun _=>True:=aa1 (tame_newObj rfl) fun _=>trivial
theorem tame_newVar {t:TypeId} {v:Value}:(newVar t v).Tame P fun _=>True:=an6
theorem tame_elemOf {t:TypeId}:(elemOf t).Tame P fun _=>True:=by
 refine aa1 (ab8 ab0) fun d=>?_
 cases d<;>first|trivial|rfl
theorem ab6 {e:RuntimeError} {K:α→Prop}:(runtimePanic e:Sem α).Tame P K:=by
 refine aa1 (ab8 ad6) fun p=>?_
 cases e<;>first
  | exact tame_goPanic
  | exact aa1 tame_elemOf fun _=>aa1 tame_newVar fun _=>tame_goPanic
theorem ah2 {k:IntKind} {x y:Int} {c:BoundsCode} {K:α→Prop}:(boundsPanic k x y c:Sem α).Tame P K:=by
 unfold boundsPanic
 split
 ·exact aa1 (tame_map ag6 fun _ _=>trivial) fun _=>ab6
 ·exact aa1 (aa5 trivial) fun _=>ab6
theorem tame_asIntOf {v:Value}:(asIntOf v).Tame P fun x=>v=.int x.1 x.2:=by
 cases v<;>first|rfl|(rename_i a;cases a<;>rfl)
theorem tame_asInt {v:Value}:(asInt v).Tame P fun _=>True:=ae9 tame_asIntOf fun _ _=>trivial
theorem tame_asBool {v:Value}:(asBool v).Tame P fun _=>True:=by cases v<;>first|trivial|rfl
theorem tame_asAgg {v:Value}:(asAgg v).Tame P fun _=>True:=by cases v<;>first|trivial|rfl
theorem ao0 {v:Value}:(asAddr v).Tame P fun _=>True:=by
 cases v<;>first|rfl|(rename_i a;cases a<;>first|trivial|exact ab6)
theorem ak6 {v:Value}:(Instr.sureAddr v).Tame P fun _=>True:=by
 cases v<;>first|rfl|(rename_i a;cases a<;>first|trivial|rfl)
theorem am1 {t:TypeId} {cs:Array Value} {o:Nat}:(part t cs o).Tame P fun _=>True:=by
 refine aa1 tame_isAgg fun b=>ab1 (fun _=>aa1 (ab8 tame_sizeOf) fun _=>trivial) fun _=>?_
 cases cs[o]?<;>first|trivial|rfl
theorem tame_mapM {f:α→Sem β} (hf:∀a,(f a).Tame P fun _=>True):∀l:List α,(l.mapM f).Tame P fun _=>True
 | []=>by rw[List.mapM_nil];exact trivial
 | a::l=>by rw[List.mapM_cons];exact aa1 (hf a) fun _=>aa1 (tame_mapM hf l) fun _=>trivial
theorem tame_mapMA {f:α→Sem β} (hf:∀a,(f a).Tame P fun _=>True) (l:Array α):(l.mapM f).Tame P fun _=>True:=by
 rw[Array.mapM_eq_mapM_toList]
 exact tame_map (tame_mapM hf _) fun _ _=>trivial
theorem tame_results {fn:Func} {tmps:Array Value}:(results fn tmps).Tame P fun _=>True:=by
 refine aa1 (tame_mapMA (fun r=>?_) _) fun vs=>trivial
 cases r with
 | tmp t=>trivial
 | cell a t=>exact aa1 ao0 fun _=>aj8
end
end Go.Fxa
