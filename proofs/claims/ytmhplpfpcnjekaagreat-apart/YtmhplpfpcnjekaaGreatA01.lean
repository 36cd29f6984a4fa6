/- A run of one goroutine's opera -/
import Derived.Conc.Beside
import Derived.Conc.Listed
import Derived.Fence
import GoSem.Extern.SlicesOverlaps
import Derived.Laws.Sem
abbrev Go.Z_:=List Go.Frame
abbrev Go.Y_:=Nat->Go.Value
abbrev Go.X_:=Array Go.Value
abbrev Go.W_:=Nat×Nat
abbrev Go.V_:Go.Obj:=.cells #[.int .u16 0,.int .u16 0,.nilFunc] 206
abbrev Go.U_:=List Go.Value
abbrev Go.T_ (b o:Nat):Go.Addr:=⟨b,o,none⟩
abbrev Go.S_ (b:Nat):Go.Addr:=⟨b,0,none⟩
abbrev Go.R_ (b:Nat):Go.Value:=.pointer (some ⟨b,0,none⟩)
namespace Go.Fxa
end Go.Fxa
namespace Go
open Go.Fxa
def World.re (w:World) (τ:Nat->Question->Nat) (d:Nat):World:={ w with tape:=τ,drawn:=d }
end Go
namespace Go.Fxa
end Go.Fxa
namespace Go
open Go.Fxa
def Halt.IM:Halt->Bool
 | .panic _=>true
 | .stuck _=>true
 | .unsupported (.initOrder _)=>false
 | .unsupported _=>true
 | _=>false
end Go
namespace Go.Fxa
def CB:Obj:=.view ⟨0,0,some 0⟩ 0
end Go.Fxa
namespace Go
open Go.Fxa
def Obj.plain:Obj->Bool
 | .view a _=>a.spot.isSome
 | .pending ..=>false
 | .loop _=>false
 | .map ..=>false
 | _=>true
end Go
namespace Go.Fxa
def DK (P:Program) (r:Nat) {α:Type} (e:Sem α):Prop:=∀(w:World) (es:Array Event) (a:α) (w':World) (BQ:Array Event),(∀(r:Nat) (o:Obj),w.heap[r]?=some o->o.plain=true)->w.heap[r]?=some CB->e.runT P w es≠(.ok a w',BQ)
end Go.Fxa
namespace Go
open Go.Fxa
def Sem.DL (P:Program) {α:Type}:Sem α->Prop
 | .pure _=>False
 | .load _ _ k=>∀x,(k x).DL P
 | .store _ _ _ k=>k.DL P
 | .new o k=>o.plain=true/\∀r,(k r).DL P
 | .shape _ k=>∀s,(k s).DL P
 | .freeze _ _ k=>k.DL P
 | .frozen _ k=>∀b,(k b).DL P
 | .getObj _ k=>∀o,(k o).DL P
 | .setObj _ o k=>o.plain=true/\k.DL P
 | .choose _ k=>∀n,(k n).DL P
 | .sys _ k=>∀r,(k r).DL P
 | .program k=>(k P).DL P
 | .mark _ k=>k.DL P
 | .halt h=>h.IM=true
end Go
namespace Go.Fxa
end Go.Fxa
namespace Go
open Go.Fxa
def Sem.Am (P:Program) {α:Type} (K:α->Prop):Sem α->Prop
 | .pure a=>K a
 | .load _ _ k=>∀x,(k x).Am P K
 | .store _ _ _ k=>k.Am P K
 | .new o k=>o.plain=true/\∀r,(k r).Am P K
 | .shape r k=>(∀s,(k s).Am P K)/\DK P r (k none)
 | .freeze _ _ k=>k.DL P
 | .frozen _ k=>∀b,(k b).DL P
 | .getObj r k=>(∀o,o.plain=true->(k o).Am P K)/\DK P r (k CB)
 | .setObj _ o k=>o.plain=true/\k.DL P
 | .choose _ k=>∀n,(k n).Am P K
 | .sys _ k=>∀r,(k r).DL P
 | .program k=>(k P).Am P K
 | .mark m k=>(m=.noRoom/\k.Am P K)\/k.DL P
 | .halt h=>h.IM=true
end Go
namespace Go.Fxa
section
variable {P:Program} {α β:Type}
end
end Go.Fxa
namespace Go
open Go.Fxa
section
variable {P:Program} {α β:Type}
theorem Sem.DL.IV {e:Sem α} (h:e.DL P):∀w es a w' BQ,e.runT P w es≠(.ok a w',BQ):=by
 induction e with
 | pure a=>exact h.elim
 | load m a k ih=>
  intro w es b w' BQ he
  simp only[Sem.runT]at he
  split at he
  ·exact ih _ (h _) _ _ _ _ _ he
  ·split at he
   ·exact ih _ (h _) _ _ _ _ _ he
   ·simp at he
 | store m a v k ih=>
  intro w es b w' BQ he
  cases v<;>simp only[Sem.runT]at he<;>first
   | (simp at he;done)
   | (split at he
      ·split at he
       ·simp at he
       ·exact ih h _ _ _ _ _ he
      ·split at he
       ·exact ih h _ _ _ _ _ he
       ·simp at he)
 | new o k ih=>exact fun w es b w' BQ he=>ih _ (h.2 _) _ _ _ _ _ he
 | shape r k ih=>exact fun w es b w' BQ he=>ih _ (h _) _ _ _ _ _ he
 | freeze a n k ih=>exact fun w es b w' BQ he=>ih h _ _ _ _ _ he
 | frozen a k ih=>exact fun w es b w' BQ he=>ih _ (h _) _ _ _ _ _ he
 | getObj r k ih=>
  intro w es b w' BQ he
  simp only[Sem.runT]at he
  split at he
  ·simp at he
  ·exact ih _ (h _) _ _ _ _ _ he
  ·simp at he
 | setObj r o k ih=>
  intro w es b w' BQ he
  simp only[Sem.runT]at he
  split at he
  ·simp at he
  ·exact ih h.2 _ _ _ _ _ he
  ·simp at he
 | choose q k ih=>
  intro w es b w' BQ he
  simp only[Sem.runT]at he
  split at he
  ·exact ih _ (h _) _ _ _ _ _ he
  ·exact ih _ (h _) _ _ _ _ _ he
 | sys c k ih=>exact fun w es b w' BQ he=>ih _ (h _) _ _ _ _ _ he
 | program k ih=>exact fun w es b w' BQ he=>ih _ h _ _ _ _ _ he
 | mark m k ih=>exact fun w es b w' BQ he=>ih h _ _ _ _ _ he
 | halt h'=>intro w es b w' BQ he;simp[Sem.runT]at he
end
end Go
namespace Go.Fxa
section
variable {P:Program} {α β:Type}
end
end Go.Fxa
namespace Go
open Go.Fxa
section
variable {P:Program} {α β:Type}
theorem Sem.DL.WI {e:Sem α} {K:α->Prop} (h:e.DL P):e.Am P K:=by
 induction e with
 | pure a=>exact h.elim
 | load m a k ih=>exact fun x=>ih x (h x)
 | store m a v k ih=>exact ih h
 | new o k ih=>exact⟨h.1,fun x=>ih x (h.2 x)⟩
 | shape r k ih=>exact⟨fun x=>ih x (h x),fun w es a w' BQ _ _=>(h none).IV w es a w' BQ⟩
 | freeze a n k ih=>exact h
 | frozen a k ih=>exact h
 | getObj r k ih=>exact⟨fun x _=>ih x (h x),fun w es a w' BQ _ _=>(h CB).IV w es a w' BQ⟩
 | setObj r o k ih=>exact h
 | choose q k ih=>exact fun x=>ih x (h x)
 | sys c k ih=>exact h
 | program k ih=>exact ih P h
 | mark m k ih=>exact .inr h
 | halt h'=>exact h
end
end Go
namespace Go.Fxa
section
variable {P:Program} {α β:Type}
end
end Go.Fxa
namespace Go
open Go.Fxa
section
variable {P:Program} {α β:Type}
theorem Sem.DL.bind {e:Sem α} {f:α->Sem β} (h:e.DL P):(e.bind f).DL P:=by
 induction e with
 | pure a=>exact h.elim
 | load m a k ih=>exact fun x=>ih x (h x)
 | store m a v k ih=>exact ih h
 | new o k ih=>exact⟨h.1,fun x=>ih x (h.2 x)⟩
 | shape r k ih=>exact fun x=>ih x (h x)
 | freeze a n k ih=>exact ih h
 | frozen a k ih=>exact fun x=>ih x (h x)
 | getObj r k ih=>exact fun x=>ih x (h x)
 | setObj r o k ih=>exact⟨h.1,ih h.2⟩
 | choose q k ih=>exact fun x=>ih x (h x)
 | sys c k ih=>exact fun x=>ih x (h x)
 | program k ih=>exact ih P h
 | mark m k ih=>exact ih h
 | halt h'=>exact h
end
end Go
namespace Go.Fxa
section
variable {P:Program} {α β:Type}
theorem Jj {e:Sem α} {f:α->Sem β}:∀{w:World} {es:Array Event} {b:β} {w':World} {BQ:Array Event},(e.bind f).runT P w es=(.ok b w',BQ)->∃a w1 JX,e.runT P w es=(.ok a w1,JX):=by
 intro w es b w' BQ h;rw[Sem.runT_bind']at h;cases hr:e.runT P w es with
 | mk r JX=>
  cases r with
  | ok a w1=>exact⟨a,w1,JX,rfl⟩
  | halt hh w1=>rw[hr]at h;simp at h
theorem DK.bind {r:Nat} {e:Sem α} {f:α->Sem β} (h:DK P r e):DK P r (e.bind f):=fun w es b w' BQ hp hr he=>by
 obtain⟨a,w1,JX,h1⟩:=Jj he;exact h w es a w1 JX hp hr h1
end
end Go.Fxa
namespace Go
open Go.Fxa
section
variable {P:Program} {α β:Type}
theorem Sem.Am.bind {e:Sem α} {f:α->Sem β} {K:α->Prop} {K':β->Prop} (h:e.Am P K) (hf:∀a,K a->(f a).Am P K'):(e.bind f).Am P K':=by
 induction e with
 | pure a=>exact hf a h
 | load m a k ih=>exact fun x=>ih x (h x)
 | store m a v k ih=>exact ih h
 | new o k ih=>exact⟨h.1,fun x=>ih x (h.2 x)⟩
 | shape r k ih=>exact⟨fun x=>ih x (h.1 x),h.2.bind⟩
 | freeze a n k ih=>exact Sem.DL.bind h
 | frozen a k ih=>exact fun x=>(h x).bind
 | getObj r k ih=>exact⟨fun x hx=>ih x (h.1 x hx),h.2.bind⟩
 | setObj r o k ih=>exact⟨h.1,Sem.DL.bind h.2⟩
 | choose q k ih=>exact fun x=>ih x (h x)
 | sys c k ih=>exact fun x=>(h x).bind
 | program k ih=>exact ih P h
 | mark m k ih=>exact h.elim (fun h=>.inl ⟨h.1,ih h.2⟩) fun h=>.inr h.bind
 | halt h'=>exact h
end
end Go
namespace Go.Fxa
section
variable {P:Program} {α β:Type}
end
structure Old where
 dead:Nat->Prop
 ref:Nat->Obj
abbrev JG:Old:=⟨fun _=>False,fun _=>CB⟩
structure Twin (Od:Old) (Z:Nat->Prop) (v w:World):Prop where
 size:v.heap.size=w.heap.size
 same:∀r,¬Z r->¬Od.dead r->v.heap[r]?=w.heap[r]?
 dead:∀r,Z r->r<v.heap.size->v.heap[r]?=some CB
 plain:∀(r:Nat) (o:Obj),v.heap[r]?=some o->o.plain=true
 os:v.os=w.os
 output:v.output=w.output
 Io:∀r,Od.dead r->v.heap[r]?=some CB
 kept:∀r,Od.dead r->w.heap[r]?=some (Od.ref r)
 TG:∀r,Od.dead r->¬Z r
def rT (Z:Nat->Prop) (n:Nat) (e:Event):Prop:=
 (∃a,e.loc=.cell a/\¬Z a.block/\a.block<n)\/(∃r,e.loc=.obj r/\¬Z r/\r<n)\/e.loc=.mark .noRoom\/∃f,e.loc=.mark (.extern f)
theorem rT.mono {Z:Nat->Prop} {n n':Nat} {e:Event} (h:rT Z n e) (hn:n<=n'):rT Z n' e:=by
 rcases h with⟨a,h1,h2,h3⟩|⟨a,h1,h2,h3⟩|h
 ·exact .inl ⟨a,h1,h2,by omega⟩
 ·exact .inr (.inl ⟨a,h1,h2,by omega⟩)
 ·exact .inr (.inr h)
section
variable {Z:Nat->Prop} {v w:World}
theorem Twin.Rq {Od:Old} (T:Twin Od Z v w) {a:Addr} {x:Value} (h:v.cell? a=some x):¬Od.dead a.block:=fun ho=>by
 unfold World.cell? at h;rw[T.Io _ ho]at h;simp[CB]at h
theorem Twin.cell {Od:Old} (T:Twin Od Z v w) {a:Addr} {x:Value} (h:v.cell? a=some x):w.cell? a=some x/\¬Z a.block/\a.block<w.heap.size/\w.frozen? a=v.frozen? a:=by
 have hz:¬Z a.block:=by
  intro hz
  unfold World.cell? at h
  by_cases BC:a.block<v.heap.size
  ·rw[T.dead _ hz BC]at h;simp[CB]at h
  ·rw[Array.getElem?_eq_none (by omega)]at h;simp at h
 have ho:=T.Rq h;refine⟨by rw[<-h];unfold World.cell?;rw[T.same _ hz ho],hz,?_,by unfold World.frozen?;rw[T.same _ hz ho]⟩;rw[<-T.size];unfold World.cell? at h;cases e:v.heap[a.block]? with
 | none=>rw[e]at h;simp at h
 | some o=>exact(Array.getElem?_eq_some_iff.1 e).1
theorem Twin.Ot {Od:Old} (T:Twin Od Z v w) (τ τ':Nat->Question->Nat) (d d':Nat):Twin Od Z (v.re τ d) (w.re τ' d'):=
 ⟨T.size,T.same,T.dead,T.plain,T.os,T.output,T.Io,T.kept,T.TG⟩
theorem Twin.setCell {Od:Old} (T:Twin Od Z v w) {a:Addr} (x:Value) (hz:¬Z a.block) (ho:¬Od.dead a.block):Twin Od Z (v.setCell a x) (w.setCell a x):=by
 have hs:∀u:World,(u.setCell a x).heap.size=u.heap.size:=fun u=>by simp[World.setCell]
 have BN:∀(u:World) r,r≠a.block->(u.setCell a x).heap[r]?=u.heap[r]?:=fun u r hr=>by
  simp[World.setCell,Array.getElem?_modify,Ne.symm hr]
 have heq:(v.setCell a x).heap[a.block]?=(w.setCell a x).heap[a.block]?:=by
  simp only[World.setCell,Array.getElem?_modify,if_true,T.same _ hz ho]
 have hno:∀r,Od.dead r->r≠a.block:=fun r hr h=>ho (h ▸ hr)
 refine⟨by rw[hs,hs,T.size],fun r hr hro=>?_,fun r hr BC=>?_,fun r o hr=>?_,T.os,T.output,fun r hr=>by rw[BN _ _ (hno r hr)];exact T.Io r hr,fun r hr=>by rw[BN _ _ (hno r hr)];exact T.kept r hr,T.TG⟩
 ·by_cases h:r=a.block
  ·subst h;exact heq
  ·rw[BN _ _ h,BN _ _ h,T.same _ hr hro]
 ·have h:r≠a.block:=fun h=>hz (h ▸ hr)
  rw[BN _ _ h];exact T.dead r hr (by rw[hs]at BC;exact BC)
 ·by_cases h:r=a.block
  ·subst h;simp only[World.setCell,Array.getElem?_modify,if_true]at hr;cases e:v.heap[a.block]? with
   | none=>rw[e]at hr;simp at hr
   | some ob=>
    rw[e]at hr
    have:=T.plain _ _ e
    simp only[Option.map_some,Option.some.injEq]at hr
    subst hr
    cases ob<;>first|rfl|exact this
  ·rw[BN _ _ h]at hr;exact T.plain _ _ hr
theorem Twin.push {Od:Old} (T:Twin Od Z v w) {o:Obj} (ho:o.plain=true) (hz:¬Z v.heap.size):
  Twin Od Z { v with heap:=v.heap.push o } { w with heap:=w.heap.push o }:=by
 have up:∀(u:World) (r:Nat) (q:Obj),u.heap[r]?=some q->(u.heap.push o)[r]?=some q:=fun u r q h=>by
  have lt:=(Array.getElem?_eq_some_iff.1 h).1
  rw[Array.getElem?_push,if_neg (by omega)]
  exact h
 refine⟨by simp[T.size],fun r hr hro=>?_,fun r hr BC=>?_,fun r o' hr=>?_,T.os,T.output,fun r hr=>up v r _ (T.Io r hr),fun r hr=>up w r _ (T.kept r hr),T.TG⟩
 ·have e:=T.same r hr hro;simp only[Array.getElem?_push,T.size,e]
 ·simp only[Array.size_push]at BC;have:r≠v.heap.size:=fun h=>hz (h ▸ hr)
  rw[Array.getElem?_push,if_neg this];exact T.dead r hr (by omega)
 ·simp only[Array.getElem?_push]at hr;split at hr
  ·obtain rfl:=Option.some.inj hr;exact ho
  ·exact T.plain _ _ hr
end
theorem Uo {P:Program} {v:World} {a:Addr} {b:Bool} {ad:Addr} {t:TypeId} (hs:ad.spot.isSome=true) (ho:v.heap[a.block]?=some (.view ad t)):∃why,v.farLoad P a b=.error (.unsupported (.unsafePointer why)):=by
 unfold World.farLoad;rw[ho];have:∃why,v.viewLoad P ad t a b=.error why:=by
  unfold World.viewLoad World.seen
  simp only[hs,Bool.or_true,if_true]
  exact⟨_,rfl⟩
 obtain⟨why,e⟩:=this;simp only[e];exact⟨why,rfl⟩
theorem TA {P:Program} {v:World} {a:Addr} {x:Value} {b:Bool} {ad:Addr} {t:TypeId} (hs:ad.spot.isSome=true) (ho:v.heap[a.block]?=some (.view ad t)):∃why,v.farStore P a x b=.error (.unsupported (.unsafePointer why)):=by
 unfold World.farStore;rw[ho];have:∃why,v.viewStore P ad t a x b=.error why:=by
  unfold World.viewStore World.seen
  simp only[hs,Bool.or_true,if_true]
  split
  ·exact⟨_,rfl⟩
  ·exact⟨_,rfl⟩
 obtain⟨why,e⟩:=this;simp only[e];exact⟨why,rfl⟩
theorem Oj {P:Program} {v:World} (hp:∀(r:Nat) (o:Obj),v.heap[r]?=some o->o.plain=true) (a:Addr) (b:Bool):
  ∃hh,v.farLoad P a b=.error hh/\hh.IM=true:=by
 cases ho:v.heap[a.block]? with
 | none=>exact⟨_,by unfold World.farLoad;rw[ho],by simp[World.noCell,ho,Halt.IM]⟩
 | some ob=>
  have:=hp _ _ ho
  cases ob with
  | view ad t=>obtain⟨why,e⟩:=Uo (P:=P) (b:=b) this ho;exact⟨_,e,rfl⟩
  | pending c t=>cases this
  | _=>exact⟨_,by unfold World.farLoad;rw[ho],by simp[World.noCell,ho,Halt.IM]⟩
theorem JV {P:Program} {v:World} (hp:∀(r:Nat) (o:Obj),v.heap[r]?=some o->o.plain=true) (a:Addr) (x:Value) (b:Bool):
  ∃hh,v.farStore P a x b=.error hh/\hh.IM=true:=by
 cases ho:v.heap[a.block]? with
 | none=>exact⟨_,by unfold World.farStore;rw[ho],by simp[World.noCell,ho,Halt.IM]⟩
 | some ob=>
  have:=hp _ _ ho
  cases ob with
  | view ad t=>obtain⟨why,e⟩:=TA (P:=P) (x:=x) (b:=b) this ho;exact⟨_,e,rfl⟩
  | pending c t=>cases this
  | _=>exact⟨_,by unfold World.farStore;rw[ho],by simp[World.noCell,ho,Halt.IM]⟩
theorem Gf {P:Program} {α:Type} {K:α->Prop} {e:Sem α} (he:e.Am P K):∀{v:World} {es:Array Event} {a:α} {v':World} {BQ:Array Event},
  (∀(r:Nat) (o:Obj),v.heap[r]?=some o->o.plain=true)->e.runT P v es=(.ok a v',BQ)->v.drawn<=v'.drawn/\v'.tape=v.tape/\v.heap.size<=v'.heap.size:=by
 induction e with
 | pure a=>intro v es b v' BQ _ h;simp only[Sem.runT,Prod.mk.injEq,Result.ok.injEq]at h;obtain⟨⟨_,rfl⟩,_⟩:=h;simp
 | load m a k ih=>
  intro v es b v' BQ hp h
  simp only[Sem.runT]at h
  split at h
  ·exact ih _ (he _) hp h
  ·split at h
   ·exact ih _ (he _) hp h
   ·simp at h
 | store m a x k ih=>
  intro v es b v' BQ hp h
  have key:(match v.cell? a with
    | some _=>if v.frozen? a then(Result.halt (.unsupported (.unsafePointer "a write to bytes that a string shares")) v,es)else k.runT P (v.setCell a x) (es.push ⟨.cell a,true,m==.atomic⟩)
    | none=>match v.farStore P a x (m==.atomic)with
     | .ok (w,touched)=>k.runT P w (es++touched.toArray.map (⟨.cell ·,true,m==.atomic⟩))
     | .error h=>(.halt h v,es))=(.ok b v',BQ):=by
   cases x<;>first|exact h|(simp[Sem.runT]at h;done)
  clear h
  split at key
  ·split at key
   ·simp at key
   ·have:=ih he (v:=v.setCell a x) ?_ key
    ·simpa [World.setCell]using this
    ·intro r o hr;simp only[World.setCell,Array.getElem?_modify]at hr;split at hr
     ·rename_i hra;cases ho:v.heap[r]? with
      | none=>rw[ho]at hr;simp at hr
      | some ob=>
       have:=hp _ _ ho
       rw[ho]at hr
       simp only[Option.map_some,Option.some.injEq]at hr
       subst hr
       cases ob<;>first|rfl|exact this
     ·exact hp _ _ hr
  ·rename_i hc;obtain⟨hh,e,_⟩:=JV (P:=P) hp a x (m==.atomic);rw[e]at key;simp at key
 | new o k ih=>
  intro v es b v' BQ hp h
  have:=ih _ (he.2 _) (v:={ v with heap:=v.heap.push o }) (fun r ob hr=>by
   simp only[Array.getElem?_push]at hr
   split at hr
   ·obtain rfl:=Option.some.inj hr;exact he.1
   ·exact hp _ _ hr) h
  simp only[Array.size_push]at this;exact⟨this.1,this.2.1,by omega⟩
 | shape r k ih=>intro v es b v' BQ hp h;exact ih _ (he.1 _) hp h
 | freeze a n k ih=>intro v es b v' BQ _ h;exact(Sem.DL.IV he _ _ _ _ _ h).elim
 | frozen a k ih=>intro v es b v' BQ _ h;exact((he _).IV _ _ _ _ _ h).elim
 | getObj r k ih=>
  intro v es b v' BQ hp h
  simp only[Sem.runT]at h
  split at h
  ·simp at h
  ·rename_i o _ ho;exact ih _ (he.1 _ (hp _ _ ho)) hp h
  ·simp at h
 | setObj r o k ih=>
  intro v es b v' BQ _ h
  simp only[Sem.runT]at h
  split at h
  ·simp at h
  ·exact(Sem.DL.IV he.2 _ _ _ _ _ h).elim
  ·simp at h
 | choose q k ih=>
  intro v es b v' BQ hp h
  simp only[Sem.runT]at h
  split at h
  ·exact ih _ (he _) hp h
  ·have:=ih _ (he _) (v:={ v with drawn:=v.drawn+1 }) hp h;simp only at this;exact⟨by omega,this.2.1,this.2.2⟩
 | sys c k ih=>intro v es b v' BQ _ h;exact((he _).IV _ _ _ _ _ h).elim
 | program k ih=>intro v es b v' BQ hp h;exact ih _ he hp h
 | mark m k ih=>
  intro v es b v' BQ hp h
  rcases he with he|he
  ·exact ih he.2 hp h
  ·exact(Sem.DL.IV he _ _ _ _ _ h).elim
 | halt h'=>intro v es b v' BQ _ h;simp[Sem.runT]at h
theorem Uh {v:World} (hp:∀(r:Nat) (o:Obj),v.heap[r]?=some o->o.plain=true) (a:Addr) (x:Value):
  ∀(r:Nat) (o:Obj),(v.setCell a x).heap[r]?=some o->o.plain=true:=by
 intro r o hr;simp only[World.setCell,Array.getElem?_modify]at hr;split at hr
 ·cases ho:v.heap[r]? with
  | none=>rw[ho]at hr;simp at hr
  | some ob=>
   have:=hp _ _ ho
   rw[ho]at hr
   simp only[Option.map_some,Option.some.injEq]at hr
   subst hr
   cases ob<;>first|rfl|exact this
 ·exact hp _ _ hr
theorem Wj {v:World} (hp:∀(r:Nat) (o:Obj),v.heap[r]?=some o->o.plain=true) (a:Addr) (n:Nat):
  ∀(r:Nat) (o:Obj),(v.freeze a n).heap[r]?=some o->o.plain=true:=by
 intro r o hr;unfold World.freeze at hr;split at hr
 ·exact hp _ _ hr
 ·simp only[Array.getElem?_modify]at hr;split at hr
  ·cases ho:v.heap[r]? with
   | none=>rw[ho]at hr;simp at hr
   | some ob=>
    have:=hp _ _ ho
    rw[ho]at hr
    simp only[Option.map_some,Option.some.injEq]at hr
    subst hr
    cases ob<;>first|rfl|exact this
  ·exact hp _ _ hr
theorem pU (v:World) (c:Sys):(v.sys c).2.heap=v.heap:=by
 have ask:∀{β:Type} (k:Ask β) (u:World),(u.ask k).2.heap=u.heap:=by
  intro β k
  induction k with
  | done a=>intro u;rfl
  | ask what range k ih=>
   intro u
   unfold World.ask
   simp only
   split
   ·exact ih _ _
   ·exact ih _ _
 unfold World.sys;have:=ask (Kernel.perform c v.os) v;split
 ·rfl
 ·rename_i r os w' BN he;rw[he]at this;exact this
theorem UN {P:Program} {α:Type} {K:α->Prop} {e:Sem α} (he:e.Am P K):∀{v:World} {es:Array Event} {h:Halt} {v':World} {BQ:Array Event},
  (∀(r:Nat) (o:Obj),v.heap[r]?=some o->o.plain=true)->e.runT P v es=(.halt h v',BQ)->h.IM=true/\∀(r:Nat) (o:Obj),v'.heap[r]?=some o->o.plain=true:=by
 induction e with
 | pure a=>intro v es hh v' BQ _ h;simp[Sem.runT]at h
 | load m a k ih=>
  intro v es hh v' BQ hp h
  simp only[Sem.runT]at h
  split at h
  ·exact ih _ (he _) hp h
  ·obtain⟨h2,e2,hd⟩:=Oj (P:=P) hp a (m==.atomic);rw[e2]at h;simp only[Prod.mk.injEq,Result.halt.injEq]at h;rw[<-h.1.1,<-h.1.2];exact⟨hd,hp⟩
 | store m a x k ih=>
  intro v es hh v' BQ hp h
  have form:(Sem.store m a x k).runT P v es=(match v.cell? a with
    | some _=>if v.frozen? a then(Result.halt (.unsupported (.unsafePointer "a write to bytes that a string shares")) v,es)else k.runT P (v.setCell a x) (es.push ⟨.cell a,true,m==.atomic⟩)
    | none=>match v.farStore P a x (m==.atomic)with
     | .ok (w,touched)=>k.runT P w (es++touched.toArray.map (⟨.cell ·,true,m==.atomic⟩))
     | .error h=>(.halt h v,es))\/∃s,(Sem.store m a x k).runT P v es=(.halt (.stuck s) v,es):=by
   cases x<;>first|exact .inl rfl|exact .inr ⟨_,rfl⟩
  rcases form with form|⟨s,hv⟩
  case inr=>rw[hv]at h;simp only[Prod.mk.injEq,Result.halt.injEq]at h;rw[<-h.1.1,<-h.1.2];exact⟨rfl,hp⟩
  rw[form]at h
  split at h
  ·split at h
   ·simp only[Prod.mk.injEq,Result.halt.injEq]at h;rw[<-h.1.1,<-h.1.2];exact⟨rfl,hp⟩
   ·exact ih he (Uh hp a x) h
  ·obtain⟨h2,e2,hd⟩:=JV (P:=P) hp a x (m==.atomic);rw[e2]at h;simp only[Prod.mk.injEq,Result.halt.injEq]at h;rw[<-h.1.1,<-h.1.2];exact⟨hd,hp⟩
 | new o k ih=>
  intro v es hh v' BQ hp h
  exact ih _ (he.2 _) (v:={ v with heap:=v.heap.push o }) (fun r ob hr=>by
   simp only[Array.getElem?_push]at hr
   split at hr
   ·obtain rfl:=Option.some.inj hr;exact he.1
   ·exact hp _ _ hr) h
 | shape r k ih=>intro v es hh v' BQ hp h;exact ih _ (he.1 _) hp h
 | freeze a n k ih=>intro v es hh v' BQ hp h;exact ih (Sem.DL.WI he) (Wj hp a n) h
 | frozen a k ih=>intro v es hh v' BQ hp h;exact ih _ (Sem.DL.WI (he _)) hp h
 | getObj r k ih=>
  intro v es hh v' BQ hp h
  simp only[Sem.runT]at h
  split at h
  ·simp only[Prod.mk.injEq,Result.halt.injEq]at h;rw[<-h.1.1,<-h.1.2];exact⟨rfl,hp⟩
  ·rename_i o _ ho;exact ih _ (he.1 _ (hp _ _ ho)) hp h
  ·simp only[Prod.mk.injEq,Result.halt.injEq]at h;rw[<-h.1.1,<-h.1.2];exact⟨rfl,hp⟩
 | setObj r o k ih=>
  intro v es hh v' BQ hp h
  simp only[Sem.runT]at h
  split at h
  ·simp only[Prod.mk.injEq,Result.halt.injEq]at h;rw[<-h.1.1,<-h.1.2];exact⟨rfl,hp⟩
  ·refine ih (Sem.DL.WI he.2) (v:={ v with heap:=v.heap.setIfInBounds r o }) (fun r' ob hr=>?_) h;simp only[Array.getElem?_setIfInBounds]at hr;split at hr
   ·split at hr
    ·obtain rfl:=Option.some.inj hr;exact he.1
    ·simp at hr
   ·exact hp _ _ hr
  ·simp only[Prod.mk.injEq,Result.halt.injEq]at h;rw[<-h.1.1,<-h.1.2];exact⟨rfl,hp⟩
 | choose q k ih=>
  intro v es hh v' BQ hp h
  simp only[Sem.runT]at h
  split at h
  ·exact ih _ (he _) hp h
  ·exact ih _ (he _) (v:={ v with drawn:=v.drawn+1 }) hp h
 | sys c k ih=>intro v es hh v' BQ hp h;exact ih _ (Sem.DL.WI (he _)) (by rw[pU];exact hp) h
 | program k ih=>intro v es hh v' BQ hp h;exact ih _ he hp h
 | mark m k ih=>
  intro v es hh v' BQ hp h
  rcases he with he|he
  ·exact ih he.2 hp h
  ·exact ih (Sem.DL.WI he) hp h
 | halt h'=>
  intro v es hh v' BQ hp h
  simp only[Sem.runT,Prod.mk.injEq,Result.halt.injEq]at h
  rw[<-h.1.1,<-h.1.2];exact⟨he,hp⟩
theorem Pp {Od:Old} {P:Program} {α:Type} {Z:Nat->Prop} {K:α->Prop} {e:Sem α} (he:e.Am P K):∀{v w:World} {es:Array Event} {a:α} {v':World} {BQ:Array Event},
  Twin Od Z v w->(∀r,Z r->r<v.heap.size)->e.runT P v es=(.ok a v',BQ)->
  (∀j,j<v'.drawn-v.drawn->∀q,w.tape (w.drawn+j) q=v.tape (v.drawn+j) q)->
  ∃w' more,K a/\e.runT P w es=(.ok a w',BQ)/\Twin Od Z v' w'/\(∀r,Z r->w'.heap[r]?=w.heap[r]?)/\w'.tape=w.tape/\w'.drawn=w.drawn+(v'.drawn-v.drawn)/\BQ=es++more/\∀x∈more,rT Z v'.heap.size x:=by
 induction e with
 | pure a=>
  intro v w es b v' BQ T hZ h _
  simp only[Sem.runT,Prod.mk.injEq,Result.ok.injEq]at h
  obtain⟨⟨rfl,rfl⟩,rfl⟩:=h
  exact⟨w,#[],he,rfl,T,fun _ _=>rfl,rfl,by simp,by simp,by simp⟩
 | load m a k ih=>
  intro v w es b v' BQ T hZ h I6
  have hg:=Gf he T.plain h
  simp only[Sem.runT]at h
  split at h
  ·rename_i x hx;obtain⟨hw,hz,BC,_⟩:=T.cell hx;obtain⟨w',more,hK,h1,h2,hkp,h3,h4,h5,h6⟩:=ih _ (he _) T hZ h I6;refine⟨w',#[⟨.cell a,false,m==.atomic⟩]++more,hK,by simp only[Sem.runT,hw];exact h1,h2,hkp,h3,h4,by rw[h5];simp,fun y hy=>?_⟩;rcases Array.mem_append.1 hy with hy|hy
   ·simp at hy;subst hy;exact .inl ⟨a,rfl,hz,by have:=T.size;omega⟩
   ·exact h6 y hy
  ·rename_i hn;exfalso;obtain⟨hh,e,_⟩:=Oj (P:=P) T.plain a (m==.atomic);rw[e]at h;simp at h
 | store m a x k ih=>
  intro v w es b v' BQ T hZ h I6
  have form:(∀u:World,(Sem.store m a x k).runT P u es=(match u.cell? a with
    | some _=>if u.frozen? a then(Result.halt (.unsupported (.unsafePointer "a write to bytes that a string shares")) u,es)else k.runT P (u.setCell a x) (es.push ⟨.cell a,true,m==.atomic⟩)
    | none=>match u.farStore P a x (m==.atomic)with
     | .ok (w,touched)=>k.runT P w (es++touched.toArray.map (⟨.cell ·,true,m==.atomic⟩))
     | .error h=>(.halt h u,es)))\/∃s,(Sem.store m a x k).runT P v es=(.halt (.stuck s) v,es):=by
   cases x<;>first|exact .inl fun _=>rfl|exact .inr ⟨_,rfl⟩
  rcases form with form|⟨s,hv⟩
  case inr=>rw[hv]at h;simp at h
  rw[form]at h
  rw[form]
  split at h
  ·rename_i y hy;have hy0:=hy;obtain⟨hw,hz,BC,hf⟩:=T.cell hy;split at h
   ·simp at h
   ·rename_i hfz;have hs1:(v.setCell a x).heap.size=v.heap.size:=(by simp[World.setCell]);obtain⟨w',more,hK,h1,h2,hkp,h3,h4,h5,h6⟩:=ih he (T.setCell x hz (T.Rq hy)) (by rw[hs1];exact hZ) h I6;refine⟨w',#[⟨.cell a,true,m==.atomic⟩]++more,hK,?_,h2,fun r hr=>by
     rw[hkp r hr]
     have BN:a.block≠r:=fun e=>hz (e ▸ hr)
     simp[World.setCell,Array.getElem?_modify,BN],h3,h4,by rw[h5];simp,fun y hy=>?_⟩
    ·simp only[hw,hf,hfz];exact h1
    ·rcases Array.mem_append.1 hy with hy|hy
     ·have hgr:=Gf (e:=k) he (T.setCell x hz (T.Rq hy0)).plain h;simp at hy;subst hy;exact .inl ⟨a,rfl,hz,by have:=T.size;omega⟩
     ·exact h6 y hy
  ·rename_i hn;exfalso;obtain⟨hh,e,_⟩:=JV (P:=P) T.plain a x (m==.atomic);rw[e]at h;simp at h
 | new o k ih=>
  intro v w es b v' BQ T hZ h I6
  have hz:¬Z v.heap.size:=fun hz=>Nat.lt_irrefl _ (hZ _ hz)
  obtain⟨w',more,hK,h1,h2,hkp,h3,h4,h5,h6⟩:=ih _ (he.2 _) (T.push he.1 hz) (fun r hr=>by have:=hZ r hr;simp only[Array.size_push];omega) h I6
  exact⟨w',more,hK,by simp only[Sem.runT];rw[<-T.size];exact h1,h2,fun r hr=>by
   rw[hkp r hr]
   have:=hZ r hr
   rw[T.size]at this
   simp only[Array.getElem?_push]
   rw[if_neg (by omega)],h3,h4,h5,h6⟩
 | shape r k ih=>
  intro v w es b v' BQ T hZ h I6
  have h':(k (v.shape? r)).runT P v es=(.ok b v',BQ):=h
  have hz:¬Z r:=fun hz=>by
   have hd:=T.dead r hz (hZ r hz)
   have e:v.shape? r=none:=by unfold World.shape?;rw[hd];rfl
   rw[e]at h'
   exact he.2 _ _ _ _ _ T.plain hd h'
  have ho:¬Od.dead r:=fun ho=>by
   have hd:=T.Io r ho
   have e:v.shape? r=none:=by unfold World.shape?;rw[hd];rfl
   rw[e]at h'
   exact he.2 _ _ _ _ _ T.plain hd h'
  have e:w.shape? r=v.shape? r:=by unfold World.shape?;rw[T.same r hz ho]
  obtain⟨w',more,hK,h1,h2⟩:=ih _ (he.1 _) T hZ h' I6
  exact⟨w',more,hK,by simp only[Sem.runT];rw[e];exact h1,h2⟩
 | freeze a n k ih=>intro v w es b v' BQ _ _ h;exact(Sem.DL.IV he _ _ _ _ _ h).elim
 | frozen a k ih=>intro v w es b v' BQ _ _ h;exact((he _).IV _ _ _ _ _ h).elim
 | getObj r k ih=>
  intro v w es b v' BQ T hZ h I6
  have hg:=Gf he T.plain h
  simp only[Sem.runT]at h
  split at h
  ·simp at h
  ·rename_i o hno ho;have BC:=(Array.getElem?_eq_some_iff.1 ho).1;have hz:¬Z r:=fun hz=>by
    have e:=T.dead r hz BC
    rw[e]at ho
    obtain rfl:=Option.some.inj ho
    exact he.2 _ _ _ _ _ T.plain e h
   have hod:¬Od.dead r:=fun hz=>by
    have e:=T.Io r hz
    rw[e]at ho
    obtain rfl:=Option.some.inj ho
    exact he.2 _ _ _ _ _ T.plain e h
   obtain⟨w',more,hK,h1,h2,hkp,h3,h4,h5,h6⟩:=ih _ (he.1 _ (T.plain _ _ ho)) T hZ h I6;refine⟨w',#[⟨.obj r,false,o.isChan⟩]++more,hK,?_,h2,hkp,h3,h4,by rw[h5];simp,fun y hy=>?_⟩
   ·have hw:w.heap[r]?=some o:=(by rw[<-T.same r hz hod,ho]);simp only[Sem.runT,hw];cases o<;>first|exact h1|exact(hno _ _ _ rfl).elim
   ·rcases Array.mem_append.1 hy with hy|hy
    ·simp at hy;subst hy;exact .inr (.inl ⟨r,rfl,hz,by omega⟩)
    ·exact h6 y hy
  ·simp at h
 | setObj r o k ih=>
  intro v w es b v' BQ _ _ h
  simp only[Sem.runT]at h
  split at h
  ·simp at h
  ·exact(Sem.DL.IV he.2 _ _ _ _ _ h).elim
  ·simp at h
 | choose q k ih=>
  intro v w es b v' BQ T hZ h I6
  simp only[Sem.runT]at h
  split at h
  ·rename_i hq;obtain⟨w',more,hK,h1,h2⟩:=ih _ (he _) T hZ h I6;exact⟨w',more,hK,by simp only[Sem.runT,hq,if_true];exact h1,h2⟩
  ·rename_i hq;have hg:=Gf (he _) (v:={ v with drawn:=v.drawn+1 }) T.plain h;simp only at hg;have h0:w.tape w.drawn q=v.tape v.drawn q:=by
    have:=I6 0 (by omega) q
    simpa using this
   obtain⟨w',more,hK,h1,h2,hkp,h3,h4,h5,h6⟩:=ih _ (he _) (v:={ v with drawn:=v.drawn+1 }) (w:={ w with drawn:=w.drawn+1 }) ⟨T.size,T.same,T.dead,T.plain,T.os,T.output,T.Io,T.kept,T.TG⟩ hZ h (fun j hj q'=>by
    have:=I6 (j+1) (by simp only at hj;omega) q'
    have e1:w.drawn+1+j=w.drawn+(j+1):=by omega
    have e2:v.drawn+1+j=v.drawn+(j+1):=by omega
    simp only[e1,e2]
    exact this);refine⟨w',more,hK,by simp only[Sem.runT,hq,h0];exact h1,h2,hkp,h3,?_,h5,h6⟩;rw[h4];simp only;omega
 | sys c k ih=>intro v w es b v' BQ _ _ h;exact((he _).IV _ _ _ _ _ h).elim
 | program k ih=>intro v w es b v' BQ T hZ h I6;exact ih _ he T hZ h I6
 | mark m k ih=>
  intro v w es b v' BQ T hZ h I6
  rcases he with⟨rfl,he⟩|he
  ·obtain⟨w',more,hK,h1,h2,hkp,h3,h4,h5,h6⟩:=ih he T hZ h I6;refine⟨w',#[⟨.mark .noRoom,false,true⟩]++more,hK,h1,h2,hkp,h3,h4,by rw[h5];simp,fun y hy=>?_⟩;rcases Array.mem_append.1 hy with hy|hy
   ·simp at hy;subst hy;exact .inr (.inr (.inl rfl))
   ·exact h6 y hy
  ·exact(Sem.DL.IV he _ _ _ _ _ h).elim
 | halt h'=>intro v w es b v' BQ _ _ h;simp[Sem.runT]at h
/-! ### tame where it stands -/
structure FY (P:Program) {β:Type} (K:β->Prop) (e:Sem β) (v:World):Prop where
 Ir:∀{v':World} {es BQ:Array Event} {b:β},(∀(r:Nat) (o:Obj),v.heap[r]?=some o->o.plain=true)->e.runT P v es=(.ok b v',BQ)->v.drawn<=v'.drawn/\v'.tape=v.tape/\v.heap.size<=v'.heap.size
 IM:∀{v':World} {es BQ:Array Event} {h':Halt},(∀(r:Nat) (o:Obj),v.heap[r]?=some o->o.plain=true)->e.runT P v es=(.halt h' v',BQ)->h'.IM=true/\∀(r:Nat) (o:Obj),v'.heap[r]?=some o->o.plain=true
 twin:∀{Od:Old} {Z:Nat->Prop} {w v':World} {es BQ:Array Event} {b:β},Twin Od Z v w->(∀r,Z r->r<v.heap.size)->e.runT P v es=(.ok b v',BQ)->
  (∀j,j<v'.drawn-v.drawn->∀q,w.tape (w.drawn+j) q=v.tape (v.drawn+j) q)->
  ∃w' more,K b/\e.runT P w es=(.ok b w',BQ)/\Twin Od Z v' w'/\(∀r,Z r->w'.heap[r]?=w.heap[r]?)/\w'.tape=w.tape/\w'.drawn=w.drawn+(v'.drawn-v.drawn)/\BQ=es++more/\∀x∈more,rT Z v'.heap.size x
section
variable {P:Program} {β:Type} {K:β->Prop} {e:Sem β}
end
end Go.Fxa
namespace Go
open Go.Fxa
section
variable {P:Program} {β:Type} {K:β->Prop} {e:Sem β}
theorem Sem.Am.here (h:e.Am P K) (v:World):FY P K e v:=⟨fun hp hr=>Gf h hp hr,fun hp hr=>UN h hp hr,fun T hZ hr I6=>Pp h T hZ hr I6⟩
end
end Go
namespace Go.Fxa
section
variable {P:Program} {β:Type} {K:β->Prop} {e:Sem β}
theorem Ny {α:Type} {e:Sem α} {K:α->Prop} (he:e.Am P K) {v v':World} {es BQ:Array Event} {a:α} (hp:∀(r:Nat) (o:Obj),v.heap[r]?=some o->o.plain=true) (h:e.runT P v es=(.ok a v',BQ)):∀(r:Nat) (o:Obj),v'.heap[r]?=some o->o.plain=true:=by
 obtain⟨_,_,_,_,T,_⟩:=Pp (Od:=JG) (Z:=fun _=>False) (w:=v) he (@Twin.mk JG _ _ _ rfl (fun _ _ _=>rfl) (fun _ h=>h.elim) hp rfl rfl (fun _ h=>False.elim h) (fun _ h=>False.elim h) (fun _ h=>False.elim h)) (fun _ h=>h.elim) h (fun _ _ _=>rfl);exact T.plain
theorem OA {α:Type} {e1:Sem α} {f:α->Sem β} {v:World} (h1:e1.Am P (fun _=>True)) (hf:∀a v1 es JX,e1.runT P v es=(.ok a v1,JX)->FY P K (f a) v1):FY P K (e1.bind f) v:=by
 refine⟨fun {v' es BQ b} hp h=>?_,fun {v' es BQ h'} hp h=>?_,fun {Od Z w v' es BQ b} T hZ h I6=>?_⟩
 ·skip
  rw[Sem.runT_bind']at h;cases hr:e1.runT P v es with
  | mk r JX=>
   cases r with
   | halt hh w1=>rw[hr]at h;simp at h
   | ok a v1=>
    rw[hr]at h
    have g1:=Gf h1 hp hr
    have g2:=(hf _ _ _ _ hr).Ir (Ny h1 hp hr) h
    exact⟨Nat.le_trans g1.1 g2.1,g2.2.1.trans g1.2.1,Nat.le_trans g1.2.2 g2.2.2⟩
 ·skip
  rw[Sem.runT_bind']at h;cases hr:e1.runT P v es with
  | mk r JX=>
   cases r with
   | halt hh w1=>
    rw[hr]at h
    simp only[Prod.mk.injEq,Result.halt.injEq]at h
    rw[<-h.1.1,<-h.1.2]
    exact UN h1 hp hr
   | ok a v1=>
    rw[hr]at h
    exact(hf _ _ _ _ hr).IM (Ny h1 hp hr) h
 ·skip
  rw[Sem.runT_bind']at h;cases hr:e1.runT P v es with
  | mk r JX=>
   cases r with
   | halt hh w1=>rw[hr]at h;simp at h
   | ok a v1=>
    rw[hr]at h
    have hfa:=hf _ _ _ _ hr
    have g1:=Gf h1 T.plain hr
    have g2:=hfa.Ir (Ny h1 T.plain hr) h
    obtain⟨w1,m1,_,k1,T1,kz1,kt1,kd1,ke1,kv1⟩:=Pp h1 T hZ hr (fun j hj=>I6 j (by omega))
    obtain⟨w2,m2,hK,k2,T2,kz2,kt2,kd2,ke2,kv2⟩:=hfa.twin T1 (fun r hr=>Nat.lt_of_lt_of_le (hZ r hr) g1.2.2) h (fun j hj q=>by
     have:=I6 (v1.drawn-v.drawn+j) (by omega) q
     have e1:w.drawn+(v1.drawn-v.drawn+j)=w1.drawn+j:=by omega
     have e2:v.drawn+(v1.drawn-v.drawn+j)=v1.drawn+j:=by omega
     rw[e1,e2]at this
     rw[kt1,g1.2.1]
     exact this)
    refine⟨w2,m1++m2,hK,?_,T2,fun r hr=>(kz2 r hr).trans (kz1 r hr),kt2.trans kt1,by omega,by rw[ke2,ke1,Array.append_assoc],fun x hx=>?_⟩
    ·rw[Sem.runT_bind',k1];exact k2
    ·rcases Array.mem_append.1 hx with hx|hx
     ·exact(kv1 x hx).mono g2.2.2
     ·exact kv2 x hx
theorem qV {v v':World} {es BQ:Array Event} {b:β} (he:FY P K e v) (hp:∀(r:Nat) (o:Obj),v.heap[r]?=some o->o.plain=true) (h:e.runT P v es=(.ok b v',BQ)):v.drawn<=v'.drawn/\v'.tape=v.tape/\v.heap.size<=v'.heap.size:=he.Ir hp h
theorem VP {v v':World} {es BQ:Array Event} {h':Halt} (he:FY P K e v) (hp:∀(r:Nat) (o:Obj),v.heap[r]?=some o->o.plain=true) (h:e.runT P v es=(.halt h' v',BQ)):h'.IM=true:=(he.IM hp h).1
theorem OZ {Od:Old} {Z:Nat->Prop} {v w v':World} {es BQ:Array Event} {b:β} (he:FY P K e v) (T:Twin Od Z v w) (hZ:∀r,Z r->r<v.heap.size) (h:e.runT P v es=(.ok b v',BQ))
  (I6:∀j,j<v'.drawn-v.drawn->∀q,w.tape (w.drawn+j) q=v.tape (v.drawn+j) q):
  ∃w' more,K b/\e.runT P w es=(.ok b w',BQ)/\Twin Od Z v' w'/\(∀r,Z r->w'.heap[r]?=w.heap[r]?)/\w'.tape=w.tape/\w'.drawn=w.drawn+(v'.drawn-v.drawn)/\BQ=es++more/\∀x∈more,rT Z v'.heap.size x:=he.twin T hZ h I6
end
end Go.Fxa
namespace Go.Fxa
open Go.Conc
def Zo (f:FuncId):Bool:=f==197
def yG (L:FuncId->Prop) (d:Deferred):Prop:=∃f cap,d.target=.fn (.func f) cap/\L f
def Ec (L:FuncId->Prop) (b:Bool):Next->Prop
 | .value _=>True
 | .skip=>True
 | .enter f _=>L f
 | .defer d=>b=true/\yG L d
 | _=>False
def Ext (P:Program) (f:FuncId):Prop:=
 ∃fn a b,P.funcs[f]?=some fn/\(fn.name== "runtime.NumGoroutine")=false/\fn.body.isNone=true/\Extern.findNext fn=none/\Extern.find fn=some (Extern.SlicesOverlaps.overlaps a b)
def aa4 (P:Program) (L:FuncId->Prop) (b:Bool) (o:Oper):Prop:=
 ∀(fr:Frame) (v:World),(∀(r:Nat) (ob:Obj),v.heap[r]?=some ob->ob.plain=true)->(∀f,o.about P v fr.eval=some f->L f\/Ext P f)->FY P (Ec L b) (execOp fr.eval o) v
end Go.Fxa
namespace Go
open Go.Fxa Go.Conc
def Code.A9 (p:Oper->Bool):Code->Bool
 | .skip=>true
 | .region _ ops _=>ops.all p
 | .seq a b=>a.A9 p && b.A9 p
 | .cond _ a b=>a.A9 p && b.A9 p
 | .block _ a=>a.A9 p
 | .loop a=>a.A9 p
 | .exit _=>true
 | .label _=>true
 | .ret=>true
 | .rangeFunc ..=>false
 | .scope _=>false
 | .goto _=>false
 | .refuse _=>true
end Go
namespace Go.Fxa
open Go.Conc
end Go.Fxa
namespace Go
open Go.Fxa Go.Conc
def Item.DJ (p:Oper->Bool):Item->Bool
 | .code c=>c.A9 p
 | .inBlock _=>true
 | .inLoop c=>c.A9 p
 | .inRegion ops _=>ops.all p
 | _=>false
end Go
namespace Go.Fxa
open Go.Conc
structure Mi (P:Program) (L:FuncId->Prop) (p:FuncId->Oper->Bool):Prop where
 op:∀f o,p f o=true->aa4 P L (Zo f) o
 body:∀f,L f->∃fn c,P.funcs[f]?=some fn/\(fn.name== "runtime.NumGoroutine")=false/\fn.body=some c/\c.A9 (p f)=true
 init:∀f,L f->P.inits.idxOf? f=none
structure Ei (P:Program) (L:FuncId->Prop) (p:FuncId->Oper->Bool) (fr:Frame):Prop where
 fn:∃fn,P.funcs[fr.fn]?=some fn/\P.inits.idxOf? fr.fn=none
 defers:Zo fr.fn=false->fr.defers=[]
 nM:∀d∈fr.defers,yG L d
 kind:fr.kind=.normal\/fr.kind=.deferred
 round:fr.roundOf=none
 todo:∀it∈fr.todo,it.DJ (p fr.fn)=true
def JL (fr:Frame):Prop:=∃h t,fr.mode=.panicking (h::t)/\h.goexit=false/\h.recovered=false
def Below (P:Program) (L:FuncId->Prop) (p:FuncId->Oper->Bool):Frame->Z_->Prop
 | fr,[]=>Zo fr.fn=false/\fr.kind=.normal
 | fr,c::pre=>Ei P L p c/\((fr.kind=.normal/\c.mode=.run)\/(fr.kind=.deferred/\(c.mode=.returning\/JL c)))/\Below P L p c pre
section
variable {P:Program} {L:FuncId->Prop} {p:FuncId->Oper->Bool} {Z:Nat->Prop}
theorem Below.like {fr Di:Frame} {pre:Z_} (h:Below P L p fr pre) (h1:Di.fn=fr.fn) (h2:Di.kind=fr.kind):Below P L p Di pre:=by
 cases pre with
 | nil=>exact⟨by rw[h1];exact h.1,by rw[h2];exact h.2⟩
 | cons c pre=>exact⟨h.1,by rw[h2];exact h.2.1,h.2.2⟩
theorem OL {id:Nat}:∀{k k':List Item},exitTo id k=some k'->∀it∈k',it∈k
 | [],k',h=>by simp[exitTo]at h
 | it::k,k',h=>by
  intro x hx
  cases it with
  | inBlock id'=>
   simp only[exitTo]at h
   split at h
   ·obtain rfl:=Option.some.inj h;exact List.mem_cons_of_mem _ hx
   ·exact List.mem_cons_of_mem _ (OL h x hx)
  | _=>simp only[exitTo]at h;exact List.mem_cons_of_mem _ (OL h x hx)
theorem NH (fr:Frame) (v:Value):(fr.finish v).fn=fr.fn:=by unfold Frame.finish;split<;>rfl
theorem Km (fr:Frame) (v:Value):(fr.finish v).kind=fr.kind:=by unfold Frame.finish;split<;>rfl
theorem FC {fr:Frame} (h:Ei P L p fr) (v:Value):Ei P L p (fr.finish v):=by
 obtain⟨h1,h2,h2',h3,h4,h5⟩:=h;unfold Frame.finish;split<;>first
  | exact⟨h1,h2,h2',h3,h4,h5⟩
  | (rename_i e
     refine⟨h1,h2,h2',h3,h4,fun it Gb=>?_⟩
     rw[e]at h5
     have h6:=h5 _ (List.mem_cons_self ..)
     first
      | (simp[Item.DJ]at h6;done)
      | (rcases List.mem_cons.1 Gb with rfl|Gb
         ·first|exact h6|(simp[Item.DJ]at h6;done)
         ·exact h5 it (List.mem_cons_of_mem _ Gb)))
theorem ES (fr:Frame) (v:Value):(fr.finish v).mode=fr.mode:=by
 unfold Frame.finish;split<;>rfl
theorem KG (F:Mi P L p) {f:FuncId} (hf:L f) (args:X_) {kd:CallKind} (hk:kd=.normal\/kd=.deferred):Ei P L p (Frame.enter P f args kd):=by
 obtain⟨fn,c,h1,_,h2,h3⟩:=F.body f hf;refine⟨⟨fn,h1,F.init f hf⟩,fun _=>rfl,fun d hd=>(by cases hd),hk,rfl,fun it Gb=>?_⟩;simp only[Frame.enter,h1,Option.bind_some,h2,Option.getD_some,List.mem_singleton]at Gb;subst Gb;exact h3
end
section
variable {P:Program} {α β:Type}
theorem jE {e:Sem α} {K K':α->Prop} (h:e.Am P K) (hk:∀a,K a->K' a):e.Am P K':=by
 induction e with
 | pure a=>exact hk a h
 | load m a k ih=>exact fun x=>ih x (h x)
 | store m a v k ih=>exact ih h
 | new o k ih=>exact⟨h.1,fun x=>ih x (h.2 x)⟩
 | shape r k ih=>exact⟨fun x=>ih x (h.1 x),h.2⟩
 | freeze a n k ih=>exact h
 | frozen a k ih=>exact h
 | getObj r k ih=>exact⟨fun x hx=>ih x (h.1 x hx),h.2⟩
 | setObj r o k ih=>exact h
 | choose q k ih=>exact fun x=>ih x (h x)
 | sys c k ih=>exact h
 | program k ih=>exact ih P h
 | mark m k ih=>exact h.elim (fun h=>.inl ⟨h.1,ih h.2⟩) .inr
 | halt h'=>exact h
theorem AU {e:Sem α} {K:α->Prop} (h:e.Am P K):e.Am P fun _=>True:=jE h fun _ _=>trivial
theorem CX {e:Sem α} {f:α->Sem β} {K:α->Prop} {K':β->Prop} (h:e.Am P K) (hf:∀a,K a->(f a).Am P K'):(e>>= f).Am P K':=Sem.Am.bind h hf
theorem Aa {e:Sem α} {f:α->Sem β} {K':β->Prop} (h:e.Am P fun _=>True) (hf:∀a,(f a).Am P K'):(e>>= f).Am P K':=Sem.Am.bind h fun a _=>hf a
theorem kT {e:Sem α} {f:α->Sem β} {K':β->Prop} (h:e.DL P):(e>>= f).Am P K':=(Sem.DL.bind h).WI
theorem Xq {e:Sem α} {f:α->β} {K:α->Prop} {K':β->Prop} (h:e.Am P K) (hf:∀a,K a->K' (f a)):(Functor.map f e).Am P K':=by
 rw[map_eq_pure_bind];exact CX h fun a ha=>hf a ha
theorem Ad {a:α} {K:α->Prop} (h:K a):(Pure.pure a:Sem α).Am P K:=h
theorem Ai {s:String} {K:α->Prop}:(stuck s:Sem α).Am P K:=rfl
theorem dV {s:String}:(stuck s:Sem α).DL P:=rfl
theorem LK {v:Value} {K:α->Prop}:(goPanic v:Sem α).Am P K:=rfl
theorem LX {v:Value}:(goPanic v:Sem α).DL P:=rfl
theorem Ay {c:Prop} [Decidable c] {x y:Sem α} {K:α->Prop} (h1:c->x.Am P K) (h2:¬c->y.Am P K):(if c then x else y).Am P K:=by
 split
 ·exact h1 ‹_›
 ·exact h2 ‹_›
theorem UM {a:Addr} {m:Mode}:(load a m).Am P fun _=>True:=fun _=>trivial
theorem aU {a:Addr} {v:Value} {m:Mode}:(store a v m).Am P fun _=>True:=trivial
theorem Ki {o:Obj} (h:o.plain=true):(newObj o).Am P fun _=>True:=⟨h,fun _=>trivial⟩
theorem Cq:(program).Am P fun p=>p=P:=rfl
theorem Em {q:Question}:(choose q).Am P fun _=>True:=fun _=>trivial
theorem F8 {t:TypeId}:(typeInfo t).Am P fun i=>P.info? t=some i:=by
 refine CX Cq fun p hp=>?_
 subst hp;cases h:p.info? t with
 | none=>exact Ai
 | some i=>exact rfl
theorem Au {t:TypeId}:(underlying t).Am P fun d=>P.underlying t=some d:=by
 refine CX Cq fun p hp=>?_
 subst hp;cases h:p.underlying t with
 | none=>exact Ai
 | some i=>exact rfl
theorem DX {t:TypeId}:(zeroValue t).Am P fun _=>True:=by
 refine CX F8 fun i _=>?_
 split
 ·trivial
 ·rfl
theorem Kh {t:TypeId}:(sizeOf t).Am P fun n=>∃i,P.info? t=some i/\i.size=n:=CX F8 fun i hi=>⟨i,hi,rfl⟩
theorem Sw {t:TypeId}:(isAgg t).Am P fun _=>True:=by
 refine CX Au fun d _=>?_
 split<;>trivial
theorem JW {a:Addr}:∀{n i:Nat} {acc:X_},(loadCellsFrom a i n acc).Am P fun _=>True
 | 0,_,_=>trivial
 | _+1,_,_=>Aa UM fun _=>JW
theorem MZ {a:Addr} {n:Nat}:(loadCells a n).Am P fun _=>True:=JW
theorem Ef {a:Addr}:∀{vs:U_} {i:Nat},(storeCells a vs i).Am P fun _=>True
 | [],_=>trivial
 | _::_,_=>Aa aU fun _=>Ef
theorem FP {t:TypeId} {a:Addr}:(loadVar t a).Am P fun _=>True:=
 Aa Sw fun _=>Ay (fun _=>Aa (AU Kh) fun _=>Aa MZ fun _=>trivial) fun _=>UM
theorem Oa {t:TypeId} {a:Addr} {v:Value}:(storeVar t a v).Am P fun _=>True:=
 Aa (AU Kh) fun _=>Ay (fun _=>Aa Ai fun _=>Ef) fun _=>Ef
theorem Iz {t:TypeId} {cs:X_}:(newRow t cs).Am P fun _=>True:=Aa (Ki rfl) fun _=>trivial
theorem MK {t:TypeId} {v:Value}:(newVar t v).Am P fun _=>True:=Iz
theorem Yq {t:TypeId}:(elemOf t).Am P fun _=>True:=by
 refine Aa (AU Au) fun d=>?_
 cases d<;>first|trivial|rfl
theorem AX {e:RuntimeError} {K:α->Prop}:(runtimePanic e:Sem α).Am P K:=by
 refine Aa (AU Cq) fun p=>?_
 cases e<;>first
  | exact LK
  | exact Aa Yq fun _=>Aa MK fun _=>LK
theorem EN {k:IntKind} {x y:Int} {c:BoundsCode} {K:α->Prop}:(boundsPanic k x y c:Sem α).Am P K:=by
 unfold boundsPanic;split
 ·exact Aa (Xq Em fun _ _=>trivial) fun _=>AX
 ·exact Aa (Ad trivial) fun _=>AX
theorem Jg {v:Value}:(asIntOf v).Am P fun x=>v=.int x.1 x.2:=by
 cases v<;>first|rfl|(rename_i a;cases a<;>rfl)
theorem JO {v:Value}:(asInt v).Am P fun _=>True:=CX Jg fun _ _=>trivial
theorem Kj {v:Value}:(asBool v).Am P fun _=>True:=by cases v<;>first|trivial|rfl
theorem bH {v:Value}:(asAgg v).Am P fun _=>True:=by cases v<;>first|trivial|rfl
theorem IB {v:Value}:(asAddr v).Am P fun _=>True:=by
 cases v<;>first|rfl|(rename_i a;cases a<;>first|trivial|exact AX)
theorem F9 {v:Value}:(Instr.sureAddr v).Am P fun _=>True:=by
 cases v<;>first|rfl|(rename_i a;cases a<;>first|trivial|rfl)
theorem Gp {t:TypeId} {cs:X_} {o:Nat}:(part t cs o).Am P fun _=>True:=by
 refine Aa Sw fun b=>Ay (fun _=>Aa (AU Kh) fun _=>trivial) fun _=>?_
 cases cs[o]?<;>first|trivial|rfl
theorem UL {f:α->Sem β} (hf:∀a,(f a).Am P fun _=>True):∀l:List α,(l.mapM f).Am P fun _=>True
 | []=>by rw[List.mapM_nil];exact trivial
 | a::l=>by rw[List.mapM_cons];exact Aa (hf a) fun _=>Aa (UL hf l) fun _=>trivial
theorem Su {f:α->Sem β} (hf:∀a,(f a).Am P fun _=>True) (l:Array α):(l.mapM f).Am P fun _=>True:=by
 rw[Array.mapM_eq_mapM_toList];exact Xq (UL hf _) fun _ _=>trivial
theorem PM {fn:Func} {tmps:X_}:(results fn tmps).Am P fun _=>True:=by
 refine Aa (Su (fun r=>?_) _) fun vs=>trivial
 cases r with
 | tmp t=>trivial
 | cell a t=>exact Aa IB fun _=>FP
end
end Go.Fxa
