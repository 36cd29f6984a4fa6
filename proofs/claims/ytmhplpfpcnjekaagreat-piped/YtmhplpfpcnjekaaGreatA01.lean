/- A run of one goroutine's opera -/
import Derived.Conc.Beside
import Derived.Conc.Listed
import Derived.Fence
import GoSem.Extern.SlicesOverlaps
import Derived.Laws.Sem
theorem Go.z_ {α:Type _} {s:Array α} {i j:Nat} {a:α} (h:i≠j):(s.setIfInBounds i a)[j]?=s[j]?:=Array.getElem?_setIfInBounds_ne h
theorem Go.y_ {α:Type _} {s:Array α} {i:Nat} {b:α}:s[i]?=some b↔∃h:i<s.size,s[i]=b:=Array.getElem?_eq_some_iff
theorem Go.x_ {α:Type _} {a b:α} (h:some a=some b):a=b:=Option.some.inj h
theorem Go.w_ (n:Nat):n<=n:=Nat.le_refl n
theorem Go.v_ {α:Type _} {s:Array α} {i:Nat} (h:i<s.size):s[i]?=some s[i]:=Array.getElem?_eq_getElem h
theorem Go.t_ {α:Type _} {l:List α} {i:Nat} {a:α} (h:l[i]?=some a):a∈l:=List.mem_of_getElem? h
theorem Go.r_ {α:Type _} {a b:α} {l:List α}:a∈b::l↔a=b∨a∈l:=List.mem_cons
abbrev Go.o_:=Go.World
abbrev Go.n_:=Go.Value
abbrev Go.m_:=Go.Goroutine
abbrev Go.l_:=Go.Program
abbrev Go.j_:=Go.TypeId
abbrev Go.h_:=Go.FuncId
abbrev Go.f_:=Go.Addr
abbrev Go.d_:=Option
abbrev Go.b_ (x:Int):Go.Value:=.int .i64 x
abbrev Go.a_ (x:Int):Go.Value:=.int .u16 x
abbrev Go.Q_ (b n c:Nat):Go.Value:=.slice (some ⟨b,0,none⟩) n c
abbrev Go.O_ (c:Array Go.Value) (t:Go.TypeId):Go.Obj:=.cells c t (0,0)
abbrev Go.Z_:=List Go.Frame
abbrev Go.Y_:=Nat->Go.Value
abbrev Go.X_:=Array Go.Value
abbrev Go.W_:=Nat×Nat
abbrev Go.V_:Go.Obj:=.cells #[.int .u16 0,.int .u16 0,.nilFunc] 206
abbrev Go.U_:=List Go.Value
abbrev Go.T_ (b o:Nat):Go.Addr:=⟨b,o,none⟩
abbrev Go.S_ (b:Nat):Go.Addr:=⟨b,0,none⟩
abbrev Go.R_ (b:Nat):Go.Value:=.pointer (some ⟨b,0,none⟩)
namespace Go.Fxa
end Go.Fxa
namespace Go
open Go.Fxa
def World.re (w:o_) (τ:Nat->Question->Nat) (d:Nat):o_:={ w with tape:=τ,drawn:=d }
end Go
namespace Go.Fxa
end Go.Fxa
namespace Go
open Go.Fxa
def Halt.J8:Halt->Bool
 |.panic _=>true
 |.stuck _=>true
 |.unsupported (.initOrder _)=>false
 |.unsupported _=>true
 |_=>false
end Go
namespace Go.Fxa
def Dw:Obj:=.view ⟨0,0,some 0⟩ 0
end Go.Fxa
namespace Go
open Go.Fxa
def Obj.plain:Obj->Bool
 |.view a _=>a.spot.isSome
 |.pending ..=>false
 |.loop _=>false
 |.map ..=>false
 |_=>true
end Go
namespace Go.Fxa
def ED (P:l_) (r:Nat) {α:Type} (e:Sem α):Prop:=∀(w:o_) (es:Array Event) (a:α) (w':o_) (Cm:Array Event),(∀(r:Nat) (o:Obj),w.heap[r]?=some o->o.plain=true)->w.heap[r]?=some Dw->e.runT P w es≠(.ok a w',Cm)
end Go.Fxa
namespace Go
open Go.Fxa
def Sem.EE (P:l_) {α:Type}:Sem α->Prop
 |.pure _=>False
 |.load _ _ k=>∀x,(k x).EE P
 |.store _ _ _ k=>k.EE P
 |.new o k=>o.plain=true/\∀r,(k r).EE P
 |.shape _ k=>∀s,(k s).EE P
 |.freeze _ _ k=>k.EE P
 |.frozen _ k=>∀b,(k b).EE P
 |.getObj _ k=>∀o,(k o).EE P
 |.setObj _ o k=>o.plain=true/\k.EE P
 |.choose _ k=>∀n,(k n).EE P
 |.sys _ k=>∀r,(k r).EE P
 |.program k=>(k P).EE P
 |.mark _ k=>k.EE P
 |.halt h=>h.J8=true
end Go
namespace Go.Fxa
end Go.Fxa
namespace Go
open Go.Fxa
def Sem.Ap (P:l_) {α:Type} (K:α->Prop):Sem α->Prop
 |.pure a=>K a
 |.load _ _ k=>∀x,(k x).Ap P K
 |.store _ _ _ k=>k.Ap P K
 |.new o k=>o.plain=true/\∀r,(k r).Ap P K
 |.shape r k=>(∀s,(k s).Ap P K)/\ED P r (k none)
 |.freeze _ _ k=>k.EE P
 |.frozen _ k=>∀b,(k b).EE P
 |.getObj r k=>(∀o,o.plain=true->(k o).Ap P K)/\ED P r (k Dw)
 |.setObj _ o k=>o.plain=true/\k.EE P
 |.choose _ k=>∀n,(k n).Ap P K
 |.sys _ k=>∀r,(k r).EE P
 |.program k=>(k P).Ap P K
 |.mark m k=>(m=.noRoom/\k.Ap P K)\/k.EE P
 |.halt h=>h.J8=true
end Go
namespace Go.Fxa
section
variable {P:l_} {α β:Type}
end
end Go.Fxa
namespace Go
open Go.Fxa
section
variable {P:l_} {α β:Type}
theorem Sem.EE.Kq {e:Sem α} (h:e.EE P):∀w es a w' Cm,e.runT P w es≠(.ok a w',Cm):=by
 induction e with
 |pure a=>exact h.elim
 |load m a k f=>
  intro w es b w' Cm d
  simp only[Sem.runT]at d
  split at d
  .exact f _ (h _) _ _ _ _ _ d
  .split at d
   .exact f _ (h _) _ _ _ _ _ d
   .simp at d
 |store m a v k f=>
  intro w es b w' Cm d
  cases v<;>simp only[Sem.runT]at d<;>first
   |(simp at d;done)
   | (split at d
      .split at d
       .simp at d
       .exact f h _ _ _ _ _ d
      .split at d
       .exact f h _ _ _ _ _ d
       .simp at d)
 |new o k f=>exact λw es b w' Cm d=>f _ (h.2 _) _ _ _ _ _ d
 |shape r k f=>exact λw es b w' Cm d=>f _ (h _) _ _ _ _ _ d
 |freeze a n k f=>exact λw es b w' Cm d=>f h _ _ _ _ _ d
 |frozen a k f=>exact λw es b w' Cm d=>f _ (h _) _ _ _ _ _ d
 |getObj r k f=>
  intro w es b w' Cm d
  simp only[Sem.runT]at d
  split at d
  .simp at d
  .exact f _ (h _) _ _ _ _ _ d
  .simp at d
 |setObj r o k f=>
  intro w es b w' Cm d
  simp only[Sem.runT]at d
  split at d
  .simp at d
  .exact f h.2 _ _ _ _ _ d
  .simp at d
 |choose q k f=>
  intro w es b w' Cm d
  simp only[Sem.runT]at d
  split at d
  .exact f _ (h _) _ _ _ _ _ d
  .exact f _ (h _) _ _ _ _ _ d
 |sys c k f=>exact λw es b w' Cm d=>f _ (h _) _ _ _ _ _ d
 |program k f=>exact λw es b w' Cm d=>f _ h _ _ _ _ _ d
 |mark m k f=>exact λw es b w' Cm d=>f h _ _ _ _ _ d
 |halt g=>intro w es b w' Cm d;simp[Sem.runT]at d
end
end Go
namespace Go.Fxa
section
variable {P:l_} {α β:Type}
end
end Go.Fxa
namespace Go
open Go.Fxa
section
variable {P:l_} {α β:Type}
theorem Sem.EE.aW {e:Sem α} {K:α->Prop} (h:e.EE P):e.Ap P K:=by
 induction e with
 |pure a=>exact h.elim
 |load m a k b=>exact λx=>b x (h x)
 |store m a v k b=>exact b h
 |new o k b=>exact⟨h.1,λx=>b x (h.2 x)⟩
 |shape r k b=>exact⟨λx=>b x (h x),λw f a g d _ _=>(h none).Kq w f a g d⟩
 |freeze a n k b=>exact h
 |frozen a k b=>exact h
 |getObj r k b=>exact⟨λx _=>b x (h x),λw f a g d _ _=>(h Dw).Kq w f a g d⟩
 |setObj r o k b=>exact h
 |choose q k b=>exact λx=>b x (h x)
 |sys c k b=>exact h
 |program k b=>exact b P h
 |mark m k b=>exact .inr h
 |halt i=>exact h
end
end Go
namespace Go.Fxa
section
variable {P:l_} {α β:Type}
end
end Go.Fxa
namespace Go
open Go.Fxa
section
variable {P:l_} {α β:Type}
theorem Sem.EE.bind {e:Sem α} {f:α->Sem β} (h:e.EE P):(e.bind f).EE P:=by
 induction e with
 |pure a=>exact h.elim
 |load m a k b=>exact λx=>b x (h x)
 |store m a v k b=>exact b h
 |new o k b=>exact⟨h.1,λx=>b x (h.2 x)⟩
 |shape r k b=>exact λx=>b x (h x)
 |freeze a n k b=>exact b h
 |frozen a k b=>exact λx=>b x (h x)
 |getObj r k b=>exact λx=>b x (h x)
 |setObj r o k b=>exact⟨h.1,b h.2⟩
 |choose q k b=>exact λx=>b x (h x)
 |sys c k b=>exact λx=>b x (h x)
 |program k b=>exact b P h
 |mark m k b=>exact b h
 |halt d=>exact h
end
end Go
namespace Go.Fxa
section
variable {P:l_} {α β:Type}
theorem KR {e:Sem α} {f:α->Sem β}:∀{w:o_} {es:Array Event} {b:β} {w':o_} {Cm:Array Event},(e.bind f).runT P w es=(.ok b w',Cm)->∃a w1 MS,e.runT P w es=(.ok a w1,MS):=by
 intro w es b w' Cm h;rw[Sem.runT_bind']at h;cases hr:e.runT P w es with
 |mk r MS=>
  cases r with
  |ok a w1=>exact⟨a,w1,MS,rfl⟩
  |halt c w1=>rw[hr]at h;simp at h
theorem ED.bind {r:Nat} {e:Sem α} {f:α->Sem β} (h:ED P r e):ED P r (e.bind f):=λw d b m l j k i=>by
 obtain⟨a,w1,c,g⟩:=KR i;exact h w d a w1 c j k g
end
end Go.Fxa
namespace Go
open Go.Fxa
section
variable {P:l_} {α β:Type}
theorem Sem.Ap.bind {e:Sem α} {f:α->Sem β} {K:α->Prop} {K':β->Prop} (h:e.Ap P K) (hf:∀a,K a->(f a).Ap P K'):(e.bind f).Ap P K':=by
 induction e with
 |pure a=>exact hf a h
 |load m a k b=>exact λx=>b x (h x)
 |store m a v k b=>exact b h
 |new o k b=>exact⟨h.1,λx=>b x (h.2 x)⟩
 |shape r k b=>exact⟨λx=>b x (h.1 x),h.2.bind⟩
 |freeze a n k b=>exact Sem.EE.bind h
 |frozen a k b=>exact λx=>(h x).bind
 |getObj r k b=>exact⟨λx d=>b x (h.1 x d),h.2.bind⟩
 |setObj r o k b=>exact⟨h.1,Sem.EE.bind h.2⟩
 |choose q k b=>exact λx=>b x (h x)
 |sys c k b=>exact λx=>(h x).bind
 |program k b=>exact b P h
 |mark m k b=>exact h.elim (λh=>.inl ⟨h.1,b h.2⟩) λh=>.inr h.bind
 |halt g=>exact h
end
end Go
namespace Go.Fxa
section
variable {P:l_} {α β:Type}
end
structure Old where
 dead:Nat->Prop
 ref:Nat->Obj
abbrev LU:Old:=⟨λ_=>False,λ_=>Dw⟩
structure Twin (Od:Old) (Z:Nat->Prop) (v w:o_):Prop where
 size:v.heap.size=w.heap.size
 same:∀r,¬Z r->¬Od.dead r->v.heap[r]?=w.heap[r]?
 dead:∀r,Z r->r<v.heap.size->v.heap[r]?=some Dw
 plain:∀(r:Nat) (o:Obj),v.heap[r]?=some o->o.plain=true
 os:v.os=w.os
 output:v.output=w.output
 JQ:∀r,Od.dead r->v.heap[r]?=some Dw
 kept:∀r,Od.dead r->w.heap[r]?=some (Od.ref r)
 XG:∀r,Od.dead r->¬Z r
def Ϭ (Z:Nat->Prop) (n:Nat) (e:Event):Prop:=
 (∃a,e.loc=.cell a/\¬Z a.block/\a.block<n)\/(∃r,e.loc=.obj r/\¬Z r/\r<n)\/e.loc=.mark .noRoom\/∃f,e.loc=.mark (.extern f)
theorem Ϭ.mono {Z:Nat->Prop} {n n':Nat} {e:Event} (h:Ϭ Z n e) (hn:n<=n'):Ϭ Z n' e:=by
 obtain⟨a,b,c,d⟩|⟨a,b,c,d⟩|h:=h
 .exact .inl ⟨a,b,c,by omega⟩
 .exact .inr (.inl ⟨a,b,c,by omega⟩)
 .exact .inr (.inr h)
section
variable {Z:Nat->Prop} {v w:o_}
theorem Twin.VL {Od:Old} (T:Twin Od Z v w) {a:f_} {x:n_} (h:v.cell? a=some x):¬Od.dead a.block:=λb=>by
 unfold World.cell? at h;rw[T.JQ _ b]at h;simp[Dw]at h
theorem Twin.cell {Od:Old} (T:Twin Od Z v w) {a:f_} {x:n_} (h:v.cell? a=some x):w.cell? a=some x/\¬Z a.block/\a.block<w.heap.size/\w.frozen? a=v.frozen? a:=by
 have b:¬Z a.block:=by
  intro b
  unfold World.cell? at h
  by_cases d:a.block<v.heap.size
  .rw[T.dead _ b d]at h;simp[Dw]at h
  .rw[Array.getElem?_eq_none (by omega)]at h;simp at h
 have c:=T.VL h;refine⟨by rw[<-h];unfold World.cell?;rw[T.same _ b c],b,?_,by unfold World.frozen?;rw[T.same _ b c]⟩;rw[<-T.size];unfold World.cell? at h;cases e:v.heap[a.block]? with
 |none=>rw[e]at h;simp at h
 |some o=>exact(y_.1 e).1
theorem Twin.V8 {Od:Old} (T:Twin Od Z v w) (τ τ':Nat->Question->Nat) (d d':Nat):Twin Od Z (v.re τ d) (w.re τ' d'):=
 ⟨T.size,T.same,T.dead,T.plain,T.os,T.output,T.JQ,T.kept,T.XG⟩
theorem Twin.setCell {Od:Old} (T:Twin Od Z v w) {a:f_} (x:n_) (hz:¬Z a.block) (ho:¬Od.dead a.block):Twin Od Z (v.setCell a x) (w.setCell a x):=by
 have g:∀u:o_,(u.setCell a x).heap.size=u.heap.size:=λu=>by simp[World.setCell]
 have c:∀(u:o_) r,r≠a.block->(u.setCell a x).heap[r]?=u.heap[r]?:=λu r b=>by
  simp[World.setCell,Array.getElem?_modify,Ne.symm b]
 have heq:(v.setCell a x).heap[a.block]?=(w.setCell a x).heap[a.block]?:=by
  simp only[World.setCell,Array.getElem?_modify,if_true,T.same _ hz ho]
 have d:∀r,Od.dead r->r≠a.block:=λr b h=>ho (h ▸ b)
 refine⟨by rw[g,g,T.size],λr b f=>?_,λr b i=>?_,λr o b=>?_,T.os,T.output,λr b=>by rw[c _ _ (d r b)];exact T.JQ r b,λr b=>by rw[c _ _ (d r b)];exact T.kept r b,T.XG⟩
 .by_cases h:r=a.block
  .subst h;exact heq
  .rw[c _ _ h,c _ _ h,T.same _ b f]
 .have h:r≠a.block:=λh=>hz (h ▸ b)
  rw[c _ _ h];exact T.dead r b (by rw[g]at i;exact i)
 .by_cases h:r=a.block
  .subst h;simp only[World.setCell,Array.getElem?_modify,if_true]at b;cases e:v.heap[a.block]? with
   |none=>rw[e]at b;simp at b
   |some j=>
    rw[e]at b
    have:=T.plain _ _ e
    simp only[Option.map_some,Option.some.injEq]at b
    subst b
    cases j<;>first|rfl|exact this
  .rw[c _ _ h]at b;exact T.plain _ _ b
theorem Twin.push {Od:Old} (T:Twin Od Z v w) {o:Obj} (ho:o.plain=true) (hz:¬Z v.heap.size):
  Twin Od Z { v with heap:=v.heap.push o } { w with heap:=w.heap.push o }:=by
 have up:∀(u:o_) (r:Nat) (q:Obj),u.heap[r]?=some q->(u.heap.push o)[r]?=some q:=λu r q h=>by
  have lt:=(y_.1 h).1
  rw[Array.getElem?_push,if_neg (by omega)]
  exact h
 refine⟨by simp[T.size],λr a b=>?_,λr a c=>?_,λr d a=>?_,T.os,T.output,λr a=>up v r _ (T.JQ r a),λr a=>up w r _ (T.kept r a),T.XG⟩
 .have e:=T.same r a b;simp only[Array.getElem?_push,T.size,e]
 .simp only[Array.size_push]at c;have:r≠v.heap.size:=λh=>hz (h ▸ a)
  rw[Array.getElem?_push,if_neg this];exact T.dead r a (by omega)
 .simp only[Array.getElem?_push]at a;split at a
  .obtain rfl:=x_ a;exact ho
  .exact T.plain _ _ a
end
theorem Yj {P:l_} {v:o_} {a:f_} {b:Bool} {ad:f_} {t:j_} (hs:ad.spot.isSome=true) (ho:v.heap[a.block]?=some (.view ad t)):∃why,v.farLoad P a b=.error (.unsupported (.unsafePointer why)):=by
 unfold World.farLoad;rw[ho];have:∃why,v.viewLoad P ad t a b=.error why:=by
  unfold World.viewLoad World.seen
  simp only[hs,Bool.or_true,if_true]
  exact⟨_,rfl⟩
 obtain⟨why,e⟩:=this;simp only[e];exact⟨why,rfl⟩
theorem Xz {P:l_} {v:o_} {a:f_} {x:n_} {b:Bool} {ad:f_} {t:j_} (hs:ad.spot.isSome=true) (ho:v.heap[a.block]?=some (.view ad t)):∃why,v.farStore P a x b=.error (.unsupported (.unsafePointer why)):=by
 unfold World.farStore;rw[ho];have:∃why,v.viewStore P ad t a x b=.error why:=by
  unfold World.viewStore World.seen
  simp only[hs,Bool.or_true,if_true]
  split
  .exact⟨_,rfl⟩
  .exact⟨_,rfl⟩
 obtain⟨why,e⟩:=this;simp only[e];exact⟨why,rfl⟩
theorem QX {P:l_} {v:o_} (hp:∀(r:Nat) (o:Obj),v.heap[r]?=some o->o.plain=true) (a:f_) (b:Bool):
  ∃hh,v.farLoad P a b=.error hh/\hh.J8=true:=by
 cases ho:v.heap[a.block]? with
 |none=>exact⟨_,by unfold World.farLoad;rw[ho],by simp[World.noCell,ho,Halt.J8]⟩
 |some d=>
  have:=hp _ _ ho
  cases d with
  |view g t=>obtain⟨f,e⟩:=Yj (P:=P) (b:=b) this ho;exact⟨_,e,rfl⟩
  |pending c t=>cases this
  |_=>exact⟨_,by unfold World.farLoad;rw[ho],by simp[World.noCell,ho,Halt.J8]⟩
theorem MP {P:l_} {v:o_} (hp:∀(r:Nat) (o:Obj),v.heap[r]?=some o->o.plain=true) (a:f_) (x:n_) (b:Bool):
  ∃hh,v.farStore P a x b=.error hh/\hh.J8=true:=by
 cases ho:v.heap[a.block]? with
 |none=>exact⟨_,by unfold World.farStore;rw[ho],by simp[World.noCell,ho,Halt.J8]⟩
 |some d=>
  have:=hp _ _ ho
  cases d with
  |view g t=>obtain⟨f,e⟩:=Xz (P:=P) (x:=x) (b:=b) this ho;exact⟨_,e,rfl⟩
  |pending c t=>cases this
  |_=>exact⟨_,by unfold World.farStore;rw[ho],by simp[World.noCell,ho,Halt.J8]⟩
theorem Iw {P:l_} {α:Type} {K:α->Prop} {e:Sem α} (he:e.Ap P K):∀{v:o_} {es:Array Event} {a:α} {v':o_} {Cm:Array Event},
  (∀(r:Nat) (o:Obj),v.heap[r]?=some o->o.plain=true)->e.runT P v es=(.ok a v',Cm)->v.drawn<=v'.drawn/\v'.tape=v.tape/\v.heap.size<=v'.heap.size:=by
 induction e with
 |pure a=>intro v es b v' Cm _ h;simp only[Sem.runT,Prod.mk.injEq,Result.ok.injEq]at h;obtain⟨⟨_,rfl⟩,_⟩:=h;simp
 |load m a k d=>
  intro v es b v' Cm f h
  simp only[Sem.runT]at h
  split at h
  .exact d _ (he _) f h
  .split at h
   .exact d _ (he _) f h
   .simp at h
 |store m a x k d=>
  intro v es b v' Cm f h
  have key:(match v.cell? a with
    |some _=>if v.frozen? a then(Result.halt (.unsupported (.unsafePointer "a write to bytes that a string shares")) v,es)else k.runT P (v.setCell a x) (es.push ⟨.cell a,true,m==.atomic⟩)
    |none=>match v.farStore P a x (m==.atomic)with
     |.ok (w,i)=>k.runT P w (es++i.toArray.map (⟨.cell ·,true,m==.atomic⟩))
     |.error h=>(.halt h v,es))=(.ok b v',Cm):=by
   cases x<;>first|exact h|(simp[Sem.runT]at h;done)
  clear h
  split at key
  .split at key
   .simp at key
   .have:=d he (v:=v.setCell a x) ?_ key
    .simpa [World.setCell]using this
    .intro r o g;simp only[World.setCell,Array.getElem?_modify]at g;split at g
     .rename_i p;cases j:v.heap[r]? with
      |none=>rw[j]at g;simp at g
      |some l=>
       have:=f _ _ j
       rw[j]at g
       simp only[Option.map_some,Option.some.injEq]at g
       subst g
       cases l<;>first|rfl|exact this
     .exact f _ _ g
  .rename_i t;obtain⟨u,e,_⟩:=MP (P:=P) f a x (m==.atomic);rw[e]at key;simp at key
 |new o k d=>
  intro v es b v' Cm f h
  have:=d _ (he.2 _) (v:={ v with heap:=v.heap.push o }) (λr l g=>by
   simp only[Array.getElem?_push]at g
   split at g
   .obtain rfl:=x_ g;exact he.1
   .exact f _ _ g) h
  simp only[Array.size_push]at this;exact⟨this.1,this.2.1,by omega⟩
 |shape r k d=>intro v es b v' Cm f h;exact d _ (he.1 _) f h
 |freeze a n k d=>intro v es b v' Cm _ h;exact(Sem.EE.Kq he _ _ _ _ _ h).elim
 |frozen a k d=>intro v es b v' Cm _ h;exact((he _).Kq _ _ _ _ _ h).elim
 |getObj r k d=>
  intro v es b v' Cm f h
  simp only[Sem.runT]at h
  split at h
  .simp at h
  .rename_i o _ j;exact d _ (he.1 _ (f _ _ j)) f h
  .simp at h
 |setObj r o k d=>
  intro v es b v' Cm _ h
  simp only[Sem.runT]at h
  split at h
  .simp at h
  .exact(Sem.EE.Kq he.2 _ _ _ _ _ h).elim
  .simp at h
 |choose q k d=>
  intro v es b v' Cm f h
  simp only[Sem.runT]at h
  split at h
  .exact d _ (he _) f h
  .have:=d _ (he _) (v:={ v with drawn:=v.drawn+1 }) f h;simp only at this;exact⟨by omega,this.2.1,this.2.2⟩
 |sys c k d=>intro v es b v' Cm _ h;exact((he _).Kq _ _ _ _ _ h).elim
 |program k d=>intro v es b v' Cm f h;exact d _ he f h
 |mark m k d=>
  intro v es b v' Cm f h
  obtain he|he:=he
  .exact d he.2 f h
  .exact(Sem.EE.Kq he _ _ _ _ _ h).elim
 |halt s=>intro v es b v' Cm _ h;simp[Sem.runT]at h
theorem Yc {v:o_} (hp:∀(r:Nat) (o:Obj),v.heap[r]?=some o->o.plain=true) (a:f_) (x:n_):
  ∀(r:Nat) (o:Obj),(v.setCell a x).heap[r]?=some o->o.plain=true:=by
 intro r o b;simp only[World.setCell,Array.getElem?_modify]at b;split at b
 .cases ho:v.heap[r]? with
  |none=>rw[ho]at b;simp at b
  |some c=>
   have:=hp _ _ ho
   rw[ho]at b
   simp only[Option.map_some,Option.some.injEq]at b
   subst b
   cases c<;>first|rfl|exact this
 .exact hp _ _ b
theorem au {v:o_} (hp:∀(r:Nat) (o:Obj),v.heap[r]?=some o->o.plain=true) (a:f_) (n:Nat):
  ∀(r:Nat) (o:Obj),(v.freeze a n).heap[r]?=some o->o.plain=true:=by
 intro r o b;unfold World.freeze at b;split at b
 .exact hp _ _ b
 .simp only[Array.getElem?_modify]at b;split at b
  .cases ho:v.heap[r]? with
   |none=>rw[ho]at b;simp at b
   |some c=>
    have:=hp _ _ ho
    rw[ho]at b
    simp only[Option.map_some,Option.some.injEq]at b
    subst b
    cases c<;>first|rfl|exact this
  .exact hp _ _ b
theorem Δ (v:o_) (c:Sys):(v.sys c).2.heap=v.heap:=by
 have ask:∀{β:Type} (k:Ask β) (u:o_),(u.ask k).2.heap=u.heap:=by
  intro β k
  induction k with
  |done a=>intro u;rfl
  |ask d range k b=>
   intro u
   unfold World.ask
   simp only
   split
   .exact b _ _
   .exact b _ _
 unfold World.sys;have:=ask (Kernel.perform c v.os) v;split
 .rfl
 .rename_i r g h f e;rw[e]at this;exact this
theorem YJ {P:l_} {α:Type} {K:α->Prop} {e:Sem α} (he:e.Ap P K):∀{v:o_} {es:Array Event} {h:Halt} {v':o_} {Cm:Array Event},
  (∀(r:Nat) (o:Obj),v.heap[r]?=some o->o.plain=true)->e.runT P v es=(.halt h v',Cm)->h.J8=true/\∀(r:Nat) (o:Obj),v'.heap[r]?=some o->o.plain=true:=by
 induction e with
 |pure a=>intro v es f v' Cm _ h;simp[Sem.runT]at h
 |load m a k d=>
  intro v es f v' Cm b h
  simp only[Sem.runT]at h
  split at h
  .exact d _ (he _) b h
  .obtain⟨p,e2,l⟩:=QX (P:=P) b a (m==.atomic);rw[e2]at h;simp only[Prod.mk.injEq,Result.halt.injEq]at h;rw[<-h.1.1,<-h.1.2];exact⟨l,b⟩
 |store m a x k d=>
  intro v es f v' Cm b h
  have g:(Sem.store m a x k).runT P v es=(match v.cell? a with
    |some _=>if v.frozen? a then(Result.halt (.unsupported (.unsafePointer "a write to bytes that a string shares")) v,es)else k.runT P (v.setCell a x) (es.push ⟨.cell a,true,m==.atomic⟩)
    |none=>match v.farStore P a x (m==.atomic)with
     |.ok (w,j)=>k.runT P w (es++j.toArray.map (⟨.cell ·,true,m==.atomic⟩))
     |.error h=>(.halt h v,es))\/∃s,(Sem.store m a x k).runT P v es=(.halt (.stuck s) v,es):=by
   cases x<;>first|exact .inl rfl|exact .inr ⟨_,rfl⟩
  obtain g|⟨s,u⟩:=g
  case inr=>rw[u]at h;simp only[Prod.mk.injEq,Result.halt.injEq]at h;rw[<-h.1.1,<-h.1.2];exact⟨rfl,b⟩
  rw[g]at h
  split at h
  .split at h
   .simp only[Prod.mk.injEq,Result.halt.injEq]at h;rw[<-h.1.1,<-h.1.2];exact⟨rfl,b⟩
   .exact d he (Yc b a x) h
  .obtain⟨p,e2,l⟩:=MP (P:=P) b a x (m==.atomic);rw[e2]at h;simp only[Prod.mk.injEq,Result.halt.injEq]at h;rw[<-h.1.1,<-h.1.2];exact⟨l,b⟩
 |new o k d=>
  intro v es f v' Cm b h
  exact d _ (he.2 _) (v:={ v with heap:=v.heap.push o }) (λr y i=>by
   simp only[Array.getElem?_push]at i
   split at i
   .obtain rfl:=x_ i;exact he.1
   .exact b _ _ i) h
 |shape r k d=>intro v es f v' Cm b h;exact d _ (he.1 _) b h
 |freeze a n k d=>intro v es f v' Cm b h;exact d (Sem.EE.aW he) (au b a n) h
 |frozen a k d=>intro v es f v' Cm b h;exact d _ (Sem.EE.aW (he _)) b h
 |getObj r k d=>
  intro v es f v' Cm b h
  simp only[Sem.runT]at h
  split at h
  .simp only[Prod.mk.injEq,Result.halt.injEq]at h;rw[<-h.1.1,<-h.1.2];exact⟨rfl,b⟩
  .rename_i o _ t;exact d _ (he.1 _ (b _ _ t)) b h
  .simp only[Prod.mk.injEq,Result.halt.injEq]at h;rw[<-h.1.1,<-h.1.2];exact⟨rfl,b⟩
 |setObj r o k d=>
  intro v es f v' Cm b h
  simp only[Sem.runT]at h
  split at h
  .simp only[Prod.mk.injEq,Result.halt.injEq]at h;rw[<-h.1.1,<-h.1.2];exact⟨rfl,b⟩
  .refine d (Sem.EE.aW he.2) (v:={ v with heap:=v.heap.setIfInBounds r o }) (λA y i=>?_) h;simp only[Array.getElem?_setIfInBounds]at i;split at i
   .split at i
    .obtain rfl:=x_ i;exact he.1
    .simp at i
   .exact b _ _ i
  .simp only[Prod.mk.injEq,Result.halt.injEq]at h;rw[<-h.1.1,<-h.1.2];exact⟨rfl,b⟩
 |choose q k d=>
  intro v es f v' Cm b h
  simp only[Sem.runT]at h
  split at h
  .exact d _ (he _) b h
  .exact d _ (he _) (v:={ v with drawn:=v.drawn+1 }) b h
 |sys c k d=>intro v es f v' Cm b h;exact d _ (Sem.EE.aW (he _)) (by rw[Δ];exact b) h
 |program k d=>intro v es f v' Cm b h;exact d _ he b h
 |mark m k d=>
  intro v es f v' Cm b h
  obtain he|he:=he
  .exact d he.2 b h
  .exact d (Sem.EE.aW he) b h
 |halt z=>
  intro v es f v' Cm b h
  simp only[Sem.runT,Prod.mk.injEq,Result.halt.injEq]at h
  rw[<-h.1.1,<-h.1.2];exact⟨he,b⟩
theorem Sz {Od:Old} {P:l_} {α:Type} {Z:Nat->Prop} {K:α->Prop} {e:Sem α} (he:e.Ap P K):∀{v w:o_} {es:Array Event} {a:α} {v':o_} {Cm:Array Event},
  Twin Od Z v w->(∀r,Z r->r<v.heap.size)->e.runT P v es=(.ok a v',Cm)->
  (∀j,j<v'.drawn-v.drawn->∀q,w.tape (w.drawn+j) q=v.tape (v.drawn+j) q)->
  ∃w' more,K a/\e.runT P w es=(.ok a w',Cm)/\Twin Od Z v' w'/\(∀r,Z r->w'.heap[r]?=w.heap[r]?)/\w'.tape=w.tape/\w'.drawn=w.drawn+(v'.drawn-v.drawn)/\Cm=es++more/\∀x∈more,Ϭ Z v'.heap.size x:=by
 induction e with
 |pure a=>
  intro v w es b v' Cm T i h _
  simp only[Sem.runT,Prod.mk.injEq,Result.ok.injEq]at h
  obtain⟨⟨rfl,rfl⟩,rfl⟩:=h
  exact⟨w,#[],he,rfl,T,λ_ _=>rfl,rfl,by simp,by simp,by simp⟩
 |load m a k l=>
  intro v w es b v' Cm T i h p
  have Q:=Iw he T.plain h
  simp only[Sem.runT]at h
  split at h
  .rename_i x hx;obtain⟨M,g,N,_⟩:=T.cell hx;obtain⟨w',more,A,t,z,f,C,D,E,F⟩:=l _ (he _) T i h p;refine⟨w',#[⟨.cell a,false,m==.atomic⟩]++more,A,by simp only[Sem.runT,M];exact t,z,f,C,D,by rw[E];simp,λy d=>?_⟩;obtain d|d:=Array.mem_append.1 d
   .simp at d;subst d;exact .inl ⟨a,rfl,g,by have:=T.size;omega⟩
   .exact F y d
  .rename_i hn;exfalso;obtain⟨hh,e,_⟩:=QX (P:=P) T.plain a (m==.atomic);rw[e]at h;simp at h
 |store m a x k l=>
  intro v w es b v' Cm T i h p
  have B:(∀u:o_,(Sem.store m a x k).runT P u es=(match u.cell? a with
    |some _=>if u.frozen? a then(Result.halt (.unsupported (.unsafePointer "a write to bytes that a string shares")) u,es)else k.runT P (u.setCell a x) (es.push ⟨.cell a,true,m==.atomic⟩)
    |none=>match u.farStore P a x (m==.atomic)with
     |.ok (w,H)=>k.runT P w (es++H.toArray.map (⟨.cell ·,true,m==.atomic⟩))
     |.error h=>(.halt h u,es)))\/∃s,(Sem.store m a x k).runT P v es=(.halt (.stuck s) v,es):=by
   cases x<;>first|exact .inl λ_=>rfl|exact .inr ⟨_,rfl⟩
  obtain B|⟨s,hv⟩:=B
  case inr=>rw[hv]at h;simp at h
  rw[B]at h
  rw[B]
  split at h
  .rename_i y d;have W:=d;obtain⟨M,g,N,hf⟩:=T.cell d;split at h
   .simp at h
   .rename_i O;have V:(v.setCell a x).heap.size=v.heap.size:=(by simp[World.setCell]);obtain⟨w',more,A,t,z,f,C,D,E,F⟩:=l he (T.setCell x g (T.VL d)) (by rw[V];exact i) h p;refine⟨w',#[⟨.cell a,true,m==.atomic⟩]++more,A,?_,z,λr I=>by
     rw[f r I]
     have X:a.block≠r:=λe=>g (e ▸ I)
     simp[World.setCell,Array.getElem?_modify,X],C,D,by rw[E];simp,λy d=>?_⟩
    .simp only[M,hf,O];exact t
    .obtain d|d:=Array.mem_append.1 d
     .have hgr:=Iw (e:=k) he (T.setCell x g (T.VL W)).plain h;simp at d;subst d;exact .inl ⟨a,rfl,g,by have:=T.size;omega⟩
     .exact F y d
  .rename_i hn;exfalso;obtain⟨hh,e,_⟩:=MP (P:=P) T.plain a x (m==.atomic);rw[e]at h;simp at h
 |new o k l=>
  intro v w es b v' Cm T i h p
  have g:¬Z v.heap.size:=λg=>Nat.lt_irrefl _ (i _ g)
  obtain⟨w',more,A,t,z,f,C,D,E,F⟩:=l _ (he.2 _) (T.push he.1 g) (λr I=>by have:=i r I;simp only[Array.size_push];omega) h p
  exact⟨w',more,A,by simp only[Sem.runT];rw[<-T.size];exact t,z,λr I=>by
   rw[f r I]
   have:=i r I
   rw[T.size]at this
   simp only[Array.getElem?_push]
   rw[if_neg (by omega)],C,D,E,F⟩
 |shape r k l=>
  intro v w es b v' Cm T i h p
  have J:(k (v.shape? r)).runT P v es=(.ok b v',Cm):=h
  have g:¬Z r:=λg=>by
   have L:=T.dead r g (i r g)
   have e:v.shape? r=none:=by unfold World.shape?;rw[L];rfl
   rw[e]at J
   exact he.2 _ _ _ _ _ T.plain L J
  have G:¬Od.dead r:=λG=>by
   have L:=T.JQ r G
   have e:v.shape? r=none:=by unfold World.shape?;rw[L];rfl
   rw[e]at J
   exact he.2 _ _ _ _ _ T.plain L J
  have e:w.shape? r=v.shape? r:=by unfold World.shape?;rw[T.same r g G]
  obtain⟨w',more,A,t,z⟩:=l _ (he.1 _) T i J p
  exact⟨w',more,A,by simp only[Sem.runT];rw[e];exact t,z⟩
 |freeze a n k l=>intro v w es b v' Cm _ _ h;exact(Sem.EE.Kq he _ _ _ _ _ h).elim
 |frozen a k l=>intro v w es b v' Cm _ _ h;exact((he _).Kq _ _ _ _ _ h).elim
 |getObj r k l=>
  intro v w es b v' Cm T i h p
  have Q:=Iw he T.plain h
  simp only[Sem.runT]at h
  split at h
  .simp at h
  .rename_i o R G;have N:=(y_.1 G).1;have g:¬Z r:=λg=>by
    have e:=T.dead r g N
    rw[e]at G
    obtain rfl:=x_ G
    exact he.2 _ _ _ _ _ T.plain e h
   have S:¬Od.dead r:=λg=>by
    have e:=T.JQ r g
    rw[e]at G
    obtain rfl:=x_ G
    exact he.2 _ _ _ _ _ T.plain e h
   obtain⟨w',more,A,t,z,f,C,D,E,F⟩:=l _ (he.1 _ (T.plain _ _ G)) T i h p;refine⟨w',#[⟨.obj r,false,o.isChan⟩]++more,A,?_,z,f,C,D,by rw[E];simp,λy d=>?_⟩
   .have M:w.heap[r]?=some o:=(by rw[<-T.same r g S,G]);simp only[Sem.runT,M];cases o<;>first|exact t|exact(R _ _ _ rfl).elim
   .obtain d|d:=Array.mem_append.1 d
    .simp at d;subst d;exact .inr (.inl ⟨r,rfl,g,by omega⟩)
    .exact F y d
  .simp at h
 |setObj r o k l=>
  intro v w es b v' Cm _ _ h
  simp only[Sem.runT]at h
  split at h
  .simp at h
  .exact(Sem.EE.Kq he.2 _ _ _ _ _ h).elim
  .simp at h
 |choose q k l=>
  intro v w es b v' Cm T i h p
  simp only[Sem.runT]at h
  split at h
  .rename_i U;obtain⟨w',more,A,t,z⟩:=l _ (he _) T i h p;exact⟨w',more,A,by simp only[Sem.runT,U,if_true];exact t,z⟩
  .rename_i U;have Q:=Iw (he _) (v:={ v with drawn:=v.drawn+1 }) T.plain h;simp only at Q;have Y:w.tape w.drawn q=v.tape v.drawn q:=by
    have:=p 0 (by omega) q
    simpa using this
   obtain⟨w',more,A,t,z,f,C,D,E,F⟩:=l _ (he _) (v:={ v with drawn:=v.drawn+1 }) (w:={ w with drawn:=w.drawn+1 }) ⟨T.size,T.same,T.dead,T.plain,T.os,T.output,T.JQ,T.kept,T.XG⟩ i h (λj hj q'=>by
    have:=p (j+1) (by simp only at hj;omega) q'
    have e1:w.drawn+1+j=w.drawn+(j+1):=by omega
    have e2:v.drawn+1+j=v.drawn+(j+1):=by omega
    simp only[e1,e2]
    exact this);refine⟨w',more,A,by simp only[Sem.runT,U,Y];exact t,z,f,C,?_,E,F⟩;rw[D];simp only;omega
 |sys c k l=>intro v w es b v' Cm _ _ h;exact((he _).Kq _ _ _ _ _ h).elim
 |program k l=>intro v w es b v' Cm T i h p;exact l _ he T i h p
 |mark m k l=>
  intro v w es b v' Cm T i h p
  obtain⟨rfl,he⟩|he:=he
  .obtain⟨w',more,A,t,z,f,C,D,E,F⟩:=l he T i h p;refine⟨w',#[⟨.mark .noRoom,false,true⟩]++more,A,t,z,f,C,D,by rw[E];simp,λy d=>?_⟩;obtain d|d:=Array.mem_append.1 d
   .simp at d;subst d;exact .inr (.inr (.inl rfl))
   .exact F y d
  .exact(Sem.EE.Kq he _ _ _ _ _ h).elim
 |halt J=>intro v w es b v' Cm _ _ h;simp[Sem.runT]at h
/-! ### tame where it stands -/
structure Ht (P:l_) {β:Type} (K:β->Prop) (e:Sem β) (v:o_):Prop where
 JR:∀{v':o_} {es Cm:Array Event} {b:β},(∀(r:Nat) (o:Obj),v.heap[r]?=some o->o.plain=true)->e.runT P v es=(.ok b v',Cm)->v.drawn<=v'.drawn/\v'.tape=v.tape/\v.heap.size<=v'.heap.size
 J8:∀{v':o_} {es Cm:Array Event} {h':Halt},(∀(r:Nat) (o:Obj),v.heap[r]?=some o->o.plain=true)->e.runT P v es=(.halt h' v',Cm)->h'.J8=true/\∀(r:Nat) (o:Obj),v'.heap[r]?=some o->o.plain=true
 twin:∀{Od:Old} {Z:Nat->Prop} {w v':o_} {es Cm:Array Event} {b:β},Twin Od Z v w->(∀r,Z r->r<v.heap.size)->e.runT P v es=(.ok b v',Cm)->
  (∀j,j<v'.drawn-v.drawn->∀q,w.tape (w.drawn+j) q=v.tape (v.drawn+j) q)->
  ∃w' more,K b/\e.runT P w es=(.ok b w',Cm)/\Twin Od Z v' w'/\(∀r,Z r->w'.heap[r]?=w.heap[r]?)/\w'.tape=w.tape/\w'.drawn=w.drawn+(v'.drawn-v.drawn)/\Cm=es++more/\∀x∈more,Ϭ Z v'.heap.size x
section
variable {P:l_} {β:Type} {K:β->Prop} {e:Sem β}
end
end Go.Fxa
namespace Go
open Go.Fxa
section
variable {P:l_} {β:Type} {K:β->Prop} {e:Sem β}
theorem Sem.Ap.here (h:e.Ap P K) (v:o_):Ht P K e v:=⟨λb a=>Iw h b a,λb a=>YJ h b a,λT d a c=>Sz h T d a c⟩
end
end Go
namespace Go.Fxa
section
variable {P:l_} {β:Type} {K:β->Prop} {e:Sem β}
theorem Qw {α:Type} {e:Sem α} {K:α->Prop} (he:e.Ap P K) {v v':o_} {es Cm:Array Event} {a:α} (hp:∀(r:Nat) (o:Obj),v.heap[r]?=some o->o.plain=true) (h:e.runT P v es=(.ok a v',Cm)):∀(r:Nat) (o:Obj),v'.heap[r]?=some o->o.plain=true:=by
 obtain⟨_,_,_,_,T,_⟩:=Sz (Od:=LU) (Z:=λ_=>False) (w:=v) he (@Twin.mk LU _ _ _ rfl (λ_ _ _=>rfl) (λ_ h=>h.elim) hp rfl rfl (λ_ h=>False.elim h) (λ_ h=>False.elim h) (λ_ h=>False.elim h)) (λ_ h=>h.elim) h (λ_ _ _=>rfl);exact T.plain
theorem Rk {α:Type} {e1:Sem α} {f:α->Sem β} {v:o_} (h1:e1.Ap P (λ_=>True)) (hf:∀a v1 es MS,e1.runT P v es=(.ok a v1,MS)->Ht P K (f a) v1):Ht P K (e1.bind f) v:=by
 refine⟨fun {C es y b} i h=>?_,fun {C es y J} i h=>?_,fun {I Z w C es y b} T A h z=>?_⟩
 .skip
  rw[Sem.runT_bind']at h;cases c:e1.runT P v es with
  |mk r MS=>
   cases r with
   |halt B w1=>rw[c]at h;simp at h
   |ok a v1=>
    rw[c]at h
    have d:=Iw h1 i c
    have e:=(hf _ _ _ _ c).JR (Qw h1 i c) h
    exact⟨Nat.le_trans d.1 e.1,e.2.1.trans d.2.1,Nat.le_trans d.2.2 e.2.2⟩
 .skip
  rw[Sem.runT_bind']at h;cases c:e1.runT P v es with
  |mk r MS=>
   cases r with
   |halt B w1=>
    rw[c]at h
    simp only[Prod.mk.injEq,Result.halt.injEq]at h
    rw[<-h.1.1,<-h.1.2]
    exact YJ h1 i c
   |ok a v1=>
    rw[c]at h
    exact(hf _ _ _ _ c).J8 (Qw h1 i c) h
 .skip
  rw[Sem.runT_bind']at h;cases c:e1.runT P v es with
  |mk r MS=>
   cases r with
   |halt B w1=>rw[c]at h;simp at h
   |ok a v1=>
    rw[c]at h
    have g:=hf _ _ _ _ c
    have d:=Iw h1 T.plain c
    have e:=g.JR (Qw h1 T.plain c) h
    obtain⟨w1,m1,_,k1,D,t,l,G,m,p⟩:=Sz h1 T A c (λj F=>z j (by omega))
    obtain⟨w2,m2,E,k2,T2,u,o,H,n,s⟩:=g.twin D (λr c=>Nat.lt_of_lt_of_le (A r c) d.2.2) h (λj F q=>by
     have:=z (v1.drawn-v.drawn+j) (by omega) q
     have e1:w.drawn+(v1.drawn-v.drawn+j)=w1.drawn+j:=by omega
     have e2:v.drawn+(v1.drawn-v.drawn+j)=v1.drawn+j:=by omega
     rw[e1,e2]at this
     rw[l,d.2.1]
     exact this)
    refine⟨w2,m1++m2,E,?_,T2,λr c=>(u r c).trans (t r c),o.trans l,by omega,by rw[n,m,Array.append_assoc],λx k=>?_⟩
    .rw[Sem.runT_bind',k1];exact k2
    .obtain k|k:=Array.mem_append.1 k
     .exact(p x k).mono e.2.2
     .exact s x k
theorem ϒ {v v':o_} {es Cm:Array Event} {b:β} (he:Ht P K e v) (hp:∀(r:Nat) (o:Obj),v.heap[r]?=some o->o.plain=true) (h:e.runT P v es=(.ok b v',Cm)):v.drawn<=v'.drawn/\v'.tape=v.tape/\v.heap.size<=v'.heap.size:=he.JR hp h
theorem ZM {v v':o_} {es Cm:Array Event} {h':Halt} (he:Ht P K e v) (hp:∀(r:Nat) (o:Obj),v.heap[r]?=some o->o.plain=true) (h:e.runT P v es=(.halt h' v',Cm)):h'.J8=true:=(he.J8 hp h).1
theorem RV {Od:Old} {Z:Nat->Prop} {v w v':o_} {es Cm:Array Event} {b:β} (he:Ht P K e v) (T:Twin Od Z v w) (hZ:∀r,Z r->r<v.heap.size) (h:e.runT P v es=(.ok b v',Cm))
  (Ky:∀j,j<v'.drawn-v.drawn->∀q,w.tape (w.drawn+j) q=v.tape (v.drawn+j) q):
  ∃w' more,K b/\e.runT P w es=(.ok b w',Cm)/\Twin Od Z v' w'/\(∀r,Z r->w'.heap[r]?=w.heap[r]?)/\w'.tape=w.tape/\w'.drawn=w.drawn+(v'.drawn-v.drawn)/\Cm=es++more/\∀x∈more,Ϭ Z v'.heap.size x:=he.twin T hZ h Ky
end
end Go.Fxa
namespace Go.Fxa
open Go.Conc
def jE (f:h_):Bool:=f==197
def ap0 (L:h_->Prop) (d:Deferred):Prop:=∃f cap,d.target=.fn (.func f) cap/\L f
def ES (L:h_->Prop) (b:Bool):Next->Prop
 |.value _=>True
 |.skip=>True
 |.enter f _=>L f
 |.defer d=>b=true/\ap0 L d
 |_=>False
def Ext (P:l_) (f:h_):Prop:=
 ∃fn a b,P.funcs[f]?=some fn/\(fn.name== "runtime.NumGoroutine")=false/\fn.body.isNone=true/\Extern.findNext fn=none/\Extern.find fn=some (Extern.SlicesOverlaps.overlaps a b)
def as3 (P:l_) (L:h_->Prop) (b:Bool) (o:Oper):Prop:=
 ∀(fr:Frame) (v:o_),(∀(r:Nat) (ob:Obj),v.heap[r]?=some ob->ob.plain=true)->(∀f,o.about P v fr.eval=some f->L f\/Ext P f)->Ht P (ES L b) (execOp fr.eval o) v
end Go.Fxa
namespace Go
open Go.Fxa Go.Conc
def Code.Bf (p:Oper->Bool):Code->Bool
 |.skip=>true
 |.region _ ops _=>ops.all p
 |.seq a b=>a.Bf p && b.Bf p
 |.cond _ a b=>a.Bf p && b.Bf p
 |.block _ a=>a.Bf p
 |.loop a=>a.Bf p
 |.exit _=>true
 |.label _=>true
 |.ret=>true
 |.rangeFunc ..=>false
 |.scope _=>false
 |.goto _=>false
 |.refuse _=>true
end Go
namespace Go.Fxa
open Go.Conc
end Go.Fxa
namespace Go
open Go.Fxa Go.Conc
def Item.EC (p:Oper->Bool):Item->Bool
 |.code c=>c.Bf p
 |.inBlock _=>true
 |.inLoop c=>c.Bf p
 |.inRegion ops _=>ops.all p
 |_=>false
end Go
namespace Go.Fxa
open Go.Conc
structure Fine (P:l_) (L:h_->Prop) (p:h_->Oper->Bool):Prop where
 op:∀f o,p f o=true->as3 P L (jE f) o
 body:∀f,L f->∃fn c,P.funcs[f]?=some fn/\(fn.name== "runtime.NumGoroutine")=false/\fn.body=some c/\c.Bf (p f)=true
 init:∀f,L f->P.inits.idxOf? f=none
structure E5 (P:l_) (L:h_->Prop) (p:h_->Oper->Bool) (fr:Frame):Prop where
 fn:∃fn,P.funcs[fr.fn]?=some fn/\P.inits.idxOf? fr.fn=none
 defers:jE fr.fn=false->fr.defers=[]
 yI:∀d∈fr.defers,ap0 L d
 kind:fr.kind=.normal\/fr.kind=.deferred
 round:fr.roundOf=none
 todo:∀it∈fr.todo,it.EC (p fr.fn)=true
def Me (fr:Frame):Prop:=∃h t,fr.mode=.panicking (h::t)/\h.goexit=false/\h.recovered=false
def Below (P:l_) (L:h_->Prop) (p:h_->Oper->Bool):Frame->Z_->Prop
 |fr,[]=>jE fr.fn=false/\fr.kind=.normal
 |fr,c::pre=>E5 P L p c/\((fr.kind=.normal/\c.mode=.run)\/(fr.kind=.deferred/\(c.mode=.returning\/Me c)))/\Below P L p c pre
section
variable {P:l_} {L:h_->Prop} {p:h_->Oper->Bool} {Z:Nat->Prop}
theorem Below.like {fr Ed:Frame} {pre:Z_} (h:Below P L p fr pre) (h1:Ed.fn=fr.fn) (h2:Ed.kind=fr.kind):Below P L p Ed pre:=by
 cases pre with
 |nil=>exact⟨by rw[h1];exact h.1,by rw[h2];exact h.2⟩
 |cons c pre=>exact⟨h.1,by rw[h2];exact h.2.1,h.2.2⟩
theorem RD {id:Nat}:∀{k k':List Item},exitTo id k=some k'->∀it∈k',it∈k
 |[],k',h=>by simp[exitTo]at h
 |it::k,k',h=>by
  intro x a
  cases it with
  |inBlock b=>
   simp only[exitTo]at h
   split at h
   .obtain rfl:=x_ h;exact List.mem_cons_of_mem _ a
   .exact List.mem_cons_of_mem _ (RD h x a)
  |_=>simp only[exitTo]at h;exact List.mem_cons_of_mem _ (RD h x a)
theorem QC (fr:Frame) (v:n_):(fr.finish v).fn=fr.fn:=by unfold Frame.finish;split<;>rfl
theorem Nz (fr:Frame) (v:n_):(fr.finish v).kind=fr.kind:=by unfold Frame.finish;split<;>rfl
theorem GH {fr:Frame} (h:E5 P L p fr) (v:n_):E5 P L p (fr.finish v):=by
 obtain⟨f,g,a,i,j,b⟩:=h;unfold Frame.finish;split<;>first
  |exact⟨f,g,a,i,j,b⟩
  | (rename_i e
     refine⟨f,g,a,i,j,λk c=>?_⟩
     rw[e]at b
     have d:=b _ (List.mem_cons_self ..)
     first
      |(simp[Item.EC]at d;done)
      | (obtain rfl|c:=r_.1 c
         .first|exact d|(simp[Item.EC]at d;done)
         .exact b k (List.mem_cons_of_mem _ c)))
theorem FV (fr:Frame) (v:n_):(fr.finish v).mode=fr.mode:=by
 unfold Frame.finish;split<;>rfl
theorem NV (F:Fine P L p) {f:h_} (hf:L f) (args:X_) {kd:CallKind} (hk:kd=.normal\/kd=.deferred):E5 P L p (Frame.enter P f args kd):=by
 obtain⟨fn,c,b,_,e,g⟩:=F.body f hf;refine⟨⟨fn,b,F.init f hf⟩,λ_=>rfl,λd h=>(by cases h),hk,rfl,λi a=>?_⟩;simp only[Frame.enter,b,Option.bind_some,e,Option.getD_some,List.mem_singleton]at a;subst a;exact g
end
section
variable {P:l_} {α β:Type}
theorem uD {e:Sem α} {K K':α->Prop} (h:e.Ap P K) (hk:∀a,K a->K' a):e.Ap P K':=by
 induction e with
 |pure a=>exact hk a h
 |load m a k b=>exact λx=>b x (h x)
 |store m a v k b=>exact b h
 |new o k b=>exact⟨h.1,λx=>b x (h.2 x)⟩
 |shape r k b=>exact⟨λx=>b x (h.1 x),h.2⟩
 |freeze a n k b=>exact h
 |frozen a k b=>exact h
 |getObj r k b=>exact⟨λx d=>b x (h.1 x d),h.2⟩
 |setObj r o k b=>exact h
 |choose q k b=>exact λx=>b x (h x)
 |sys c k b=>exact h
 |program k b=>exact b P h
 |mark m k b=>exact h.elim (λh=>.inl ⟨h.1,b h.2⟩) .inr
 |halt f=>exact h
theorem AX {e:Sem α} {K:α->Prop} (h:e.Ap P K):e.Ap P λ_=>True:=uD h λ_ _=>trivial
theorem DW {e:Sem α} {f:α->Sem β} {K:α->Prop} {K':β->Prop} (h:e.Ap P K) (hf:∀a,K a->(f a).Ap P K'):(e>>= f).Ap P K':=Sem.Ap.bind h hf
theorem Aa {e:Sem α} {f:α->Sem β} {K':β->Prop} (h:e.Ap P λ_=>True) (hf:∀a,(f a).Ap P K'):(e>>= f).Ap P K':=Sem.Ap.bind h λa _=>hf a
theorem wu {e:Sem α} {f:α->Sem β} {K':β->Prop} (h:e.EE P):(e>>= f).Ap P K':=(Sem.EE.bind h).aW
theorem bW {e:Sem α} {f:α->β} {K:α->Prop} {K':β->Prop} (h:e.Ap P K) (hf:∀a,K a->K' (f a)):(Functor.map f e).Ap P K':=by
 rw[map_eq_pure_bind];exact DW h λa b=>hf a b
theorem Ad {a:α} {K:α->Prop} (h:K a):(Pure.pure a:Sem α).Ap P K:=h
theorem Ag {s:String} {K:α->Prop}:(stuck s:Sem α).Ap P K:=rfl
theorem o6 {s:String}:(stuck s:Sem α).EE P:=rfl
theorem OQ {v:n_} {K:α->Prop}:(goPanic v:Sem α).Ap P K:=rfl
theorem O1 {v:n_}:(goPanic v:Sem α).EE P:=rfl
theorem Au {c:Prop} [Decidable c] {x y:Sem α} {K:α->Prop} (h1:c->x.Ap P K) (h2:¬c->y.Ap P K):(if c then x else y).Ap P K:=by
 split
 .exact h1 ‹_›
 .exact h2 ‹_›
theorem YI {a:f_} {m:Mode}:(load a m).Ap P λ_=>True:=λ_=>trivial
theorem lZ {a:f_} {v:n_} {m:Mode}:(store a v m).Ap P λ_=>True:=trivial
theorem Nu {o:Obj} (h:o.plain=true):(newObj o).Ap P λ_=>True:=⟨h,λ_=>trivial⟩
theorem Dh:(program).Ap P λp=>p=P:=rfl
theorem Fa {q:Question}:(choose q).Ap P λ_=>True:=λ_=>trivial
theorem Ih {t:j_}:(typeInfo t).Ap P λi=>P.info? t=some i:=by
 refine DW Dh λp a=>?_
 subst a;cases h:p.info? t with
 |none=>exact Ag
 |some i=>exact rfl
theorem Aq {t:j_}:(underlying t).Ap P λd=>P.underlying t=some d:=by
 refine DW Dh λp a=>?_
 subst a;cases h:p.underlying t with
 |none=>exact Ag
 |some i=>exact rfl
theorem EL {t:j_}:(zeroValue t).Ap P λ_=>True:=by
 refine DW Ih λi _=>?_
 split
 .trivial
 .rfl
theorem Ns {t:j_}:(sizeOf t).Ap P λn=>∃i,P.info? t=some i/\i.size=n:=DW Ih λi a=>⟨i,a,rfl⟩
theorem WQ {t:j_}:(isAgg t).Ap P λ_=>True:=by
 refine DW Aq λd _=>?_
 split<;>trivial
theorem MQ {a:f_}:∀{n i:Nat} {acc:X_},(loadCellsFrom a i n acc).Ap P λ_=>True
 |0,_,_=>trivial
 |_+1,_,_=>Aa YI λ_=>MQ
theorem Qe {a:f_} {n:Nat}:(loadCells a n).Ap P λ_=>True:=MQ
theorem EW {a:f_}:∀{vs:U_} {i:Nat},(storeCells a vs i).Ap P λ_=>True
 |[],_=>trivial
 |_::_,_=>Aa lZ λ_=>EW
theorem G6 {t:j_} {a:f_}:(loadVar t a).Ap P λ_=>True:=
 Aa WQ λ_=>Au (λ_=>Aa (AX Ns) λ_=>Aa Qe λ_=>trivial) λ_=>YI
theorem QQ {t:j_} {a:f_} {v:n_}:(storeVar t a v).Ap P λ_=>True:=
 Aa (AX Ns) λ_=>Au (λ_=>Aa Ag λ_=>EW) λ_=>EW
theorem JW {t:j_} {cs:X_}:(newRow t cs).Ap P λ_=>True:=Aa (Nu rfl) λ_=>trivial
theorem PZ {t:j_} {v:n_}:(newVar t v).Ap P λ_=>True:=JW
theorem fZ {t:j_}:(elemOf t).Ap P λ_=>True:=by
 refine Aa (AX Aq) λd=>?_
 cases d<;>first|trivial|rfl
theorem AY {e:RuntimeError} {K:α->Prop}:(runtimePanic e:Sem α).Ap P K:=by
 refine Aa (AX Dh) λp=>?_
 cases e<;>first
  |exact OQ
  |exact Aa fZ λ_=>Aa PZ λ_=>OQ
theorem FP {k:IntKind} {x y:Int} {c:BoundsCode} {K:α->Prop}:(boundsPanic k x y c:Sem α).Ap P K:=by
 unfold boundsPanic;split
 .exact Aa (bW Fa λ_ _=>trivial) λ_=>AY
 .exact Aa (Ad trivial) λ_=>AY
theorem KO {v:n_}:(asIntOf v).Ap P λx=>v=.int x.1 x.2:=by
 cases v<;>first|rfl|(rename_i a;cases a<;>rfl)
theorem MH {v:n_}:(asInt v).Ap P λ_=>True:=DW KO λ_ _=>trivial
theorem Nv {v:n_}:(asBool v).Ap P λ_=>True:=by cases v<;>first|trivial|rfl
theorem mO {v:n_}:(asAgg v).Ap P λ_=>True:=by cases v<;>first|trivial|rfl
theorem JY {v:n_}:(asAddr v).Ap P λ_=>True:=by
 cases v<;>first|rfl|(rename_i a;cases a<;>first|trivial|exact AY)
theorem Ii {v:n_}:(Instr.sureAddr v).Ap P λ_=>True:=by
 cases v<;>first|rfl|(rename_i a;cases a<;>first|trivial|rfl)
theorem IG {t:j_} {cs:X_} {o:Nat}:(part t cs o).Ap P λ_=>True:=by
 refine Aa WQ λb=>Au (λ_=>Aa (AX Ns) λ_=>trivial) λ_=>?_
 cases cs[o]?<;>first|trivial|rfl
theorem YH {f:α->Sem β} (hf:∀a,(f a).Ap P λ_=>True):∀l:List α,(l.mapM f).Ap P λ_=>True
 |[]=>by rw[List.mapM_nil];exact trivial
 |a::l=>by rw[List.mapM_cons];exact Aa (hf a) λ_=>Aa (YH hf l) λ_=>trivial
theorem WN {f:α->Sem β} (hf:∀a,(f a).Ap P λ_=>True) (l:Array α):(l.mapM f).Ap P λ_=>True:=by
 rw[Array.mapM_eq_mapM_toList];exact bW (YH hf _) λ_ _=>trivial
theorem Tq {fn:Func} {tmps:X_}:(results fn tmps).Ap P λ_=>True:=by
 refine Aa (WN (λr=>?_) _) λb=>trivial
 cases r with
 |tmp t=>trivial
 |cell a t=>exact Aa JY λ_=>G6
end
end Go.Fxa
