/- A run of one gor -/
import Derived.KernelRfl
import Derived.Conc.Beside
import Derived.Conc.Listed
import Derived.Fence
import GoSem.Extern.SlicesOverlaps
import Derived.Laws.Sem
theorem Go.wB {p:Prop}(h:p:=by omega):p:=h
theorem Go.sJ {p:Prop}(h:p:=by simp):p:=h
theorem Go.sN {p:Prop}(h:p:=by decide):p:=h
theorem Go.sU {α:Sort _}{a b:α}(h:a=b:=by kernel_rfl):a=b:=h
theorem Go.ru {c:Prop}{h:Decidable c}(k:¬c){α:Sort _}{t e:α}:(if c then t else e)=e:=if_neg k
theorem Go.rW {c:Prop}{h:Decidable c}(k:c){α:Sort _}{t e:α}:(if c then t else e)=t:=if_pos k
theorem Go.qx {a b:Prop}(h:a)(k:¬a):b:=absurd h k
theorem Go.p_ {g:Nat}{f:Go.FuncId}{p:String}{es:Array Go.Event}{o:Go.MemOp}(h:o∈Go.MemOp.ofEvents g f p es):∃e,e∈es∧o={g:=g,fn:=f,pos:=p,act:=Go.MemAct.ofEvent e}:=Go.Conc.mem_ofEvents h
theorem Go.l7 {α:Type _}(a b:α):(some a=some b)=(a=b):=Option.some.injEq a b
theorem Go.l9 (w:Go.World)(a:Go.Addr){u:Go.Value}(h:w.cell? a=some u):a.block<w.heap.size:=Go.World.block_lt_of_cell? w a h
theorem Go.lG {α:Type _}{a:α}:¬a∈[]:=List.not_mem_nil
theorem Go.lJ {α:Type _}{s:Array α}{i:Nat}{a:α}(h:i<s.size):(s.setIfInBounds i a)[i]?=some a:=Array.getElem?_setIfInBounds_self_of_lt h
theorem Go.lN {n m k:Nat}(a:n<=m)(b:m<=k):n<=k:=Nat.le_trans a b
theorem Go.lQ {α:Type _}{β:Type _}(a:α)(b:β)(c:α)(d:β):((a,b)=(c,d))=(a=c∧b=d):=Prod.mk.injEq a b c d
theorem Go.lT {α:Type _}{b:α}{β:Type _}{x:Option β}{f:β->α}:Option.map f x=some b↔∃a,x=some a∧f a=b:=Option.map_eq_some_iff
theorem Go.kL {α:Type _}{s:Array α}:s++#[]=s:=Array.append_empty
theorem Go.jb :(false=true)=False:=Bool.false_eq_true
theorem Go.ik {α:Type _}{β:Type _}{f:α->β}{s:Array α}{i:Nat}:(Array.map f s)[i]?=Option.map f s[i]?:=Array.getElem?_map
theorem Go.iF {α:Type _}{s:Array α}{i:Nat}{f:α->α}{j:Nat}:(s.modify i f)[j]?=if i=j then Option.map f s[j]? else s[j]?:=Array.getElem?_modify
theorem Go.g_ {α:Type _}{s t:List α}:(s++t).length=s.length+t.length:=List.length_append
theorem Go.gJ {α:Sort _}{a b:α}(h:a≠b):b≠a:=Ne.symm h
theorem Go.ed {α:Type _}{s:Array α}{i:Nat}{d:α}:s.getD i d=s[i]?.getD d:=Array.getD_eq_getD_getElem?
theorem Go.eu {α:Type _}{a:α}{l:List α}:a∈l.toArray↔a∈l:=List.mem_toArray
theorem Go.eF {α:Type _}{a:α}{s t:List α}:a∈s++t↔a∈s∨a∈t:=List.mem_append
theorem Go.eP {α:Type _}{i:Nat}{l:List α}:(List.take i l).length=min i l.length:=List.length_take
theorem Go.dE:True:=trivial
theorem Go.z_ {α:Type _}{s:Array α}{i j:Nat}{a:α}(h:i≠j):(s.setIfInBounds i a)[j]?=s[j]?:=Array.getElem?_setIfInBounds_ne h
theorem Go.y_ {α:Type _}{s:Array α}{i:Nat}{b:α}:s[i]?=some b↔∃h:i<s.size,s[i]=b:=Array.getElem?_eq_some_iff
theorem Go.x_ {α:Type _}{a b:α}(h:some a=some b):a=b:=Option.some.inj h
theorem Go.w_ {n:Nat}:n<=n:=Nat.le_refl n
theorem Go.v_ {α:Type _}{s:Array α}{i:Nat}(h:i<s.size):s[i]?=some s[i]:=Array.getElem?_eq_getElem h
theorem Go.t_ {α:Type _}{l:List α}{i:Nat}{a:α}(h:l[i]?=some a):a∈l:=List.mem_of_getElem? h
theorem Go.r_ {α:Type _}{a b:α}{l:List α}:a∈b::l↔a=b∨a∈l:=List.mem_cons
abbrev Go.o_:=Go.World
abbrev Go.n_:=Go.Value
abbrev Go.m_:=Go.Goroutine
abbrev Go.l_:=Go.Program
abbrev Go.j_:=Go.TypeId
abbrev Go.h_:=Go.FuncId
abbrev Go.f_:=Go.Addr
abbrev Go.d_:=Option
abbrev Go.b_ (x:Int):Go.Value:=.int .i64 x
abbrev Go.a_ (x:Int):Go.Value:=.int .u16 x
abbrev Go.P_ (b n c:Nat):Go.Value:=.slice (some ⟨b,0,none⟩) n c
abbrev Go.N_ (c:Array Go.Value)(t:Go.TypeId):Go.Obj:=.cells c t (0,0)
abbrev Go.Z_:=List Go.Frame
abbrev Go.Y_:=Nat->Go.Value
abbrev Go.X_:=Array Go.Value
abbrev Go.W_:=Nat×Nat
abbrev Go.V_:Go.Obj:=.cells #[.int .u16 0,.int .u16 0,.nilFunc] 206
abbrev Go.U_:=List Go.Value
abbrev Go.S_ (b o:Nat):Go.Addr:=⟨b,o,none⟩
abbrev Go.R_ (b:Nat):Go.Addr:=⟨b,0,none⟩
abbrev Go.Q_ (b:Nat):Go.Value:=.pointer (some ⟨b,0,none⟩)
namespace Go.Fxa
end Go.Fxa
namespace Go
open Go.Fxa
def World.re (w:o_)(τ:Nat->Question->Nat)(d:Nat):o_:={w with tape:=τ,drawn:=d}
def Halt.LD:Halt->Bool
 |.panic _=>true
 |.stuck _=>true
 |.unsupported (.initOrder _)=>false
 |.unsupported _=>true
 |_=>false
end Go
namespace Go.Fxa
def DV:Obj:=.view ⟨0,0,some 0⟩ 0
end Go.Fxa
namespace Go
open Go.Fxa
def Obj.plain:Obj->Bool
 |.view a _=>a.spot.isSome
 |.pending ..=>false
 |.loop _=>false
 |.map ..=>false
 |_=>true
end Go
namespace Go.Fxa
def EZ (P:l_)(r:Nat){α:Type}(e:Sem α):Prop:=∀(w:o_)(es:Array Event)(a:α)(w':o_)(CP:Array Event),(∀(r:Nat)(o:Obj),w.heap[r]?=some o->o.plain=true)->w.heap[r]?=some DV->e.runT P w es≠(.ok a w',CP)
end Go.Fxa
namespace Go
open Go.Fxa
def Sem.E5 (P:l_){α:Type}:Sem α->Prop
 |.pure _=>False
 |.load _ _ k=>∀x,(k x).E5 P
 |.store _ _ _ k=>k.E5 P
 |.new o k=>o.plain=true/\∀r,(k r).E5 P
 |.shape _ k=>∀s,(k s).E5 P
 |.freeze _ _ k=>k.E5 P
 |.frozen _ k=>∀b,(k b).E5 P
 |.getObj _ k=>∀o,(k o).E5 P
 |.setObj _ o k=>o.plain=true/\k.E5 P
 |.choose _ k=>∀n,(k n).E5 P
 |.sys _ k=>∀r,(k r).E5 P
 |.program k=>(k P).E5 P
 |.mark _ k=>k.E5 P
 |.halt h=>h.LD=true
def Sem.Au (P:l_){α:Type}(K:α->Prop):Sem α->Prop
 |.pure a=>K a
 |.load _ _ k=>∀x,(k x).Au P K
 |.store _ _ _ k=>k.Au P K
 |.new o k=>o.plain=true/\∀r,(k r).Au P K
 |.shape r k=>(∀s,(k s).Au P K)/\EZ P r (k none)
 |.freeze _ _ k=>k.E5 P
 |.frozen _ k=>∀b,(k b).E5 P
 |.getObj r k=>(∀o,o.plain=true->(k o).Au P K)/\EZ P r (k DV)
 |.setObj _ o k=>o.plain=true/\k.E5 P
 |.choose _ k=>∀n,(k n).Au P K
 |.sys _ k=>∀r,(k r).E5 P
 |.program k=>(k P).Au P K
 |.mark m k=>(m=.noRoom/\k.Au P K)\/k.E5 P
 |.halt h=>h.LD=true
section
variable {P:l_}{α β:Type}
theorem Sem.E5.LK {e:Sem α}(h:e.E5 P):∀w es a w' i,e.runT P w es≠(.ok a w',i):=by
 induction e with
 |pure a=>exact h.elim
 |load m a k f=>
  intro w es b w' i d
  simp only[Sem.runT]at d
  split at d
  .exact f _ (h _) _ _ _ _ _ d
  .split at d
   .exact f _ (h _) _ _ _ _ _ d
   .simp at d
 |store m a v k f=>
  intro w es b w' i d
  cases v<;>simp only[Sem.runT]at d<;>first
   |(simp at d;done)
   | (split at d
      .split at d
       .simp at d
       .exact f h _ _ _ _ _ d
      .split at d
       .exact f h _ _ _ _ _ d
       .simp at d)
 |new o k f=>exact λw es b w' i d=>f _ (h.2 _) _ _ _ _ _ d
 |shape r k f=>exact λw es b w' i d=>f _ (h _) _ _ _ _ _ d
 |freeze a n k f=>exact λw es b w' i d=>f h _ _ _ _ _ d
 |frozen a k f=>exact λw es b w' i d=>f _ (h _) _ _ _ _ _ d
 |getObj r k f=>
  intro w es b w' i d
  simp only[Sem.runT]at d
  split at d
  .simp at d
  .exact f _ (h _) _ _ _ _ _ d
  .simp at d
 |setObj r o k f=>
  intro w es b w' i d
  simp only[Sem.runT]at d
  split at d
  .simp at d
  .exact f h.2 _ _ _ _ _ d
  .simp at d
 |choose q k f=>
  intro w es b w' i d
  simp only[Sem.runT]at d
  split at d
  .exact f _ (h _) _ _ _ _ _ d
  .exact f _ (h _) _ _ _ _ _ d
 |sys c k f=>exact λw es b w' i d=>f _ (h _) _ _ _ _ _ d
 |program k f=>exact λw es b w' i d=>f _ h _ _ _ _ _ d
 |mark m k f=>exact λw es b w' i d=>f h _ _ _ _ _ d
 |halt g=>intro w es b w' i d;simp[Sem.runT]at d
theorem Sem.E5.lK {e:Sem α}{K:α->Prop}(h:e.E5 P):e.Au P K:=by
 induction e with
 |pure a=>exact h.elim
 |load m a k b=>exact λx=>b x (h x)
 |store m a v k b=>exact b h
 |new o k b=>exact⟨h.1,λx=>b x (h.2 x)⟩
 |shape r k b=>exact⟨λx=>b x (h x),λw f a g d _ _=>(h none).LK w f a g d⟩
 |freeze a n k b=>exact h
 |frozen a k b=>exact h
 |getObj r k b=>exact⟨λx _=>b x (h x),λw f a g d _ _=>(h DV).LK w f a g d⟩
 |setObj r o k b=>exact h
 |choose q k b=>exact λx=>b x (h x)
 |sys c k b=>exact h
 |program k b=>exact b P h
 |mark m k b=>exact .inr h
 |halt i=>exact h
theorem Sem.E5.bind {e:Sem α}{f:α->Sem β}(h:e.E5 P):(e.bind f).E5 P:=by
 induction e with
 |pure a=>exact h.elim
 |load m a k b=>exact λx=>b x (h x)
 |store m a v k b=>exact b h
 |new o k b=>exact⟨h.1,λx=>b x (h.2 x)⟩
 |shape r k b=>exact λx=>b x (h x)
 |freeze a n k b=>exact b h
 |frozen a k b=>exact λx=>b x (h x)
 |getObj r k b=>exact λx=>b x (h x)
 |setObj r o k b=>exact⟨h.1,b h.2⟩
 |choose q k b=>exact λx=>b x (h x)
 |sys c k b=>exact λx=>b x (h x)
 |program k b=>exact b P h
 |mark m k b=>exact b h
 |halt d=>exact h
end
end Go
namespace Go.Fxa
section
variable {P:l_}{α β:Type}
theorem MR {e:Sem α}{f:α->Sem β}:∀{w:o_} {es:Array Event} {b:β} {w':o_} {g:Array Event},(e.bind f).runT P w es=(.ok b w',g)->∃a w1 d,e.runT P w es=(.ok a w1,d):=by
 intro w es b w' g h;rw[Sem.runT_bind']at h;cases hr:e.runT P w es with
 |mk r d=>
  cases r with
  |ok a w1=>exact⟨a,w1,d,rfl⟩
  |halt c w1=>rw[hr]at h;simp at h
theorem EZ.bind {r:Nat}{e:Sem α}{f:α->Sem β}(h:EZ P r e):EZ P r (e.bind f):=λw d b m l j k i=>by
 obtain⟨a,w1,c,g⟩:=MR i;exact h w d a w1 c j k g
end
end Go.Fxa
namespace Go
open Go.Fxa
section
variable {P:l_}{α β:Type}
theorem Sem.Au.bind {e:Sem α}{f:α->Sem β}{K:α->Prop}{K':β->Prop}(h:e.Au P K)(i:∀a,K a->(f a).Au P K'):(e.bind f).Au P K':=by
 induction e with
 |pure a=>exact i a h
 |load m a k b=>exact λx=>b x (h x)
 |store m a v k b=>exact b h
 |new o k b=>exact⟨h.1,λx=>b x (h.2 x)⟩
 |shape r k b=>exact⟨λx=>b x (h.1 x),h.2.bind⟩
 |freeze a n k b=>exact Sem.E5.bind h
 |frozen a k b=>exact λx=>(h x).bind
 |getObj r k b=>exact⟨λx d=>b x (h.1 x d),h.2.bind⟩
 |setObj r o k b=>exact⟨h.1,Sem.E5.bind h.2⟩
 |choose q k b=>exact λx=>b x (h x)
 |sys c k b=>exact λx=>(h x).bind
 |program k b=>exact b P h
 |mark m k b=>exact h.elim (λh=>.inl ⟨h.1,b h.2⟩) λh=>.inr h.bind
 |halt g=>exact h
end
end Go
namespace Go.Fxa
variable {Z:Nat->Prop}{a ad:f_}{x:n_}{P:l_}{v:o_}{b:Bool}{t:j_}{α:Type}
structure Old where
 dead:Nat->Prop
 ref:Nat->Obj
abbrev ND:Old:=⟨λ_=>False,λ_=>DV⟩
structure Yr (Od:Old)(Z:Nat->Prop)(v w:o_):Prop where
 size:v.heap.size=w.heap.size
 same:∀r,¬Z r->¬Od.dead r->v.heap[r]?=w.heap[r]?
 dead:∀r,Z r->r<v.heap.size->v.heap[r]?=some DV
 plain:∀(r:Nat)(o:Obj),v.heap[r]?=some o->o.plain=true
 os:v.os=w.os
 output:v.output=w.output
 KN:∀r,Od.dead r->v.heap[r]?=some DV
 kept:∀r,Od.dead r->w.heap[r]?=some (Od.ref r)
 ax:∀r,Od.dead r->¬Z r
def EvT (Z:Nat->Prop)(n:Nat)(e:Event):Prop:=
 (∃a,e.loc=.cell a/\¬Z a.block/\a.block<n)\/(∃r,e.loc=.obj r/\¬Z r/\r<n)\/e.loc=.mark .noRoom\/∃f,e.loc=.mark (.extern f)
theorem EvT.mono {n f:Nat}{e:Event}(h:EvT Z n e)(g:n<=f):EvT Z f e:=by
 obtain⟨a,b,c,d⟩|⟨a,b,c,d⟩|h:=h
 .exact .inl ⟨a,b,c,wB⟩
 .exact .inr (.inl ⟨a,b,c,wB⟩)
 .exact .inr (.inr h)
section
variable {Z:Nat->Prop}{v w:o_}
theorem Yr.Yh {Od:Old}(T:Yr Od Z v w)(h:v.cell? a=some x):¬Od.dead a.block:=λb=>by
 unfold World.cell? at h;rw[T.KN _ b]at h;simp[DV]at h
theorem Yr.cell {Od:Old}(T:Yr Od Z v w)(h:v.cell? a=some x):w.cell? a=some x/\¬Z a.block/\a.block<w.heap.size/\w.frozen? a=v.frozen? a:=by
 have b:¬Z a.block:=by
  intro b
  unfold World.cell? at h
  by_cases d:a.block<v.heap.size
  .rw[T.dead _ b d]at h;simp[DV]at h
  .rw[Array.getElem?_eq_none wB]at h;simp at h
 have c:=T.Yh h;refine⟨by rw[<-h];unfold World.cell?;rw[T.same _ b c],b,?_,by unfold World.frozen?;rw[T.same _ b c]⟩;rw[<-T.size];unfold World.cell? at h;cases e:v.heap[a.block]? with
 |none=>rw[e]at h;simp at h
 |some o=>exact(y_.1 e).1
theorem Yr.TP {Od:Old}(T:Yr Od Z v w)(τ τ':Nat->Question->Nat)(d d':Nat):Yr Od Z (v.re τ d) (w.re τ' d'):=
 ⟨T.size,T.same,T.dead,T.plain,T.os,T.output,T.KN,T.kept,T.ax⟩
theorem Yr.setCell {Od:Old}(T:Yr Od Z v w)(x:n_)(l:¬Z a.block)(k:¬Od.dead a.block):Yr Od Z (v.setCell a x) (w.setCell a x):=by
 have g:∀u:o_,(u.setCell a x).heap.size=u.heap.size:=λu=>by simp[World.setCell]
 have c:∀(u:o_) r,r≠a.block->(u.setCell a x).heap[r]?=u.heap[r]?:=λu r b=>by
  simp[World.setCell,iF,gJ b]
 have heq:(v.setCell a x).heap[a.block]?=(w.setCell a x).heap[a.block]?:=by
  simp only[World.setCell,iF,if_true,T.same _ l k]
 have d:∀r,Od.dead r->r≠a.block:=λr b h=>k (h ▸ b)
 refine⟨by rw[g,g,T.size],λr b f=>?_,λr b i=>?_,λr o b=>?_,T.os,T.output,λr b=>by rw[c _ _ (d r b)];exact T.KN r b,λr b=>by rw[c _ _ (d r b)];exact T.kept r b,T.ax⟩
 .by_cases h:r=a.block
  .subst h;exact heq
  .rw[c _ _ h,c _ _ h,T.same _ b f]
 .have h:r≠a.block:=λh=>l (h ▸ b)
  rw[c _ _ h];exact T.dead r b (by rw[g]at i;exact i)
 .by_cases h:r=a.block
  .subst h;simp only[World.setCell,iF,if_true]at b;cases e:v.heap[a.block]? with
   |none=>rw[e]at b;simp at b
   |some j=>
    rw[e]at b
    have:=T.plain _ _ e
    simp only[Option.map_some,l7]at b
    subst b
    cases j<;>first|rfl|exact this
  .rw[c _ _ h]at b;exact T.plain _ _ b
theorem Yr.push {Od:Old}(T:Yr Od Z v w){o:Obj}(f:o.plain=true)(g:¬Z v.heap.size):
  Yr Od Z {v with heap:=v.heap.push o} {w with heap:=w.heap.push o}:=by
 have up:∀(u:o_)(r:Nat)(q:Obj),u.heap[r]?=some q->(u.heap.push o)[r]?=some q:=λu r q h=>by
  have lt:=(y_.1 h).1
  rw[Array.getElem?_push,ru wB]
  exact h
 refine⟨by simp[T.size],λr a b=>?_,λr a c=>?_,λr d a=>?_,T.os,T.output,λr a=>up v r _ (T.KN r a),λr a=>up w r _ (T.kept r a),T.ax⟩
 .have e:=T.same r a b;simp only[Array.getElem?_push,T.size,e]
 .simp only[Array.size_push]at c;have:r≠v.heap.size:=λh=>g (h ▸ a)
  rw[Array.getElem?_push,ru this];exact T.dead r a wB
 .simp only[Array.getElem?_push]at a;split at a
  .obtain rfl:=x_ a;exact f
  .exact T.plain _ _ a
end
theorem bU (f:ad.spot.isSome=true)(d:v.heap[a.block]?=some (.view ad t)):∃c,v.farLoad P a b=.error (.unsupported (.unsafePointer c)):=by
 unfold World.farLoad;rw[d];have:∃c,v.viewLoad P ad t a b=.error c:=by
  unfold World.viewLoad World.seen
  simp only[f,Bool.or_true,if_true]
  exact⟨_,rfl⟩
 obtain⟨c,e⟩:=this;simp only[e];exact⟨c,rfl⟩
theorem Z8 (f:ad.spot.isSome=true)(d:v.heap[a.block]?=some (.view ad t)):∃c,v.farStore P a x b=.error (.unsupported (.unsafePointer c)):=by
 unfold World.farStore;rw[d];have:∃c,v.viewStore P ad t a x b=.error c:=by
  unfold World.viewStore World.seen
  simp only[f,Bool.or_true,if_true]
  split
  .exact⟨_,rfl⟩
  .exact⟨_,rfl⟩
 obtain⟨c,e⟩:=this;simp only[e];exact⟨c,rfl⟩
theorem TI (i:∀(r:Nat)(o:Obj),v.heap[r]?=some o->o.plain=true)(a:f_)(b:Bool):
  ∃h,v.farLoad P a b=.error h/\h.LD=true:=by
 cases ho:v.heap[a.block]? with
 |none=>exact⟨_,by unfold World.farLoad;rw[ho],by simp[World.noCell,ho,Halt.LD]⟩
 |some d=>
  have:=i _ _ ho
  cases d with
  |view g t=>obtain⟨f,e⟩:=bU (P:=P) (b:=b) this ho;exact⟨_,e,rfl⟩
  |pending c t=>cases this
  |_=>exact⟨_,by unfold World.farLoad;rw[ho],by simp[World.noCell,ho,Halt.LD]⟩
theorem NZ (i:∀(r:Nat)(o:Obj),v.heap[r]?=some o->o.plain=true)(a:f_)(x:n_)(b:Bool):
  ∃h,v.farStore P a x b=.error h/\h.LD=true:=by
 cases ho:v.heap[a.block]? with
 |none=>exact⟨_,by unfold World.farStore;rw[ho],by simp[World.noCell,ho,Halt.LD]⟩
 |some d=>
  have:=i _ _ ho
  cases d with
  |view g t=>obtain⟨f,e⟩:=Z8 (P:=P) (x:=x) (b:=b) this ho;exact⟨_,e,rfl⟩
  |pending c t=>cases this
  |_=>exact⟨_,by unfold World.farStore;rw[ho],by simp[World.noCell,ho,Halt.LD]⟩
theorem IZ {K:α->Prop}{e:Sem α}(y:e.Au P K):∀{v:o_} {es:Array Event} {a:α} {v':o_} {z:Array Event},
  (∀(r:Nat)(o:Obj),v.heap[r]?=some o->o.plain=true)->e.runT P v es=(.ok a v',z)->v.drawn<=v'.drawn/\v'.tape=v.tape/\v.heap.size<=v'.heap.size:=by
 induction e with
 |pure a=>intro v es b v' z _ h;simp only[Sem.runT,lQ,Result.ok.injEq]at h;obtain⟨⟨_,rfl⟩,_⟩:=h;simp
 |load m a k d=>
  intro v es b v' z f h
  simp only[Sem.runT]at h
  split at h
  .exact d _ (y _) f h
  .split at h
   .exact d _ (y _) f h
   .simp at h
 |store m a x k d=>
  intro v es b v' z f h
  have key:(match v.cell? a with
    |some _=>if v.frozen? a then(Result.halt (.unsupported (.unsafePointer "a write to bytes that a string shares")) v,es)else k.runT P (v.setCell a x) (es.push ⟨.cell a,true,m==.atomic⟩)
    |none=>match v.farStore P a x (m==.atomic)with
     |.ok (w,i)=>k.runT P w (es++i.toArray.map (⟨.cell ·,true,m==.atomic⟩))
     |.error h=>(.halt h v,es))=(.ok b v',z):=by
   cases x<;>first|exact h|(simp[Sem.runT]at h;done)
  clear h
  split at key
  .split at key
   .simp at key
   .have:=d y (v:=v.setCell a x) ?_ key
    .simpa [World.setCell]using this
    .intro r o g;simp only[World.setCell,iF]at g;split at g
     .rename_i p;cases j:v.heap[r]? with
      |none=>rw[j]at g;simp at g
      |some l=>
       have:=f _ _ j
       rw[j]at g
       simp only[Option.map_some,l7]at g
       subst g
       cases l<;>first|rfl|exact this
     .exact f _ _ g
  .rename_i t;obtain⟨u,e,_⟩:=NZ (P:=P) f a x (m==.atomic);rw[e]at key;simp at key
 |new o k d=>
  intro v es b v' z f h
  have:=d _ (y.2 _) (v:={v with heap:=v.heap.push o}) (λr l g=>by
   simp only[Array.getElem?_push]at g
   split at g
   .obtain rfl:=x_ g;exact y.1
   .exact f _ _ g) h
  simp only[Array.size_push]at this;exact⟨this.1,this.2.1,wB⟩
 |shape r k d=>intro v es b v' z f h;exact d _ (y.1 _) f h
 |freeze a n k d=>intro v es b v' z _ h;exact(Sem.E5.LK y _ _ _ _ _ h).elim
 |frozen a k d=>intro v es b v' z _ h;exact((y _).LK _ _ _ _ _ h).elim
 |getObj r k d=>
  intro v es b v' z f h
  simp only[Sem.runT]at h
  split at h
  .simp at h
  .rename_i o _ j;exact d _ (y.1 _ (f _ _ j)) f h
  .simp at h
 |setObj r o k d=>
  intro v es b v' z _ h
  simp only[Sem.runT]at h
  split at h
  .simp at h
  .exact(Sem.E5.LK y.2 _ _ _ _ _ h).elim
  .simp at h
 |choose q k d=>
  intro v es b v' z f h
  simp only[Sem.runT]at h
  split at h
  .exact d _ (y _) f h
  .have:=d _ (y _) (v:={v with drawn:=v.drawn+1}) f h;simp only at this;exact⟨wB,this.2.1,this.2.2⟩
 |sys c k d=>intro v es b v' z _ h;exact((y _).LK _ _ _ _ _ h).elim
 |program k d=>intro v es b v' z f h;exact d _ y f h
 |mark m k d=>
  intro v es b v' z f h
  obtain y|y:=y
  .exact d y.2 f h
  .exact(Sem.E5.LK y _ _ _ _ _ h).elim
 |halt s=>intro v es b v' z _ h;simp[Sem.runT]at h
theorem bI (d:∀(r:Nat)(o:Obj),v.heap[r]?=some o->o.plain=true)(a:f_)(x:n_):
  ∀(r:Nat)(o:Obj),(v.setCell a x).heap[r]?=some o->o.plain=true:=by
 intro r o b;simp only[World.setCell,iF]at b;split at b
 .cases ho:v.heap[r]? with
  |none=>rw[ho]at b;simp at b
  |some c=>
   have:=d _ _ ho
   rw[ho]at b
   simp only[Option.map_some,l7]at b
   subst b
   cases c<;>first|rfl|exact this
 .exact d _ _ b
theorem kH (d:∀(r:Nat)(o:Obj),v.heap[r]?=some o->o.plain=true)(a:f_)(n:Nat):
  ∀(r:Nat)(o:Obj),(v.freeze a n).heap[r]?=some o->o.plain=true:=by
 intro r o b;unfold World.freeze at b;split at b
 .exact d _ _ b
 .simp only[iF]at b;split at b
  .cases ho:v.heap[r]? with
   |none=>rw[ho]at b;simp at b
   |some c=>
    have:=d _ _ ho
    rw[ho]at b
    simp only[Option.map_some,l7]at b
    subst b
    cases c<;>first|rfl|exact this
  .exact d _ _ b
theorem an2 (v:o_)(c:Sys):(v.sys c).2.heap=v.heap:=by
 have ask:∀{β:Type} (k:Ask β) (u:o_),(u.ask k).2.heap=u.heap:=by
  intro β k
  induction k with
  |done a=>intro u;rfl
  |ask d range k b=>
   intro u
   unfold World.ask
   simp only
   split
   .exact b _ _
   .exact b _ _
 unfold World.sys;have:=ask (Kernel.perform c v.os) v;split
 .rfl
 .rename_i r g h f e;rw[e]at this;exact this
theorem eU {K:α->Prop}{e:Sem α}(B:e.Au P K):∀{v:o_} {es:Array Event} {h:Halt} {v':o_} {C:Array Event},
  (∀(r:Nat)(o:Obj),v.heap[r]?=some o->o.plain=true)->e.runT P v es=(.halt h v',C)->h.LD=true/\∀(r:Nat)(o:Obj),v'.heap[r]?=some o->o.plain=true:=by
 induction e with
 |pure a=>intro v es f v' C _ h;simp[Sem.runT]at h
 |load m a k d=>
  intro v es f v' C b h
  simp only[Sem.runT]at h
  split at h
  .exact d _ (B _) b h
  .obtain⟨p,e2,l⟩:=TI (P:=P) b a (m==.atomic);rw[e2]at h;simp only[lQ,Result.halt.injEq]at h;rw[<-h.1.1,<-h.1.2];exact⟨l,b⟩
 |store m a x k d=>
  intro v es f v' C b h
  have g:(Sem.store m a x k).runT P v es=(match v.cell? a with
    |some _=>if v.frozen? a then(Result.halt (.unsupported (.unsafePointer "a write to bytes that a string shares")) v,es)else k.runT P (v.setCell a x) (es.push ⟨.cell a,true,m==.atomic⟩)
    |none=>match v.farStore P a x (m==.atomic)with
     |.ok (w,j)=>k.runT P w (es++j.toArray.map (⟨.cell ·,true,m==.atomic⟩))
     |.error h=>(.halt h v,es))\/∃s,(Sem.store m a x k).runT P v es=(.halt (.stuck s) v,es):=by
   cases x<;>first|exact .inl rfl|exact .inr ⟨_,rfl⟩
  obtain g|⟨s,u⟩:=g
  case inr=>rw[u]at h;simp only[lQ,Result.halt.injEq]at h;rw[<-h.1.1,<-h.1.2];exact⟨rfl,b⟩
  rw[g]at h
  split at h
  .split at h
   .simp only[lQ,Result.halt.injEq]at h;rw[<-h.1.1,<-h.1.2];exact⟨rfl,b⟩
   .exact d B (bI b a x) h
  .obtain⟨p,e2,l⟩:=NZ (P:=P) b a x (m==.atomic);rw[e2]at h;simp only[lQ,Result.halt.injEq]at h;rw[<-h.1.1,<-h.1.2];exact⟨l,b⟩
 |new o k d=>
  intro v es f v' C b h
  exact d _ (B.2 _) (v:={v with heap:=v.heap.push o}) (λr y i=>by
   simp only[Array.getElem?_push]at i
   split at i
   .obtain rfl:=x_ i;exact B.1
   .exact b _ _ i) h
 |shape r k d=>intro v es f v' C b h;exact d _ (B.1 _) b h
 |freeze a n k d=>intro v es f v' C b h;exact d (Sem.E5.lK B) (kH b a n) h
 |frozen a k d=>intro v es f v' C b h;exact d _ (Sem.E5.lK (B _)) b h
 |getObj r k d=>
  intro v es f v' C b h
  simp only[Sem.runT]at h
  split at h
  .simp only[lQ,Result.halt.injEq]at h;rw[<-h.1.1,<-h.1.2];exact⟨rfl,b⟩
  .rename_i o _ t;exact d _ (B.1 _ (b _ _ t)) b h
  .simp only[lQ,Result.halt.injEq]at h;rw[<-h.1.1,<-h.1.2];exact⟨rfl,b⟩
 |setObj r o k d=>
  intro v es f v' C b h
  simp only[Sem.runT]at h
  split at h
  .simp only[lQ,Result.halt.injEq]at h;rw[<-h.1.1,<-h.1.2];exact⟨rfl,b⟩
  .refine d (Sem.E5.lK B.2) (v:={v with heap:=v.heap.setIfInBounds r o}) (λA y i=>?_) h;simp only[Array.getElem?_setIfInBounds]at i;split at i
   .split at i
    .obtain rfl:=x_ i;exact B.1
    .simp at i
   .exact b _ _ i
  .simp only[lQ,Result.halt.injEq]at h;rw[<-h.1.1,<-h.1.2];exact⟨rfl,b⟩
 |choose q k d=>
  intro v es f v' C b h
  simp only[Sem.runT]at h
  split at h
  .exact d _ (B _) b h
  .exact d _ (B _) (v:={v with drawn:=v.drawn+1}) b h
 |sys c k d=>intro v es f v' C b h;exact d _ (Sem.E5.lK (B _)) (by rw[an2];exact b) h
 |program k d=>intro v es f v' C b h;exact d _ B b h
 |mark m k d=>
  intro v es f v' C b h
  obtain B|B:=B
  .exact d B.2 b h
  .exact d (Sem.E5.lK B) b h
 |halt z=>
  intro v es f v' C b h
  simp only[Sem.runT,lQ,Result.halt.injEq]at h
  rw[<-h.1.1,<-h.1.2];exact⟨B,b⟩
theorem U8 {Od:Old}{K:α->Prop}{e:Sem α}(he:e.Au P K):∀{v w:o_} {es:Array Event} {a:α} {v':o_} {CP:Array Event},
  Yr Od Z v w->(∀r,Z r->r<v.heap.size)->e.runT P v es=(.ok a v',CP)->
  (∀j,j<v'.drawn-v.drawn->∀q,w.tape (w.drawn+j) q=v.tape (v.drawn+j) q)->
  ∃w' more,K a/\e.runT P w es=(.ok a w',CP)/\Yr Od Z v' w'/\(∀r,Z r->w'.heap[r]?=w.heap[r]?)/\w'.tape=w.tape/\w'.drawn=w.drawn+(v'.drawn-v.drawn)/\CP=es++more/\∀x∈more,EvT Z v'.heap.size x:=by
 induction e with
 |pure a=>
  intro v w es b v' CP T i h _
  simp only[Sem.runT,lQ,Result.ok.injEq]at h
  obtain⟨⟨rfl,rfl⟩,rfl⟩:=h
  exact⟨w,#[],he,rfl,T,λ_ _=>rfl,rfl,sJ,sJ,sJ⟩
 |load m a k l=>
  intro v w es b v' CP T i h p
  have Q:=IZ he T.plain h
  simp only[Sem.runT]at h
  split at h
  .rename_i x hx;obtain⟨M,g,N,_⟩:=T.cell hx;obtain⟨w',more,A,t,z,f,C,D,E,F⟩:=l _ (he _) T i h p;refine⟨w',#[⟨.cell a,false,m==.atomic⟩]++more,A,by simp only[Sem.runT,M];exact t,z,f,C,D,by rw[E];simp,λy d=>?_⟩;obtain d|d:=Array.mem_append.1 d
   .simp at d;subst d;exact .inl ⟨a,rfl,g,by have:=T.size;omega⟩
   .exact F y d
  .rename_i hn;exfalso;obtain⟨hh,e,_⟩:=TI (P:=P) T.plain a (m==.atomic);rw[e]at h;simp at h
 |store m a x k l=>
  intro v w es b v' CP T i h p
  have B:(∀u:o_,(Sem.store m a x k).runT P u es=(match u.cell? a with
    |some _=>if u.frozen? a then(Result.halt (.unsupported (.unsafePointer "a write to bytes that a string shares")) u,es)else k.runT P (u.setCell a x) (es.push ⟨.cell a,true,m==.atomic⟩)
    |none=>match u.farStore P a x (m==.atomic)with
     |.ok (w,H)=>k.runT P w (es++H.toArray.map (⟨.cell ·,true,m==.atomic⟩))
     |.error h=>(.halt h u,es)))\/∃s,(Sem.store m a x k).runT P v es=(.halt (.stuck s) v,es):=by
   cases x<;>first|exact .inl λ_=>rfl|exact .inr ⟨_,rfl⟩
  obtain B|⟨s,hv⟩:=B
  case inr=>rw[hv]at h;simp at h
  rw[B]at h
  rw[B]
  split at h
  .rename_i y d;have V:=d;obtain⟨M,g,N,Y⟩:=T.cell d;split at h
   .simp at h
   .rename_i O;have U:(v.setCell a x).heap.size=v.heap.size:=(by simp[World.setCell]);obtain⟨w',more,A,t,z,f,C,D,E,F⟩:=l he (T.setCell x g (T.Yh d)) (by rw[U];exact i) h p;refine⟨w',#[⟨.cell a,true,m==.atomic⟩]++more,A,?_,z,λr I=>by
     rw[f r I]
     have W:a.block≠r:=λe=>g (e ▸ I)
     simp[World.setCell,iF,W],C,D,by rw[E];simp,λy d=>?_⟩
    .simp only[M,Y,O];exact t
    .obtain d|d:=Array.mem_append.1 d
     .have hgr:=IZ (e:=k) he (T.setCell x g (T.Yh V)).plain h;simp at d;subst d;exact .inl ⟨a,rfl,g,by have:=T.size;omega⟩
     .exact F y d
  .rename_i hn;exfalso;obtain⟨hh,e,_⟩:=NZ (P:=P) T.plain a x (m==.atomic);rw[e]at h;simp at h
 |new o k l=>
  intro v w es b v' CP T i h p
  have g:¬Z v.heap.size:=λg=>Nat.lt_irrefl _ (i _ g)
  obtain⟨w',more,A,t,z,f,C,D,E,F⟩:=l _ (he.2 _) (T.push he.1 g) (λr I=>by have:=i r I;simp only[Array.size_push];omega) h p
  exact⟨w',more,A,by simp only[Sem.runT];rw[<-T.size];exact t,z,λr I=>by
   rw[f r I]
   have:=i r I
   rw[T.size]at this
   simp only[Array.getElem?_push]
   rw[ru wB],C,D,E,F⟩
 |shape r k l=>
  intro v w es b v' CP T i h p
  have J:(k (v.shape? r)).runT P v es=(.ok b v',CP):=h
  have g:¬Z r:=λg=>by
   have L:=T.dead r g (i r g)
   have e:v.shape? r=none:=by unfold World.shape?;rw[L];rfl
   rw[e]at J
   exact he.2 _ _ _ _ _ T.plain L J
  have G:¬Od.dead r:=λG=>by
   have L:=T.KN r G
   have e:v.shape? r=none:=by unfold World.shape?;rw[L];rfl
   rw[e]at J
   exact he.2 _ _ _ _ _ T.plain L J
  have e:w.shape? r=v.shape? r:=by unfold World.shape?;rw[T.same r g G]
  obtain⟨w',more,A,t,z⟩:=l _ (he.1 _) T i J p
  exact⟨w',more,A,by simp only[Sem.runT];rw[e];exact t,z⟩
 |freeze a n k l=>intro v w es b v' CP _ _ h;exact(Sem.E5.LK he _ _ _ _ _ h).elim
 |frozen a k l=>intro v w es b v' CP _ _ h;exact((he _).LK _ _ _ _ _ h).elim
 |getObj r k l=>
  intro v w es b v' CP T i h p
  have Q:=IZ he T.plain h
  simp only[Sem.runT]at h
  split at h
  .simp at h
  .rename_i o R G;have N:=(y_.1 G).1;have g:¬Z r:=λg=>by
    have e:=T.dead r g N
    rw[e]at G
    obtain rfl:=x_ G
    exact he.2 _ _ _ _ _ T.plain e h
   have S:¬Od.dead r:=λg=>by
    have e:=T.KN r g
    rw[e]at G
    obtain rfl:=x_ G
    exact he.2 _ _ _ _ _ T.plain e h
   obtain⟨w',more,A,t,z,f,C,D,E,F⟩:=l _ (he.1 _ (T.plain _ _ G)) T i h p;refine⟨w',#[⟨.obj r,false,o.isChan⟩]++more,A,?_,z,f,C,D,by rw[E];simp,λy d=>?_⟩
   .have M:w.heap[r]?=some o:=(by rw[<-T.same r g S,G]);simp only[Sem.runT,M];cases o<;>first|exact t|exact(R _ _ _ rfl).elim
   .obtain d|d:=Array.mem_append.1 d
    .simp at d;subst d;exact .inr (.inl ⟨r,rfl,g,wB⟩)
    .exact F y d
  .simp at h
 |setObj r o k l=>
  intro v w es b v' CP _ _ h
  simp only[Sem.runT]at h
  split at h
  .simp at h
  .exact(Sem.E5.LK he.2 _ _ _ _ _ h).elim
  .simp at h
 |choose q k l=>
  intro v w es b v' CP T i h p
  simp only[Sem.runT]at h
  split at h
  .rename_i hq;obtain⟨w',more,A,t,z⟩:=l _ (he _) T i h p;exact⟨w',more,A,by simp only[Sem.runT,hq,if_true];exact t,z⟩
  .rename_i hq;have Q:=IZ (he _) (v:={v with drawn:=v.drawn+1}) T.plain h;simp only at Q;have X:w.tape w.drawn q=v.tape v.drawn q:=by
    have:=p 0 wB q
    simpa using this
   obtain⟨w',more,A,t,z,f,C,D,E,F⟩:=l _ (he _) (v:={v with drawn:=v.drawn+1}) (w:={w with drawn:=w.drawn+1}) ⟨T.size,T.same,T.dead,T.plain,T.os,T.output,T.KN,T.kept,T.ax⟩ i h (λj hj q'=>by
    have:=p (j+1) (by simp only at hj;omega) q'
    have e1:w.drawn+1+j=w.drawn+(j+1):=wB
    have e2:v.drawn+1+j=v.drawn+(j+1):=wB
    simp only[e1,e2]
    exact this);refine⟨w',more,A,by simp only[Sem.runT,hq,X];exact t,z,f,C,?_,E,F⟩;rw[D];simp only;omega
 |sys c k l=>intro v w es b v' CP _ _ h;exact((he _).LK _ _ _ _ _ h).elim
 |program k l=>intro v w es b v' CP T i h p;exact l _ he T i h p
 |mark m k l=>
  intro v w es b v' CP T i h p
  obtain⟨rfl,he⟩|he:=he
  .obtain⟨w',more,A,t,z,f,C,D,E,F⟩:=l he T i h p;refine⟨w',#[⟨.mark .noRoom,false,true⟩]++more,A,t,z,f,C,D,by rw[E];simp,λy d=>?_⟩;obtain d|d:=Array.mem_append.1 d
   .simp at d;subst d;exact .inr (.inr (.inl rfl))
   .exact F y d
  .exact(Sem.E5.LK he _ _ _ _ _ h).elim
 |halt J=>intro v w es b v' CP _ _ h;simp[Sem.runT]at h
structure Iy (P:l_){β:Type}(K:β->Prop)(e:Sem β)(v:o_):Prop where
 GI:∀{v':o_} {es CP:Array Event} {b:β},(∀(r:Nat)(o:Obj),v.heap[r]?=some o->o.plain=true)->e.runT P v es=(.ok b v',CP)->v.drawn<=v'.drawn/\v'.tape=v.tape/\v.heap.size<=v'.heap.size
 LD:∀{v':o_} {es CP:Array Event} {h':Halt},(∀(r:Nat)(o:Obj),v.heap[r]?=some o->o.plain=true)->e.runT P v es=(.halt h' v',CP)->h'.LD=true/\∀(r:Nat)(o:Obj),v'.heap[r]?=some o->o.plain=true
 twin:∀{Od:Old} {Z:Nat->Prop} {w v':o_} {es CP:Array Event} {b:β},Yr Od Z v w->(∀r,Z r->r<v.heap.size)->e.runT P v es=(.ok b v',CP)->
  (∀j,j<v'.drawn-v.drawn->∀q,w.tape (w.drawn+j) q=v.tape (v.drawn+j) q)->
  ∃w' more,K b/\e.runT P w es=(.ok b w',CP)/\Yr Od Z v' w'/\(∀r,Z r->w'.heap[r]?=w.heap[r]?)/\w'.tape=w.tape/\w'.drawn=w.drawn+(v'.drawn-v.drawn)/\CP=es++more/\∀x∈more,EvT Z v'.heap.size x
end Go.Fxa
namespace Go
open Go.Fxa
section
variable {P:l_}{β:Type}{K:β->Prop}{e:Sem β}
theorem Sem.Au.here (h:e.Au P K)(v:o_):Iy P K e v:=⟨λb a=>IZ h b a,λb a=>eU h b a,λT d a c=>U8 h T d a c⟩
end
end Go
namespace Go.Fxa
variable {α:Type}{v v':o_}{es CP:Array Event}
section
variable {P:l_}{β:Type}{K:β->Prop}{e:Sem β}
theorem RY {e:Sem α}{K:α->Prop}(b:e.Au P K){a:α}(c:∀(r:Nat)(o:Obj),v.heap[r]?=some o->o.plain=true)(h:e.runT P v es=(.ok a v',CP)):∀(r:Nat)(o:Obj),v'.heap[r]?=some o->o.plain=true:=by
 obtain⟨_,_,_,_,T,_⟩:=U8 (Od:=ND) (Z:=λ_=>False) (w:=v) b (@Yr.mk ND _ _ _ rfl (λ_ _ _=>rfl) (λ_ h=>h.elim) c rfl rfl (λ_ h=>False.elim h) (λ_ h=>False.elim h) (λ_ h=>False.elim h)) (λ_ h=>h.elim) h (λ_ _ _=>rfl);exact T.plain
theorem Ug {e1:Sem α}{f:α->Sem β}(L:e1.Au P (λ_=>True))(N:∀a v1 es M,e1.runT P v es=(.ok a v1,M)->Iy P K (f a) v1):Iy P K (e1.bind f) v:=by
 refine⟨fun {C es y b} i h=>?_,fun {C es y J} i h=>?_,fun {I Z w C es y b} T A h z=>?_⟩
 .skip
  rw[Sem.runT_bind']at h;cases c:e1.runT P v es with
  |mk r M=>
   cases r with
   |halt B w1=>rw[c]at h;simp at h
   |ok a v1=>
    rw[c]at h
    have d:=IZ L i c
    have e:=(N _ _ _ _ c).GI (RY L i c) h
    exact⟨lN d.1 e.1,e.2.1.trans d.2.1,lN d.2.2 e.2.2⟩
 .skip
  rw[Sem.runT_bind']at h;cases c:e1.runT P v es with
  |mk r M=>
   cases r with
   |halt B w1=>
    rw[c]at h
    simp only[lQ,Result.halt.injEq]at h
    rw[<-h.1.1,<-h.1.2]
    exact eU L i c
   |ok a v1=>
    rw[c]at h
    exact(N _ _ _ _ c).LD (RY L i c) h
 .skip
  rw[Sem.runT_bind']at h;cases c:e1.runT P v es with
  |mk r M=>
   cases r with
   |halt B w1=>rw[c]at h;simp at h
   |ok a v1=>
    rw[c]at h
    have g:=N _ _ _ _ c
    have d:=IZ L T.plain c
    have e:=g.GI (RY L T.plain c) h
    obtain⟨w1,m1,_,k1,D,t,l,G,m,p⟩:=U8 L T A c (λj F=>z j wB)
    obtain⟨w2,m2,E,k2,T2,u,o,H,n,s⟩:=g.twin D (λr c=>Nat.lt_of_lt_of_le (A r c) d.2.2) h (λj F q=>by
     have:=z (v1.drawn-v.drawn+j) wB q
     have e1:w.drawn+(v1.drawn-v.drawn+j)=w1.drawn+j:=wB
     have e2:v.drawn+(v1.drawn-v.drawn+j)=v1.drawn+j:=wB
     rw[e1,e2]at this
     rw[l,d.2.1]
     exact this)
    refine⟨w2,m1++m2,E,?_,T2,λr c=>(u r c).trans (t r c),o.trans l,wB,by rw[n,m,Array.append_assoc],λx k=>?_⟩
    .rw[Sem.runT_bind',k1];exact k2
    .obtain k|k:=Array.mem_append.1 k
     .exact(p x k).mono e.2.2
     .exact s x k
theorem au6 {b:β}(a:Iy P K e v)(c:∀(r:Nat)(o:Obj),v.heap[r]?=some o->o.plain=true)(h:e.runT P v es=(.ok b v',CP)):v.drawn<=v'.drawn/\v'.tape=v.tape/\v.heap.size<=v'.heap.size:=a.GI c h
theorem jD {a:Halt}(b:Iy P K e v)(c:∀(r:Nat)(o:Obj),v.heap[r]?=some o->o.plain=true)(h:e.runT P v es=(.halt a v',CP)):a.LD=true:=(b.LD c h).1
theorem UN {Od:Old}{Z:Nat->Prop}{w:o_}{b:β}(f:Iy P K e v)(T:Yr Od Z v w)(d:∀r,Z r->r<v.heap.size)(h:e.runT P v es=(.ok b v',CP))
  (c:∀j,j<v'.drawn-v.drawn->∀q,w.tape (w.drawn+j) q=v.tape (v.drawn+j) q):
  ∃w' a,K b/\e.runT P w es=(.ok b w',CP)/\Yr Od Z v' w'/\(∀r,Z r->w'.heap[r]?=w.heap[r]?)/\w'.tape=w.tape/\w'.drawn=w.drawn+(v'.drawn-v.drawn)/\CP=es++a/\∀x∈a,EvT Z v'.heap.size x:=f.twin T d h c
end
end Go.Fxa
namespace Go.Fxa
open Go.Conc
def su (f:h_):Bool:=f==197
def bq3 (L:h_->Prop)(d:Deferred):Prop:=∃f cap,d.target=.fn (.func f) cap/\L f
def FC (L:h_->Prop)(b:Bool):Next->Prop
 |.value _=>True
 |.skip=>True
 |.enter f _=>L f
 |.defer d=>b=true/\bq3 L d
 |_=>False
def Ext (P:l_)(f:h_):Prop:=
 ∃fn a b,P.funcs[f]?=some fn/\(fn.name== "runtime.NumGoroutine")=false/\fn.body.isNone=true/\Extern.findNext fn=none/\Extern.find fn=some (Extern.SlicesOverlaps.overlaps a b)
def bt8 (P:l_)(L:h_->Prop)(b:Bool)(o:Oper):Prop:=
 ∀(fr:Frame)(v:o_),(∀(r:Nat)(ob:Obj),v.heap[r]?=some ob->ob.plain=true)->(∀f,o.about P v fr.eval=some f->L f\/Ext P f)->Iy P (FC L b) (execOp fr.eval o) v
end Go.Fxa
namespace Go
open Go.Fxa Go.Conc
def Code.AP (p:Oper->Bool):Code->Bool
 |.skip=>true
 |.region _ ops _=>ops.all p
 |.seq a b=>a.AP p && b.AP p
 |.cond _ a b=>a.AP p && b.AP p
 |.block _ a=>a.AP p
 |.loop a=>a.AP p
 |.exit _=>true
 |.label _=>true
 |.ret=>true
 |.rangeFunc ..=>false
 |.scope _=>false
 |.goto _=>false
 |.refuse _=>true
end Go
namespace Go
open Go.Fxa Go.Conc
def Item.EY (p:Oper->Bool):Item->Bool
 |.code c=>c.AP p
 |.inBlock _=>true
 |.inLoop c=>c.AP p
 |.inRegion ops _=>ops.all p
 |_=>false
end Go
namespace Go.Fxa
open Go.Conc
variable {fr:Frame}{s:String}{v:n_}{a:f_}{m:Mode}{t:j_}{cs:X_}
structure QE (P:l_)(L:h_->Prop)(p:h_->Oper->Bool):Prop where
 op:∀f o,p f o=true->bt8 P L (su f) o
 body:∀f,L f->∃fn c,P.funcs[f]?=some fn/\(fn.name== "runtime.NumGoroutine")=false/\fn.body=some c/\c.AP (p f)=true
 init:∀f,L f->P.inits.idxOf? f=none
structure FQ (P:l_)(L:h_->Prop)(p:h_->Oper->Bool)(fr:Frame):Prop where
 fn:∃fn,P.funcs[fr.fn]?=some fn/\P.inits.idxOf? fr.fn=none
 defers:su fr.fn=false->fr.defers=[]
 ah0:∀d∈fr.defers,bq3 L d
 kind:fr.kind=.normal\/fr.kind=.deferred
 round:fr.roundOf=none
 todo:∀it∈fr.todo,it.EY (p fr.fn)=true
def NK (fr:Frame):Prop:=∃h t,fr.mode=.panicking (h::t)/\h.goexit=false/\h.recovered=false
def Below (P:l_)(L:h_->Prop)(p:h_->Oper->Bool):Frame->Z_->Prop
 |fr,[]=>su fr.fn=false/\fr.kind=.normal
 |fr,c::pre=>FQ P L p c/\((fr.kind=.normal/\c.mode=.run)\/(fr.kind=.deferred/\(c.mode=.returning\/NK c)))/\Below P L p c pre
section
variable {P:l_}{L:h_->Prop}{p:h_->Oper->Bool}{Z:Nat->Prop}
theorem Below.GR {Ew:Frame}{pre:Z_}(h:Below P L p fr pre)(d:Ew.fn=fr.fn)(b:Ew.kind=fr.kind):Below P L p Ew pre:=by
 cases pre with
 |nil=>exact⟨by rw[d];exact h.1,by rw[b];exact h.2⟩
 |cons c pre=>exact⟨h.1,by rw[b];exact h.2.1,h.2.2⟩
theorem Uu {id:Nat}:∀{k k':List Item},exitTo id k=some k'->∀it∈k',it∈k
 |[],k',h=>by simp[exitTo]at h
 |it::k,k',h=>by
  intro x a
  cases it with
  |inBlock b=>
   simp only[exitTo]at h
   split at h
   .obtain rfl:=x_ h;exact List.mem_cons_of_mem _ a
   .exact List.mem_cons_of_mem _ (Uu h x a)
  |_=>simp only[exitTo]at h;exact List.mem_cons_of_mem _ (Uu h x a)
theorem Sr (fr:Frame)(v:n_):(fr.finish v).fn=fr.fn:=by unfold Frame.finish;split<;>rfl
theorem OJ (fr:Frame)(v:n_):(fr.finish v).kind=fr.kind:=by unfold Frame.finish;split<;>rfl
theorem Hz (h:FQ P L p fr)(v:n_):FQ P L p (fr.finish v):=by
 obtain⟨f,g,a,i,j,b⟩:=h;unfold Frame.finish;split<;>first
  |exact⟨f,g,a,i,j,b⟩
  | (rename_i e
     refine⟨f,g,a,i,j,λk c=>?_⟩
     rw[e]at b
     have d:=b _ (List.mem_cons_self ..)
     first
      |(simp[Item.EY]at d;done)
      | (obtain rfl|c:=r_.1 c
         .first|exact d|(simp[Item.EY]at d;done)
         .exact b k (List.mem_cons_of_mem _ c)))
theorem Gz (fr:Frame)(v:n_):(fr.finish v).mode=fr.mode:=by
 unfold Frame.finish;split<;>rfl
theorem O5 (F:QE P L p){f:h_}(j:L f)(args:X_){kd:CallKind}(k:kd=.normal\/kd=.deferred):FQ P L p (Frame.enter P f args kd):=by
 obtain⟨fn,c,b,_,e,g⟩:=F.body f j;refine⟨⟨fn,b,F.init f j⟩,λ_=>rfl,λd h=>(by cases h),k,rfl,λi a=>?_⟩;simp only[Frame.enter,b,Option.bind_some,e,Option.getD_some,List.mem_singleton]at a;subst a;exact g
end
section
variable {P:l_}{α β:Type}
theorem ϟ {e:Sem α}{K K':α->Prop}(h:e.Au P K)(g:∀a,K a->K' a):e.Au P K':=by
 induction e with
 |pure a=>exact g a h
 |load m a k b=>exact λx=>b x (h x)
 |store m a v k b=>exact b h
 |new o k b=>exact⟨h.1,λx=>b x (h.2 x)⟩
 |shape r k b=>exact⟨λx=>b x (h.1 x),h.2⟩
 |freeze a n k b=>exact h
 |frozen a k b=>exact h
 |getObj r k b=>exact⟨λx d=>b x (h.1 x d),h.2⟩
 |setObj r o k b=>exact h
 |choose q k b=>exact λx=>b x (h x)
 |sys c k b=>exact h
 |program k b=>exact b P h
 |mark m k b=>exact h.elim (λh=>.inl ⟨h.1,b h.2⟩) .inr
 |halt f=>exact h
theorem Bf {e:Sem α}{K:α->Prop}(h:e.Au P K):e.Au P λ_=>True:=ϟ h λ_ _=>trivial
theorem Ej {e:Sem α}{f:α->Sem β}{K:α->Prop}{K':β->Prop}(h:e.Au P K)(b:∀a,K a->(f a).Au P K'):(e>>= f).Au P K':=Sem.Au.bind h b
theorem Ac {e:Sem α}{f:α->Sem β}{K':β->Prop}(h:e.Au P λ_=>True)(b:∀a,(f a).Au P K'):(e>>= f).Au P K':=Sem.Au.bind h λa _=>b a
theorem ac1 {e:Sem α}{f:α->Sem β}{K':β->Prop}(h:e.E5 P):(e>>= f).Au P K':=(Sem.E5.bind h).lK
theorem ny {e:Sem α}{f:α->β}{K:α->Prop}{K':β->Prop}(h:e.Au P K)(c:∀a,K a->K' (f a)):(Functor.map f e).Au P K':=by
 rw[map_eq_pure_bind];exact Ej h λa b=>c a b
theorem Ae {a:α}{K:α->Prop}(h:K a):(Pure.pure a:Sem α).Au P K:=h
theorem Ak {K:α->Prop}:(stuck s:Sem α).Au P K:=rfl
theorem xZ:(stuck s:Sem α).E5 P:=rfl
theorem Ql {K:α->Prop}:(goPanic v:Sem α).Au P K:=rfl
theorem Qs:(goPanic v:Sem α).E5 P:=rfl
theorem AO {c:Prop} [Decidable c] {x y:Sem α} {K:α->Prop} (b:c->x.Au P K) (d:¬c->y.Au P K):(if c then x else y).Au P K:=by
 split
 .exact b ‹_›
 .exact d ‹_›
theorem eQ:(load a m).Au P λ_=>True:=λ_=>trivial
theorem vU:(store a v m).Au P λ_=>True:=trivial
theorem OA {o:Obj}(h:o.plain=true):(newObj o).Au P λ_=>True:=⟨h,λ_=>trivial⟩
theorem Dz:(program).Au P λp=>p=P:=rfl
theorem FT {q:Question}:(choose q).Au P λ_=>True:=λ_=>trivial
theorem IK:(typeInfo t).Au P λi=>P.info? t=some i:=by
 refine Ej Dz λp a=>?_
 subst a;cases h:p.info? t with
 |none=>exact Ak
 |some i=>exact rfl
theorem AB:(underlying t).Au P λd=>P.underlying t=some d:=by
 refine Ej Dz λp a=>?_
 subst a;cases h:p.underlying t with
 |none=>exact Ak
 |some i=>exact rfl
theorem Fg:(zeroValue t).Au P λ_=>True:=by
 refine Ej IK λi _=>?_
 split
 .trivial
 .rfl
theorem Oz:(sizeOf t).Au P λn=>∃i,P.info? t=some i/\i.size=n:=Ej IK λi hi=>⟨i,hi,rfl⟩
theorem Zt:(isAgg t).Au P λ_=>True:=by
 refine Ej AB λd _=>?_
 split<;>trivial
theorem N7 {a:f_}:∀{n i:Nat} {b:X_},(loadCellsFrom a i n b).Au P λ_=>True
 |0,_,_=>trivial
 |_+1,_,_=>Ac eQ λ_=>N7
theorem Rn {n:Nat}:(loadCells a n).Au P λ_=>True:=N7
theorem FK {a:f_}:∀{b:U_} {i:Nat},(storeCells a b i).Au P λ_=>True
 |[],_=>trivial
 |_::_,_=>Ac vU λ_=>FK
theorem Ik:(loadVar t a).Au P λ_=>True:=
 Ac Zt λ_=>AO (λ_=>Ac (Bf Oz) λ_=>Ac Rn λ_=>trivial) λ_=>eQ
theorem TA:(storeVar t a v).Au P λ_=>True:=
 Ac (Bf Oz) λ_=>AO (λ_=>Ac Ak λ_=>FK) λ_=>FK
theorem KY:(newRow t cs).Au P λ_=>True:=Ac (OA rfl) λ_=>trivial
theorem Q3:(newVar t v).Au P λ_=>True:=KY
theorem pF:(elemOf t).Au P λ_=>True:=by
 refine Ac (Bf AB) λd=>?_
 cases d<;>first|trivial|rfl
theorem Bg {e:RuntimeError}{K:α->Prop}:(runtimePanic e:Sem α).Au P K:=by
 refine Ac (Bf Dz) λp=>?_
 cases e<;>first
  |exact Ql
  |exact Ac pF λ_=>Ac Q3 λ_=>Ql
theorem Gv {k:IntKind}{x y:Int}{c:BoundsCode}{K:α->Prop}:(boundsPanic k x y c:Sem α).Au P K:=by
 unfold boundsPanic;split
 .exact Ac (ny FT λ_ _=>trivial) λ_=>Bg
 .exact Ac (Ae trivial) λ_=>Bg
theorem MO:(asIntOf v).Au P λx=>v=.int x.1 x.2:=by
 cases v<;>first|rfl|(rename_i a;cases a<;>rfl)
theorem NQ:(asInt v).Au P λ_=>True:=Ej MO λ_ _=>trivial
theorem OE:(asBool v).Au P λ_=>True:=by cases v<;>first|trivial|rfl
theorem wG:(asAgg v).Au P λ_=>True:=by cases v<;>first|trivial|rfl
theorem Lj:(asAddr v).Au P λ_=>True:=by
 cases v<;>first|rfl|(rename_i a;cases a<;>first|trivial|exact Bg)
theorem IL:(Instr.sureAddr v).Au P λ_=>True:=by
 cases v<;>first|rfl|(rename_i a;cases a<;>first|trivial|rfl)
theorem Ja {o:Nat}:(part t cs o).Au P λ_=>True:=by
 refine Ac Zt λb=>AO (λ_=>Ac (Bf Oz) λ_=>trivial) λ_=>?_
 cases cs[o]?<;>first|trivial|rfl
theorem eH {f:α->Sem β}(b:∀a,(f a).Au P λ_=>True):∀l:List α,(l.mapM f).Au P λ_=>True
 |[]=>by rw[List.mapM_nil];exact dE
 |a::l=>by rw[List.mapM_cons];exact Ac (b a) λ_=>Ac (eH b l) λ_=>trivial
theorem Zq {f:α->Sem β}(b:∀a,(f a).Au P λ_=>True)(l:Array α):(l.mapM f).Au P λ_=>True:=by
 rw[Array.mapM_eq_mapM_toList];exact ny (eH b _) λ_ _=>trivial
theorem Vr {fn:Func}{tmps:X_}:(results fn tmps).Au P λ_=>True:=by
 refine Ac (Zq (λr=>?_) _) λb=>trivial
 cases r with
 |tmp t=>trivial
 |cell a t=>exact Ac Lj λ_=>Ik
end
end Go.Fxa
