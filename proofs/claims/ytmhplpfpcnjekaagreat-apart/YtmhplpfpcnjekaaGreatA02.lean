/- Operations that only look at s -/
import Derived.Test.YtmhplpfpcnjekaaGreatA01
namespace Go
open Go.Fxa
def Sem.On (P:Program) (R:Nat->Prop) {α:Type}:Sem α->Prop
 | .pure _=>True
 | .shape r k=>R r/\∀s,(k s).On P R
 | .frozen a k=>(R a.block\/∀x y,k x=k y)/\∀b,(k b).On P R
 | .getObj r k=>R r/\∀o,(k o).On P R
 | .choose _ k=>∀n,(k n).On P R
 | .program k=>(k P).On P R
 | .mark m k=>(∃f,m=.extern f)/\k.On P R
 | .halt h=>h.IM=true
 | _=>False
end Go
namespace Go.Fxa
open Go.Conc
section
variable {P:Program} {R:Nat->Prop}
theorem DD {α β:Type} {e:Sem α} {f:α->Sem β} (h:e.On P R) (hf:∀a,(f a).On P R):(e.bind f).On P R:=by
 induction e with
 | pure a=>exact hf a
 | shape r k ih=>exact⟨h.1,fun s=>ih s (h.2 s)⟩
 | frozen a k ih=>exact⟨h.1.imp id fun h x y=>congrArg (·.bind f) (h x y),fun s=>ih s (h.2 s)⟩
 | getObj r k ih=>exact⟨h.1,fun s=>ih s (h.2 s)⟩
 | choose q k ih=>exact fun n=>ih n (h n)
 | program k ih=>exact ih P h
 | mark m k ih=>exact⟨h.1,ih h.2⟩
 | halt h'=>exact h
 | load m a k ih=>exact h.elim
 | store m a v k ih=>exact h.elim
 | new o k ih=>exact h.elim
 | freeze a n k ih=>exact h.elim
 | setObj r o k ih=>exact h.elim
 | sys c k ih=>exact h.elim
theorem Vt {α:Type} {e:Sem α} (he:e.On P R):∀{v:World} {es BQ:Array Event} {r:Result α},e.runT P v es=(r,BQ)->
  (∃d more,(∀x∈more,(∃q o,x.loc=.obj q/\R q/\v.heap[q]?=some o)\/∃f,x.loc=.mark (.extern f))/\BQ=es++more/\((∃a,r=.ok a { v with drawn:=v.drawn+d }/\∀w:World,(∀q,R q->w.heap[q]?=v.heap[q]?)->
   (∀j,j<d->∀q,w.tape (w.drawn+j) q=v.tape (v.drawn+j) q)->e.runT P w es=(.ok a { w with drawn:=w.drawn+d },BQ))\/∃h,r=.halt h { v with drawn:=v.drawn+d }/\h.IM=true)):=by
 induction e with
 | pure a=>
  intro v es BQ r h
  simp only[Sem.runT,Prod.mk.injEq]at h
  obtain⟨rfl,rfl⟩:=h
  exact⟨0,#[],by simp,by simp,.inl ⟨a,rfl,fun w _ _=>rfl⟩⟩
 | shape q k ih=>
  intro v es BQ r h
  obtain⟨d,more,h1,h2,h3⟩:=ih _ (he.2 _) (show(k (v.shape? q)).runT P v es=(r,BQ)from h)
  refine⟨d,more,h1,h2,h3.imp (fun⟨a,e1,e2⟩=>⟨a,e1,fun w hw ht=>?_⟩) id⟩
  have:w.shape? q=v.shape? q:=by unfold World.shape?;rw[hw q he.1]
  show(k (w.shape? q)).runT P w es=_
  rw[this];exact e2 w hw ht
 | frozen a k ih=>
  intro v es BQ r h
  obtain⟨d,more,h1,h2,h3⟩:=ih _ (he.2 _) (show(k (v.frozen? a)).runT P v es=(r,BQ)from h)
  refine⟨d,more,h1,h2,h3.imp (fun⟨x,e1,e2⟩=>⟨x,e1,fun w hw ht=>?_⟩) id⟩
  have:k (w.frozen? a)=k (v.frozen? a):=he.1.elim (fun h=>by rw[show w.frozen? a=v.frozen? a from by unfold World.frozen?;rw[hw a.block h]]) fun h=>h _ _
  show(k (w.frozen? a)).runT P w es=_
  rw[this];exact e2 w hw ht
 | getObj q k ih=>
  intro v es BQ r h
  simp only[Sem.runT]at h
  split at h
  ·simp only[Prod.mk.injEq]at h;obtain⟨rfl,rfl⟩:=h;exact⟨0,#[],by simp,by simp,.inr ⟨_,rfl,rfl⟩⟩
  ·rename_i o hno ho;obtain⟨d,more,h1,h2,h3⟩:=ih _ (he.2 _) h;refine⟨d,#[⟨.obj q,false,o.isChan⟩]++more,fun x hx=>?_,by rw[h2];simp,h3.imp (fun⟨x,e1,e2⟩=>⟨x,e1,fun w hw ht=>?_⟩) id⟩
   ·rcases Array.mem_append.1 hx with hx|hx
    ·simp at hx;subst hx;exact .inl ⟨q,o,rfl,he.1,ho⟩
    ·exact h1 x hx
   ·have hwq:w.heap[q]?=some o:=(by rw[hw q he.1];exact ho);simp only[Sem.runT,hwq];cases o<;>first|exact e2 w hw ht|exact(hno _ _ _ rfl).elim
  ·simp only[Prod.mk.injEq]at h;obtain⟨rfl,rfl⟩:=h;exact⟨0,#[],by simp,by simp,.inr ⟨_,rfl,rfl⟩⟩
 | choose q k ih=>
  intro v es BQ r h
  simp only[Sem.runT]at h
  split at h
  ·rename_i hq;obtain⟨d,more,h1,h2,h3⟩:=ih _ (he _) h;refine⟨d,more,h1,h2,h3.imp (fun⟨x,e1,e2⟩=>⟨x,e1,fun w hw ht=>?_⟩) id⟩;simp only[Sem.runT,hq,if_true];exact e2 w hw ht
  ·rename_i hq;obtain⟨d,more,h1,h2,h3⟩:=ih _ (he _) h;refine⟨d+1,more,h1,h2,?_⟩;have e0:∀u:World,({ u with drawn:=u.drawn+1+d }:World)={ u with drawn:=u.drawn+(d+1) }:=fun u=>by rw[show u.drawn+1+d=u.drawn+(d+1)from by omega]
   rcases h3 with⟨x,e1,e2⟩|⟨x,e1,e2⟩
   ·refine .inl ⟨x,by rw[e1];exact congrArg _ (e0 v),fun w hw ht=>?_⟩;have h0:w.tape w.drawn q=v.tape v.drawn q:=(by have:=ht 0 (by omega) q;simpa using this);simp only[Sem.runT,hq,h0];have:=e2 { w with drawn:=w.drawn+1 } hw (fun j hj q'=>by
     have:=ht (j+1) (by omega) q'
     simp only
     rw[show w.drawn+1+j=w.drawn+(j+1)from by omega,show v.drawn+1+j=v.drawn+(j+1)from by omega]
     exact this);rw[e0 w]at this;simpa using this
   ·exact .inr ⟨x,by rw[e1];exact congrArg _ (e0 v),e2⟩
 | program k ih=>intro v es BQ r h;exact ih P he h
 | mark m k ih=>
  intro v es BQ r h
  obtain⟨⟨f,rfl⟩,he⟩:=he
  obtain⟨d,more,h1,h2,h3⟩:=ih he h
  refine⟨d,#[⟨.mark (.extern f),false,true⟩]++more,fun x hx=>?_,by rw[h2];simp,h3⟩
  rcases Array.mem_append.1 hx with hx|hx
  ·simp at hx;subst hx;exact .inr ⟨f,rfl⟩
  ·exact h1 x hx
 | halt h'=>
  intro v es BQ r h
  simp only[Sem.runT,Prod.mk.injEq]at h
  obtain⟨rfl,rfl⟩:=h
  exact⟨0,#[],by simp,by simp,.inr ⟨_,rfl,he⟩⟩
 | load m a k ih=>exact he.elim
 | store m a v k ih=>exact he.elim
 | new o k ih=>exact he.elim
 | freeze a n k ih=>exact he.elim
 | setObj r o k ih=>exact he.elim
 | sys c k ih=>exact he.elim
theorem uU {β:Type} {K:β->Prop} {e:Sem β} (he:e.On P R) (hK:∀b v v' es BQ,e.runT P v es=(.ok b v',BQ)->K b) (hd:∀r,R r->DK P r e) (v:World):FY P K e v:=by
 refine⟨fun {v' es BQ b} _ h=>?_,fun {v' es BQ h'} hp h=>?_,fun {Od Z w v' es BQ b} T hZ h I6=>?_⟩
 ·obtain⟨d,more,_,_,⟨a,e1,_⟩|⟨hh,e1,_⟩⟩:=Vt he h
  ·injection e1 with e1 e2;subst e1 e2;exact⟨by simp,rfl,Nat.le_refl _⟩
  ·cases e1
 ·obtain⟨d,more,_,_,⟨a,e1,_⟩|⟨hh,e1,h2⟩⟩:=Vt he h
  ·cases e1
  ·injection e1 with e1 e2;subst e1 e2;exact⟨h2,hp⟩
 ·obtain⟨d,more,hm,Ex,⟨a,e1,hw⟩|⟨hh,e1,_⟩⟩:=Vt he h
  ·injection e1 with e1 e2;subst e1 e2;have hz:∀r,R r->¬Z r:=fun r hr hz=>hd r hr v es b _ BQ T.plain (T.dead r hz (hZ r hz)) h
   have ho:∀r,R r->¬Od.dead r:=fun r hr hz=>hd r hr v es b _ BQ T.plain (T.Io r hz) h
   have hwr:=hw w (fun q hq=>(T.same q (hz q hq) (ho q hq)).symm) (fun j hj q=>I6 j (by simpa using hj) q);refine⟨{ w with drawn:=w.drawn+d },more,hK _ _ _ _ _ h,hwr,⟨T.size,T.same,T.dead,T.plain,T.os,T.output,T.Io,T.kept,T.TG⟩,fun _ _=>rfl,rfl,by simp,Ex,fun x hx=>?_⟩;rcases hm x hx with⟨q,o,e1,e2,e3⟩|⟨f,e1⟩
   ·exact .inr (.inl ⟨q,e1,hz q e2,(Array.getElem?_eq_some_iff.1 e3).1⟩)
   ·exact .inr (.inr (.inr ⟨f,e1⟩))
  ·cases e1
/-! ### slices.overlaps -/
def ovR (P:Program) (ps:Array TypeId) (args:X_) (r:Nat):Prop:=∃a la ca b lb cb t el i,args=#[.slice (some a) la ca,.slice (some b) lb cb]/\a.block≠b.block/\la≠0/\lb≠0/\ps[0]?=some t/\P.underlying t=some (.slice el)/\P.info? el=some i/\i.size≠0/\(r=a.block\/r=b.block)
theorem ZU {α:Type} {c:Prop} [Decidable c] {a b:Sem α} (h1:c->a.On P R) (h2:¬c->b.On P R):(if c then a else b).On P R:=by
 by_cases h:c
 ·rw[if_pos h];exact h1 h
 ·rw[if_neg h];exact h2 h
theorem PU {a:Addr} (h:R a.block):(stringish a).On P R:=by
 unfold stringish;refine DD (e:=frozen a) ⟨.inl h,fun _=>trivial⟩ fun b=>?_
 cases b
 ·simp only[Bool.false_eq_true,if_false];refine DD (e:=shape a.block) ⟨h,fun _=>trivial⟩ fun s=>?_
  cases s with
  | none=>trivial
  | some x=>obtain⟨t,n⟩:=x;exact⟨.inl h,fun _=>trivial⟩
 ·simp only[if_true];trivial
theorem Qs {a:Addr} (h:R a.block):(noView a).On P R:=by
 unfold noView viewAt;refine DD (DD (e:=shape a.block) ⟨h,fun _=>trivial⟩ fun s=>?_) fun o=>?_
 ·split
  ·trivial
  ·refine DD (e:=getObj a.block) ⟨h,fun _=>trivial⟩ fun o=>?_
   cases o<;>trivial
 ·split
  ·exact rfl
  ·trivial
theorem YM {a b:Addr} (h:R a.block) (h':R b.block):(mayBeOne a b).On P R:=by
 unfold mayBeOne;refine DD (PU h) fun x=>DD (PU h') fun y=>?_
 exact DD (DD (e:=shape a.block) ⟨h,fun _=>trivial⟩ fun _=>trivial) fun _=>DD (DD (e:=shape b.block) ⟨h',fun _=>trivial⟩ fun _=>trivial) fun _=>trivial
theorem Uj {β:Type} {t:TypeId} {f:TypeDesc->Sem β} (h:∀d,P.underlying t=some d->(f d).On P R):((underlying t).bind f).On P R:=by
 show((match P.underlying t with|some d=>pure d|none=>stuck "no such type":Sem TypeDesc).bind f).On P R;cases hu:P.underlying t with
 | none=>exact rfl
 | some d=>exact h d hu
theorem kg {β:Type} {t:TypeId} {f:Nat->Sem β} (h:∀i,P.info? t=some i->(f i.size).On P R):((sizeOf t).bind f).On P R:=by
 show(((match P.info? t with|some d=>pure d|none=>stuck "no such type":Sem TypeInfo).bind fun i=>pure i.size).bind f).On P R;cases hu:P.info? t with
 | none=>exact rfl
 | some d=>exact h d hu
theorem Tz {β:Type} {t:TypeId} {f:TypeDesc->Sem β} {r:Nat} (h:∀d,P.underlying t=some d->DK P r (f d)):DK P r ((underlying t).bind f):=fun w es b w' BQ hp hr he=>by
 have he:((match P.underlying t with|some d=>pure d|none=>stuck "no such type":Sem TypeDesc).bind f).runT P w es=_:=he;cases hu:P.underlying t with
 | none=>rw[hu]at he;cases he
 | some d=>rw[hu]at he;exact h d hu w es b w' BQ hp hr he
theorem cK {β:Type} {t:TypeId} {f:Nat->Sem β} {r:Nat} (h:∀i,P.info? t=some i->DK P r (f i.size)):DK P r ((sizeOf t).bind f):=fun w es b w' BQ hp hr he=>by
 have he:(((match P.info? t with|some d=>pure d|none=>stuck "no such type":Sem TypeInfo).bind fun i=>pure i.size).bind f).runT P w es=_:=he;cases hu:P.info? t with
 | none=>rw[hu]at he;cases he
 | some d=>rw[hu]at he;exact h d hu w es b w' BQ hp hr he
open Extern.SlicesOverlaps in
theorem Wn {ps rs:Array TypeId}:∀(l:List Value),(∀a la ca b lb cb,l≠[.slice a la ca,.slice b lb cb])->overlaps ps rs ⟨l⟩=stuck "slices.overlaps: two slices expected"
 | [],_=>rfl
 | [x],_=>rfl
 | [x,y],h=>by
  cases x<;>first|rfl|skip
  cases y<;>first|rfl|skip
  exact(h _ _ _ _ _ _ rfl).elim
 | x::y::z::l,_=>rfl
open Extern.SlicesOverlaps in
theorem LU {ps rs:Array TypeId} {a b:Option Addr} {la ca lb cb:Nat}:overlaps ps rs #[.slice a la ca,.slice b lb cb]=(do
  let some t:=ps[0]? | stuck "slices.overlaps: no parameter types"
  let .slice elem<-underlying t|stuck "slices.overlaps: slice type expected"
  let size<-sizeOf elem
  match a,b with
  | some a,some b=>
   if la=0\/lb=0\/size=0 then pure (.bool false)
   else if a.block !=b.block && (<-frozen a) && (<-frozen b)then unsupported .addressObserved
   else do
    if a.block !=b.block then do
     noView a;noView b
     if<-mayBeOne a b then return .bool ((<-choose (.extern "sameAddr.stringBytes" 2))==1)
    pure (.bool (a.block==b.block && a.off<b.off+lb*size && b.off<a.off+la*size))
  | _,_=>pure (.bool false)):=rfl
open Extern.SlicesOverlaps in
theorem YL {ps rs:Array TypeId} {args:X_}:(overlaps ps rs args).On P (ovR P ps args):=by
 obtain⟨l⟩:=args;by_cases hl:∃a la ca b lb cb,l=[.slice a la ca,.slice b lb cb]
 ·obtain⟨a,la,ca,b,lb,cb,rfl⟩:=hl;rw[LU];cases hp:ps[0]? with
  | none=>exact rfl
  | some t=>
   simp only
   refine Uj fun d hd=>?_
   cases d<;>first|exact rfl|skip
   rename_i el
   refine kg fun i hi=>?_
   cases a with
   | none=>trivial
   | some a=>
    cases b with
    | none=>trivial
    | some b=>
     simp only
     refine ZU (fun _=>trivial) fun hz=>?_
     simp only[not_or]at hz
     by_cases hab:a.block=b.block
     ·simp only[hab,bne_self_eq_false,Bool.false_and,Bool.false_eq_true,if_false];exact⟨.inr fun _ _=>rfl,fun _=>⟨.inr fun _ _=>rfl,fun _=>trivial⟩⟩
     ·have hR:ovR P ps #[.slice (some a) la ca,.slice (some b) lb cb] a.block:=⟨a,la,ca,b,lb,cb,t,el,i,rfl,hab,hz.1,hz.2.1,hp,hd,hi,hz.2.2,.inl rfl⟩;have Fb:ovR P ps #[.slice (some a) la ca,.slice (some b) lb cb] b.block:=⟨a,la,ca,b,lb,cb,t,el,i,rfl,hab,hz.1,hz.2.1,hp,hd,hi,hz.2.2,.inr rfl⟩;have BN:(a.block !=b.block)=true:=(by simpa using hab);simp only[BN,if_true,Bool.true_and];refine DD (e:=frozen a) ⟨.inl hR,fun _=>trivial⟩ fun x=>DD (e:=frozen b) ⟨.inl Fb,fun _=>trivial⟩ fun y=>ZU (fun _=>rfl) fun _=>DD (Qs hR) fun _=>DD (Qs Fb) fun _=>DD (YM hR Fb) fun z=>ZU (fun _=>?_) fun _=>trivial
      exact DD (e:=choose _) (fun _=>trivial) fun _=>trivial
 ·rw[Wn l fun a la ca b lb cb e=>hl ⟨a,la,ca,b,lb,cb,e⟩];exact rfl
theorem YN {a:Addr} {w:World} {es:Array Event} (h:w.heap[a.block]?=some CB):∃BQ,(noView a).runT P w es=(.halt (.unsupported (.unsafePointer "memory seen as another type")) w,BQ):=by
 have hs:w.shape? a.block=none:=by unfold World.shape?;rw[h];rfl
 refine⟨es.push ⟨.obj a.block,false,false⟩,?_⟩;unfold noView viewAt;simp only[bind,Sem.bind,shape,getObj,pure,Sem.runT,hs,Option.isSome_none,Bool.false_eq_true,if_false,h,CB]
 rfl
theorem R9 {α β:Type} {e:Sem α} {f:α->Sem β} {r:Nat} (h:DK P r e):DK P r (e.bind f):=h.bind
theorem NA {α β:Type} {e:Sem α} {f:α->Sem β} {r:Nat} (he:e.On P R) (h:∀a,DK P r (f a)):DK P r (e.bind f):=fun w es b w' BQ hp hr Bg=>by
 obtain⟨a,w1,JX,h1⟩:=Jj Bg;rw[Sem.runT_bind',h1]at Bg;obtain⟨d,more,_,_,⟨a',e1,_⟩|⟨hh,e1,_⟩⟩:=Vt he h1
 ·injection e1 with e1 e2;subst e2;exact h a _ _ _ _ _ (by exact hp) (by exact hr) Bg
 ·cases e1
theorem qD {α:Type} {h:Halt} {r:Nat}:DK P r (.halt h:Sem α):=fun w es b w' BQ _ _ he=>by simp[Sem.runT]at he
theorem Td {a:Addr}:DK P a.block (noView a):=fun w es b w' BQ _ hr he=>by
 obtain⟨JX,h1⟩:=YN (P:=P) (es:=es) hr;rw[h1]at he;cases he
theorem uV {α:Type} {c:Prop} [Decidable c] {a b:Sem α} {r:Nat} (h1:c->DK P r a) (h2:¬c->DK P r b):DK P r (if c then a else b):=by
 by_cases h:c
 ·rw[if_pos h];exact h1 h
 ·rw[if_neg h];exact h2 h
open Extern.SlicesOverlaps in
theorem Wo {ps rs:Array TypeId} {args:X_} {r:Nat} (h:ovR P ps args r):DK P r (overlaps ps rs args):=by
 obtain⟨a,la,ca,b,lb,cb,t,el,i,rfl,hab,hla,hlb,hp,hu,hi,BA,hr⟩:=h;rw[LU,hp];simp only;refine Tz fun d hd=>?_
 rw[hu]at hd;obtain rfl:=(Option.some.inj hd).symm;simp only;refine cK fun i' Gz=>?_
 rw[hi]at Gz;obtain rfl:=(Option.some.inj Gz).symm;have BN:(a.block !=b.block)=true:=by simpa using hab
 simp only[BN,if_true,Bool.true_and,hla,hlb,BA,or_self,if_false];refine NA (R:=fun _=>True) (e:=frozen a) ⟨.inl trivial,fun _=>trivial⟩ fun x=>NA (R:=fun _=>True) (e:=frozen b) ⟨.inl trivial,fun _=>trivial⟩ fun y=>uV (fun _=>qD) fun _=>?_
 rcases hr with rfl|rfl
 ·exact R9 Td
 ·exact NA (R:=fun _=>True) (Qs trivial) fun _=>R9 Td
open Extern.SlicesOverlaps in
theorem qZ {L:FuncId->Prop} {b:Bool} {f:FuncId} (h:Ext P f) (args:X_) (v:World):FY P (Ec L b) (callFunc f args) v:=by
 obtain⟨fn,ps,rs,h1,h2,h3,h4,h5⟩:=h;have e:∀(u:World) (es:Array Event),(callFunc f args).runT P u es=((mark (.extern f)).bind fun _=>(overlaps ps rs args).bind fun x=>pure (.value x):Sem Next).runT P u es:=fun u es=>by
  unfold callFunc
  show(match P.funcs[f]? with
   | none=>stuck "call: no such function"
   | some fn=>_:Sem Next).runT P u es=_
  rw[h1]
  simp only[h2,h3,h4,h5,Bool.false_eq_true,if_false,if_true]
  rfl
 have T:=uU (P:=P) (K:=Ec L b) (R:=ovR P ps args) (e:=(mark (.extern f)).bind fun _=>(overlaps ps rs args).bind fun x=>pure (.value x)) (DD (e:=mark (.extern f)) ⟨⟨f,rfl⟩,trivial⟩ fun _=>DD YL fun _=>trivial) (fun x w w' es BQ hr=>by
  obtain⟨a,w1,JX,q1⟩:=Jj hr
  rw[Sem.runT_bind',q1]at hr
  simp only at hr
  obtain⟨a2,w2,es2,q2⟩:=Jj hr
  rw[Sem.runT_bind',q2]at hr
  have hr:((.ok (.value a2) w2:Result Next),es2)=(.ok x w',BQ):=hr
  simp only[Prod.mk.injEq,Result.ok.injEq]at hr
  rw[<-hr.1.1]
  trivial) (fun r hr=>NA (R:=fun _=>True) (e:=mark (.extern f)) ⟨⟨f,rfl⟩,trivial⟩ fun _=>R9 (Wo hr)) v;exact⟨fun {v' es BQ b} hp h=>T.Ir hp (by rw[<-e];exact h),fun {v' es BQ h'} hp h=>T.IM hp (by rw[<-e];exact h),fun {Od Z w v' es BQ b} T' hZ h I6=>by
  obtain⟨w',more,k1,k2,k3⟩:=T.twin T' hZ (by rw[<-e];exact h) I6
  exact⟨w',more,k1,by rw[e];exact k2,k3⟩⟩
end
end Go.Fxa
namespace Go.Fxa
open Go.Conc
section
variable {P:Program} {L:FuncId->Prop} {p:FuncId->Oper->Bool} {Z:Nat->Prop}
theorem JQ {fn:FuncId} {tmps:X_} {ops:Array Oper} {i:Nat} {rest:List Nat} {k:List Item} {df:List Deferred} {kd:CallKind} {ro:Option Nat} {o:Oper} (ho:ops[i]?=some o) (v:World):
  (Frame.mk fn tmps (.inRegion ops (i::rest)::k) df .run kd ro).about P v=o.about P v (Frame.mk fn tmps (.inRegion ops (i::rest)::k) df .run kd ro).eval:=by
 simp only[Frame.about,ho,Oper.about];cases o.op<;>rfl
def VT (Od:Old) (P:Program) (L:FuncId->Prop) (p:FuncId->Oper->Bool) (Z:Nat->Prop) (fr:Frame) (pre:Z_) (v w v':World) (g':Goroutine) (es:Array Event):Prop:=
 ∃Di BV w',g'=G Di BV/\Ei P L p Di/\(Di.mode=.run\/Di.mode=.returning)/\Below P L p Di BV/\(∀c∈pre,JL c->c∈BV)/\
  v.drawn<=v'.drawn/\v'.tape=v.tape/\v.heap.size<=v'.heap.size/\Twin Od Z v' w'/\(∀r,Z r->w'.heap[r]?=w.heap[r]?)/\w'.tape=w.tape/\w'.drawn=w.drawn+(v'.drawn-v.drawn)/\(∀e∈es,rT Z v'.heap.size e)/\
  ∀main cs,stepG P main (G fr (pre++cs)) w=.go (G Di (BV++cs)) w' es
theorem BR {Od:Old} {fr Di:Frame} {pre:Z_} {v w v':World} {g':Goroutine} {es:Array Event} (T:Twin Od Z v w) (JZ:Below P L p Di pre)
  (h:stepG P true (G fr pre) v=.go g' v' es) (hf:Ei P L p Di) (hm:Di.mode=.run\/Di.mode=.returning)
  (hs:∀main cs u,stepG P main (G fr (pre++cs)) u=.go (G Di (pre++cs)) u #[]):VT Od P L p Z fr pre v w v' g' es:=by
 have e:=hs true [] v;rw[List.append_nil]at e;rw[e]at h;injection h with h1 h2 h3;subst h1 h2 h3;exact⟨Di,pre,w,rfl,hf,hm,JZ,fun _ h _=>h,Nat.le_refl _,rfl,Nat.le_refl _,T,fun _ _=>rfl,rfl,by simp,by simp,fun main cs=>hs main cs w⟩
theorem QW {Od:Old} {fr:Frame} {pre:Z_} {v w v':World} {g':Goroutine} {es:Array Event} {α:Type} {e:Sem α} {K:α->Prop} (he:FY P K e v) (T:Twin Od Z v w) (hZ:∀r,Z r->r<v.heap.size)
  (I6:∀j,j<v'.drawn-v.drawn->∀q,w.tape (w.drawn+j) q=v.tape (v.drawn+j) q)
  (fn:FuncId) (k:α->Frame×Z_) (hk:∀a,K a->(∀ch,(k a).1.mode≠.panicking ch)->Ei P L p (k a).1/\((k a).1.mode=.run\/(k a).1.mode=.returning)/\Below P L p (k a).1 (k a).2/\∀c∈pre,JL c->c∈(k a).2) (hg:∀ch,g'.frame.mode≠.panicking ch)
  (hh:(∃a v1 JX,e.runT P v #[]=(.ok a v1,JX)/\g'=G (k a).1 (k a).2/\v'=v1/\es=seen P fn JX))
  (hs:∀main cs u a u1 JX,e.runT P u #[]=(.ok a u1,JX)->K a->stepG P main (G fr (pre++cs)) u=.go (G (k a).1 ((k a).2++cs)) u1 (seen P fn JX)):VT Od P L p Z fr pre v w v' g' es:=by
 obtain⟨a,v1,JX,h1,h2,h3,h4⟩:=hh;subst h3 h4;obtain⟨w',more,hK,hw,T',hkp,ht,hd,Ex,EY⟩:=OZ he T hZ h1 I6;have hgr:=qV he T.plain h1;obtain⟨hf,hm,hp,Zm⟩:=hk a hK (by rw[h2]at hg;exact hg);refine⟨(k a).1,(k a).2,w',h2,hf,hm,hp,Zm,hgr.1,hgr.2.1,hgr.2.2,T',hkp,ht,hd,fun x hx=>?_,fun main cs=>hs main cs w a w' JX hw hK⟩;have:=mem_seen hx;rw[Ex]at this;exact EY x (by simpa using this)
theorem Lx {Od:Old} (F:Mi P L p) {fr:Frame} {pre:Z_} {v w v':World} {g':Goroutine} {es:Array Event}
  (hfr:Ei P L p fr) (JZ:Below P L p fr pre)
  (hm:fr.mode=.run\/(fr.mode=.returning/\pre≠[]))
  (hab:∀f,fr.about P v=some f->L f\/Ext P f) (T:Twin Od Z v w) (hZ:∀r,Z r->r<v.heap.size)
  (h:stepG P true (G fr pre) v=.go g' v' es) (hg:∀ch,g'.frame.mode≠.panicking ch)
  (I6:∀j,j<v'.drawn-v.drawn->∀q,w.tape (w.drawn+j) q=v.tape (v.drawn+j) q):
  VT Od P L p Z fr pre v w v' g' es:=by
 obtain⟨fn,tmps,todo,defers,mode,kind,roundOf⟩:=fr;obtain⟨h1,h2,h2',h3,h4,h5⟩:=hfr;simp only at h1 h2 h2' h3 h4 h5;subst h4;have hke:(kind==CallKind.early)=false:=by rcases h3 with rfl|rfl<;>rfl
 have IZ:∀{tm:X_} {td:List Item} {df:List Deferred} {m:FrameMode},Below P L p (Frame.mk fn tm td df m kind none) pre:=JZ.like rfl rfl;rcases hm with hm|⟨hm,BN⟩
 ·simp only at hm;subst hm;cases todo with
  | nil=>exact BR T IZ h (Di:=Frame.mk fn tmps [] defers .returning kind none) ⟨h1,h2,h2',h3,rfl,h5⟩ (.inr rfl) (fun main cs u=>by simp[G,stepG,stepG.exec])
  | cons it k=>
   have Gb:=h5 it (List.mem_cons_self ..)
   have hk:∀x∈k,x.DJ (p fn)=true:=fun x hx=>h5 x (List.mem_cons_of_mem _ hx)
   cases it with
   | inBlock id=>exact BR T IZ h (Di:=Frame.mk fn tmps k defers .run kind none) ⟨h1,h2,h2',h3,rfl,hk⟩ (.inl rfl) (fun main cs u=>by simp[G,stepG,stepG.exec])
   | inLoop c=>
    exact BR T IZ h (Di:=Frame.mk fn tmps (.code c::.inLoop c::k) defers .run kind none) ⟨h1,h2,h2',h3,rfl,by
     intro x hx;rcases List.mem_cons.1 hx with rfl|hx
     ·exact Gb
     rcases List.mem_cons.1 hx with rfl|hx
     ·exact Gb
     ·exact hk x hx⟩ (.inl rfl) (fun main cs u=>by simp[G,stepG,stepG.exec])
   | inScope c=>simp[Item.DJ]at Gb
   | inRangeFunc l=>simp[Item.DJ]at Gb
   | endRangeFunc l=>simp[Item.DJ]at Gb
   | beginRound=>simp[Item.DJ]at Gb
   | call d a b c=>simp[Item.DJ]at Gb
   | extern a b=>simp[Item.DJ]at Gb
   | code c=>
    cases c with
    | skip=>exact BR T IZ h (Di:=Frame.mk fn tmps k defers .run kind none) ⟨h1,h2,h2',h3,rfl,hk⟩ (.inl rfl) (fun main cs u=>by simp[G,stepG,stepG.exec])
    | label l=>exact BR T IZ h (Di:=Frame.mk fn tmps k defers .run kind none) ⟨h1,h2,h2',h3,rfl,hk⟩ (.inl rfl) (fun main cs u=>by simp[G,stepG,stepG.exec])
    | ret=>
     refine BR T IZ h (Di:=Frame.mk fn tmps (.code .ret::k) defers .returning kind none) ⟨h1,h2,h2',h3,rfl,h5⟩ (.inr rfl) (fun main cs u=>by simp[G,stepG,stepG.exec])
    | rangeFunc f ps a b=>simp[Item.DJ,Code.A9]at Gb
    | scope c=>simp[Item.DJ,Code.A9]at Gb
    | goto l=>simp[Item.DJ,Code.A9]at Gb
    | refuse s=>simp[G,stepG,stepG.exec]at h
    | seq a b=>
     simp only[Item.DJ,Code.A9,Bool.and_eq_true]at Gb
     exact BR T IZ h (Di:=Frame.mk fn tmps (.code a::.code b::k) defers .run kind none) ⟨h1,h2,h2',h3,rfl,by
      intro x hx;rcases List.mem_cons.1 hx with rfl|hx
      ·exact Gb.1
      rcases List.mem_cons.1 hx with rfl|hx
      ·exact Gb.2
      ·exact hk x hx⟩ (.inl rfl) (fun main cs u=>by simp[G,stepG,stepG.exec])
    | cond c a b=>
     simp only[Item.DJ,Code.A9,Bool.and_eq_true]at Gb
     cases hv:(Frame.mk fn tmps (.code (.cond c a b)::k) defers .run kind none).eval c with
     | bool t=>
      refine BR T IZ h (Di:=Frame.mk fn tmps (.code (if t then a else b)::k) defers .run kind none) ⟨h1,h2,h2',h3,rfl,?_⟩ (.inl rfl) (fun main cs u=>by simp[G,stepG,stepG.exec,hv])
      intro x hx;rcases List.mem_cons.1 hx with rfl|hx
      ·cases t<;>simp[Item.DJ,Gb]
      ·exact hk x hx
     | _=>simp[G,stepG,stepG.exec,hv]at h
    | block id c=>
     exact BR T IZ h (Di:=Frame.mk fn tmps (.code c::.inBlock id::k) defers .run kind none) ⟨h1,h2,h2',h3,rfl,by
      intro x hx;rcases List.mem_cons.1 hx with rfl|hx
      ·exact Gb
      rcases List.mem_cons.1 hx with rfl|hx
      ·rfl
      ·exact hk x hx⟩ (.inl rfl) (fun main cs u=>by simp[G,stepG,stepG.exec])
    | loop c=>
     exact BR T IZ h (Di:=Frame.mk fn tmps (.code c::.inLoop c::k) defers .run kind none) ⟨h1,h2,h2',h3,rfl,by
      intro x hx;rcases List.mem_cons.1 hx with rfl|hx
      ·exact Gb
      rcases List.mem_cons.1 hx with rfl|hx
      ·exact Gb
      ·exact hk x hx⟩ (.inl rfl) (fun main cs u=>by simp[G,stepG,stepG.exec])
    | exit id=>
     cases hx:exitTo id k with
     | none=>simp[G,stepG,stepG.exec,hx]at h
     | some k'=>
      exact BR T IZ h (Di:=Frame.mk fn tmps k' defers .run kind none) ⟨h1,h2,h2',h3,rfl,fun x Fj=>hk x (OL hx x Fj)⟩ (.inl rfl) (fun main cs u=>by simp[G,stepG,stepG.exec,hx])
    | region id ops draw=>
     have hr:∀l:List Nat,∀x∈(Item.inRegion ops l::k),x.DJ (p fn)=true:=fun l x hx=>by
      rcases List.mem_cons.1 hx with rfl|hx
      ·exact Gb
      ·exact hk x hx
     cases draw with
     | false=>exact BR T IZ h (Di:=Frame.mk fn tmps (.inRegion ops (List.range ops.size)::k) defers .run kind none) ⟨h1,h2,h2',h3,rfl,hr _⟩ (.inl rfl) (fun main cs u=>by simp[G,stepG,stepG.exec])
     | true=>
      have hs:∀main cs (u:World),stepG P main (G (Frame.mk fn tmps (.code (.region id ops true)::k) defers .run kind none) (pre++cs)) u=
        .go (G (Frame.mk fn tmps (.inRegion ops (Region.schedule (P.follows .mixedOrders) ops (u.tape u.drawn (.order fn id)))::k) defers .run kind none) (pre++cs)) { u with drawn:=u.drawn+1 } #[]:=fun main cs u=>by
       simp[G,stepG,stepG.exec,choose,Sem.run,Question.forced,Question.cut]
      have e:=hs true [] v
      rw[List.append_nil]at e
      rw[e]at h
      injection h with g1 g2 g3
      subst g1 g2 g3
      have hw:=I6 0 (by simp) (.order fn id)
      refine⟨_,pre,{ w with drawn:=w.drawn+1 },rfl,⟨h1,h2,h2',h3,rfl,hr _⟩,.inl rfl,IZ,fun _ h _=>h,by simp,rfl,Nat.le_refl _,⟨T.size,T.same,T.dead,T.plain,T.os,T.output,T.Io,T.kept,T.TG⟩,fun _ _=>rfl,rfl,by simp,by simp,fun main cs=>?_⟩
      rw[hs main cs w]
      simp only[Nat.add_zero]at hw
      rw[hw]
   | inRegion ops l=>
    have hr:∀l:List Nat,∀x∈(Item.inRegion ops l::k),x.DJ (p fn)=true:=fun l x hx=>by
     rcases List.mem_cons.1 hx with rfl|hx
     ·exact Gb
     ·exact hk x hx
    cases l with
    | nil=>exact BR T IZ h (Di:=Frame.mk fn tmps k defers .run kind none) ⟨h1,h2,h2',h3,rfl,hk⟩ (.inl rfl) (fun main cs u=>by simp[G,stepG,stepG.exec])
    | cons i rest=>
     have tu:Ei P L p (Frame.mk fn tmps (.inRegion ops (i::rest)::k) defers .run kind none):=⟨h1,h2,h2',h3,rfl,h5⟩
     by_cases hw:((ops[i]?).map (Region.wanted · (yielded ops tmps))).getD false=true
     ·cases ho:ops[i]? with
      | none=>rw[ho]at hw;simp at hw
      | some o=>
       have hpo:p fn o=true:=by
        simp only[Item.DJ,Array.all_eq_true]at Gb
        obtain⟨BC,rfl⟩:=Array.getElem?_eq_some_iff.1 ho
        exact Gb i BC
       rw[JQ ho]at hab
       have ht:=F.op fn o hpo _ v T.plain hab
       rw[ho]at hw
       have Fq:∀main cs (u:World),stepG P main (G (Frame.mk fn tmps (.inRegion ops (i::rest)::k) defers .run kind none) (pre++cs)) u=
         stepG.apply P true (Frame.mk fn tmps (.inRegion ops (i::rest)::k) defers .run kind none) (pre++cs) none (execOp (Frame.mk fn tmps (.inRegion ops (i::rest)::k) defers .run kind none).eval o) u:=fun main cs u=>by
        simp only[Option.map_some,Option.getD_some]at hw
        simp[G,stepG,stepG.exec,stepG.oper,Frame.oper?,ho,hw]
       refine QW ht T hZ I6 fn (fun n=>match n with
        | .value x=>((Frame.mk fn tmps (.inRegion ops (i::rest)::k) defers .run kind none).finish x,pre)
        | .enter f args=>(Frame.enter P f args .normal,Frame.mk fn tmps (.inRegion ops (i::rest)::k) defers .run kind none::pre)
        | .defer d=>((Frame.mk fn tmps (.inRegion ops (i::rest)::k) (d::defers) .run kind none).finish undef,pre)
        | _=>((Frame.mk fn tmps (.inRegion ops (i::rest)::k) defers .run kind none).finish undef,pre)) ?_ hg ?_ ?_
       ·intro n hn az1;clear az1;cases n<;>first|exact hn.elim|skip
        ·exact⟨FC tu _,.inl (ES _ _),JZ.like (NH _ _) (Km _ _),fun _ h _=>h⟩
        ·exact⟨FC tu _,.inl (ES _ _),JZ.like (NH _ _) (Km _ _),fun _ h _=>h⟩
        ·exact⟨KG F hn _ (.inl rfl),.inl rfl,⟨tu,.inl ⟨rfl,rfl⟩,JZ⟩,fun _ h _=>List.mem_cons_of_mem _ h⟩
        ·rename_i d;have hfo:Ei P L p (Frame.mk fn tmps (.inRegion ops (i::rest)::k) (d::defers) .run kind none):=by
          refine⟨h1,fun hd=>?_,fun x hx=>?_,h3,rfl,h5⟩
          ·simp only at hd;have hn1:=hn.1;rw[hd]at hn1;cases hn1
          ·rcases List.mem_cons.1 hx with rfl|hx
           ·exact hn.2
           ·exact h2' x hx
         exact⟨FC hfo _,.inl (ES _ _),JZ.like (NH _ _) (Km _ _),fun _ h _=>h⟩
       ·have e:=Fq true [] v;rw[List.append_nil]at e;rw[e]at h;cases Gy:(execOp (Frame.mk fn tmps (.inRegion ops (i::rest)::k) defers .run kind none).eval o).runT P v #[]with
        | mk r JX=>
         cases r with
         | ok n v1=>
          refine⟨n,v1,JX,rfl,?_⟩
          have hn:Ec L (Zo fn) n:=by
           obtain⟨_,_,hK,_⟩:=OZ (Od:=JG) (Z:=Z) ht (v:=v) (w:=v.re v.tape v.drawn) (@Twin.mk JG _ _ _ rfl (fun _ _ _=>rfl) T.dead T.plain rfl rfl (fun _ h=>False.elim h) (fun _ h=>False.elim h) (fun _ h=>False.elim h)) hZ Gy (fun _ _ _=>rfl)
           exact hK
          cases n<;>first|exact hn.elim|skip
          all_goals
           simp only[stepG.apply,Gy,if_true,GStep.after,Array.append_empty,hke,Bool.false_eq_true,if_false]at h
           injection h with g1 g2 g3
           exact⟨g1.symm,g2.symm,g3.symm⟩
         | halt hh v1=>
          have hd:=VP ht T.plain Gy
          exfalso
          cases hh with
          | panic x=>
           simp only[stepG.apply,Gy,if_true,GStep.after]at h
           injection h with g1 g2 g3
           exact hg _ (by rw[<-g1];rfl)
          | stuck x=>simp only[stepG.apply,Gy,if_true,GStep.after,reduceCtorEq]at h
          | unsupported x=>
           cases x with
           | initOrder g=>simp[Halt.IM]at hd
           | _=>simp only[stepG.apply,Gy,if_true,GStep.after,reduceCtorEq]at h
          | _=>simp[Halt.IM]at hd
       ·intro main cs u n u1 JX hu hn;rw[Fq];cases n<;>first|exact hn.elim|skip
        all_goals
         simp only[stepG.apply,hu,if_true,GStep.after,Array.append_empty,hke,Bool.false_eq_true,if_false]
         rfl
     ·have hw':((ops[i]?).map (Region.wanted · (yielded ops tmps))).getD false=false:=(by simpa using hw);exact BR T IZ h (Di:=(Frame.mk fn tmps (.inRegion ops (i::rest)::k) defers .run kind none).finish undef) (FC tu _) (.inl (ES _ _)) (fun main cs u=>by
       simp[G,stepG,stepG.exec,hw'])
 ·simp only at hm;subst hm;cases pre with
  | nil=>exact absurd rfl BN
  | cons c pre=>
   obtain⟨fn0,hf0,hin⟩:=h1
   obtain⟨hc,hcm,hbp⟩:=JZ
   simp only at hcm
   cases defers with
   | cons d ds=>
    obtain⟨f,cap,lL,su⟩:=h2' d (List.mem_cons_self ..)
    obtain⟨yZ,cb,Jv,FZ,hb3,_⟩:=F.body f su
    obtain⟨tg,ar⟩:=d
    simp only at lL
    subst lL
    have hinv:∀u:World,(invoke (.fn (.func f) cap) ar).runT P u #[]=(.ok (.enter f (ar++cap)) u,#[]):=fun u=>by
     simp only[invoke,callFunc,program,bind,Sem.bind,Sem.runT,Jv,FZ,hb3,pure]
     rfl
    have hs:∀main cs (u:World),stepG P main (G (Frame.mk fn tmps todo (⟨.fn (.func f) cap,ar⟩::ds) .returning kind none) (c::pre++cs)) u=
      .go (G (Frame.enter P f (ar++cap) .deferred) (Frame.mk fn tmps todo ds .returning kind none::c::pre++cs)) u #[]:=fun main cs u=>by
     simp only[G,stepG,unwind,callDeferred,hinv,GStep.after]
     simp[seen]
    have e:=hs true [] v
    rw[List.append_nil,List.append_nil]at e
    rw[e]at h
    injection h with g1 g2 g3
    subst g1 g2 g3
    exact⟨_,_,w,rfl,KG F su _ (.inr rfl),.inl rfl,⟨⟨⟨fn0,hf0,hin⟩,fun hd=>(by cases h2 hd),fun x hx=>h2' x (List.mem_cons_of_mem _ hx),h3,rfl,h5⟩,.inr ⟨rfl,.inl rfl⟩,hc,hcm,hbp⟩,fun _ h _=>List.mem_cons_of_mem _ h,
     Nat.le_refl _,rfl,Nat.le_refl _,T,fun _ _=>rfl,rfl,by simp,by simp,fun main cs=>hs main cs w⟩
   | nil=>
    refine QW ((PM (fn:=fn0) (tmps:=tmps)).here v) T hZ I6 fn (fun x=>((if kind=.normal then c.finish x else c),pre)) (fun x _ Zd=>?_) hg ?_ ?_
    ·rcases hcm with⟨rfl,hcr⟩|⟨rfl,hcr⟩
     ·simp only[if_true];exact⟨FC hc _,.inl ((ES _ _).trans hcr),hbp.like (NH _ _) (Km _ _),fun x hx hpx=>by
       rcases List.mem_cons.1 hx with rfl|hx
       ·obtain⟨a,b,e,_⟩:=hpx;rw[hcr]at e;cases e
       ·exact hx⟩
     ·simp only[reduceCtorEq,if_false]at Zd ⊢;rcases hcr with hcr|⟨a,b,e,_⟩
      ·exact⟨hc,.inr hcr,hbp,fun x hx hpx=>by
        rcases List.mem_cons.1 hx with rfl|hx
        ·obtain⟨a,b,e,_⟩:=hpx;rw[hcr]at e;cases e
        ·exact hx⟩
      ·exact(Zd _ e).elim
    ·cases Gy:(results fn0 tmps).runT P v #[]with
     | mk r JX=>
      cases r with
      | ok x v1=>
       refine⟨x,v1,JX,rfl,?_⟩
       rcases hcm with⟨rfl,hcr⟩|⟨rfl,hcr⟩
       ·simp only[G,stepG,unwind,hf0,Gy,doReturn,GStep.after,Array.append_empty]at h;injection h with g1 g2 g3;exact⟨g1.symm,g2.symm,g3.symm⟩
       ·have h0:g'=G c pre/\v'=v1/\es=seen P fn JX:=by
         rcases hcr with hcr|⟨⟨pv,rc,ge⟩,b,e,e1,e2⟩
         ·simp only[G,stepG,unwind,hf0,Gy,doReturn,GStep.after,Array.append_empty,hcr]at h;injection h with g1 g2 g3;exact⟨g1.symm,g2.symm,g3.symm⟩
         ·simp only at e1 e2;subst e1 e2;simp only[G,stepG,unwind,hf0,Gy,doReturn,GStep.after,Array.append_empty,e]at h;injection h with g1 g2 g3;exact⟨g1.symm,g2.symm,g3.symm⟩
        simpa using h0
      | halt hh v1=>
       exfalso
       simp only[G,stepG,unwind,hf0,Gy]at h
       cases hh<;>simp[GStep.after]at h
    ·intro main cs u x u1 JX hu _;rcases hcm with⟨rfl,hcr⟩|⟨rfl,hcr⟩
     ·simp only[G,stepG,unwind,hf0,hu,doReturn,GStep.after,Array.append_empty,List.cons_append,if_true]
     ·rcases hcr with hcr|⟨⟨pv,rc,ge⟩,b,e,e1,e2⟩
      ·simp only[G,stepG,unwind,hf0,hu,doReturn,GStep.after,Array.append_empty,List.cons_append,hcr,reduceCtorEq,if_false]
      ·simp only at e1 e2;subst e1 e2;simp only[G,stepG,unwind,hf0,hu,doReturn,GStep.after,Array.append_empty,List.cons_append,e,reduceCtorEq,if_false]
end
def Alike (v w:World):Prop:=∀j q,w.tape (w.drawn+j) q=v.tape (v.drawn+j) q
structure Dy (v w:World):Prop where
 heap:w.heap=v.heap
 os:w.os=v.os
 output:w.output=v.output
 alike:Alike v w
def Xl {α:Type} (w:World) (v:World):Result α->Result α->Prop
 | .ok a v1,.ok b w1=>a=b/\Dy v1 w1/\w1.tape=w.tape/\v1.tape=v.tape
 | .halt h v1,.halt h' w1=>h=h'/\Dy v1 w1/\w1.tape=w.tape/\v1.tape=v.tape
 | _,_=>False
section
variable {P:Program}
theorem Dy.drew {v w:World} (h:Dy v w):Dy { v with drawn:=v.drawn+1 } { w with drawn:=w.drawn+1 }:=by
 refine⟨h.heap,h.os,h.output,fun j q=>?_⟩;have:=h.alike (j+1) q;simp only;rw[show w.drawn+1+j=w.drawn+(j+1)from by omega,show v.drawn+1+j=v.drawn+(j+1)from by omega];exact this
theorem Dy.cell {v w:World} (h:Dy v w) (a:Addr):w.cell? a=v.cell? a:=by unfold World.cell?;rw[h.heap]
theorem Dy.frozen {v w:World} (h:Dy v w) (a:Addr):w.frozen? a=v.frozen? a:=by unfold World.frozen?;rw[h.heap]
theorem Dy.shape {v w:World} (h:Dy v w) (a:Nat):w.shape? a=v.shape? a:=by unfold World.shape?;rw[h.heap]
theorem Dy.heap' {v w:World} (h:Dy v w) (hp:Array Obj):Dy { v with heap:=hp } { w with heap:=hp }:=⟨rfl,h.os,h.output,h.alike⟩
theorem Dy.seen {v w:World} (h:Dy v w) (at_:Addr) (u:TypeId) (k:Addr) (b:Bool):w.seen P at_ u k b=v.seen P at_ u k b:=by unfold World.seen;rw[h.heap]
theorem Dy.farLoad {v w:World} (h:Dy v w) (a:Addr) (b:Bool):w.farLoad P a b=v.farLoad P a b:=by
 unfold World.farLoad World.noCell World.viewLoad;simp only[h.heap,h.seen]
theorem Dy.farStore {v w:World} (h:Dy v w) (a:Addr) (x:Value) (b:Bool):
  (∃e,v.farStore P a x b=.error e/\w.farStore P a x b=.error e)\/
  (∃hp l,v.farStore P a x b=.ok ({ v with heap:=hp },l)/\w.farStore P a x b=.ok ({ w with heap:=hp },l)):=by
 have key:∀at_ u,(∃e,v.viewStore P at_ u a x b=.error e/\w.viewStore P at_ u a x b=.error e)\/
   (∃hp l,v.viewStore P at_ u a x b=.ok ({ v with heap:=hp },l)/\w.viewStore P at_ u a x b=.ok ({ w with heap:=hp },l)):=by
  intro at_ u
  unfold World.viewStore
  rw[h.seen,h.heap]
  cases ht:tight P P.depth u with
  | false=>exact .inl ⟨_,rfl,rfl⟩
  | true=>
   cases hs:v.seen P at_ u a b with
   | error e=>exact .inl ⟨_,rfl,rfl⟩
   | ok r=>
    obtain⟨c,e,fz,first,like,cells⟩:=r
    cases hb:x.bytes? with
    | none=>exact .inl ⟨_,rfl,rfl⟩
    | some bytes=>
     by_cases hl:some bytes.length≠like.bytes?.map (·.length)
     ·refine .inl ⟨ "memory seen as another type: a value of another size",?_,?_⟩ <;>
       ·simp only[Bool.not_true,Bool.false_eq_true,if_false];show(if some bytes.length≠like.bytes?.map (·.length)then _ else _)=_;rw[if_pos hl];rfl
     ·generalize hc:(cells.foldlM (init:=c) fun c (x:Nat×Nat×List UInt8)=>(do
        if x.2.1<first || x.2.1+x.2.2.length>first+bytes.length then MonadExcept.throw "memory seen as another type: a part of a cell written"
        if fz.1<=x.1 && x.1<fz.2 then MonadExcept.throw "a write to bytes that a string shares"
        let some old:=c[x.1]? | MonadExcept.throw "memory seen as another type: no such cell"
        let some new:=old.ofBytes ((bytes.drop (x.2.1-first)).take x.2.2.length)|MonadExcept.throw "memory seen as another type: a bool from a byte other than 0 or 1"
        pure (c.setIfInBounds x.1 new):Except String (X_)))=folded;cases folded with
      | error e'=>
       refine .inl ⟨e',?_,?_⟩ <;>
       ·simp only[Bool.not_true,Bool.false_eq_true,if_false];show(if some bytes.length≠like.bytes?.map (·.length)then _ else _)=_;rw[if_neg hl];show((cells.foldlM _ c:Except String (X_))>>= _)=_;erw [hc]
        rfl
      | ok c'=>
       refine .inr ⟨v.heap.setIfInBounds at_.block (.cells c' e fz),cells.map fun(i,_,_)=>{ block:=at_.block,off:=i },?_,?_⟩ <;>
       ·simp only[Bool.not_true,Bool.false_eq_true,if_false];show(if some bytes.length≠like.bytes?.map (·.length)then _ else _)=_;rw[if_neg hl];show((cells.foldlM _ c:Except String (X_))>>= _)=_;erw [hc]
        rfl
 unfold World.farStore World.noCell;rw[h.heap];split
 ·rename_i at_ u _;rcases key at_ u with⟨e,h1,h2⟩|⟨hp,l,h1,h2⟩
  ·rw[h1,h2];exact .inl ⟨_,rfl,rfl⟩
  ·rw[h1,h2];exact .inr ⟨_,_,rfl,rfl⟩
 ·exact .inl ⟨_,rfl,rfl⟩
theorem Dy.ask {β:Type} (k:Ask β):∀{v w:World},Dy v w->(w.ask k).1=(v.ask k).1/\Dy (v.ask k).2 (w.ask k).2/\(w.ask k).2.tape=w.tape/\(v.ask k).2.tape=v.tape:=by
 induction k with
 | done a=>intro v w h;exact⟨rfl,h,rfl,rfl⟩
 | ask what range k ih=>
  intro v w h
  unfold World.ask
  simp only
  split
  ·exact ih _ h
  ·have e:=h.alike 0 (Question.extern what range);simp only[Nat.add_zero]at e;rw[e];exact ih _ h.drew
theorem Dy.sys {v w:World} (h:Dy v w) (c:Sys):(w.sys c).1=(v.sys c).1/\Dy (v.sys c).2 (w.sys c).2/\(w.sys c).2.tape=w.tape/\(v.sys c).2.tape=v.tape:=by
 have key:=Dy.ask (Kernel.perform c v.os) h;unfold World.sys;rw[h.os]
 revert key
 cases hv:v.ask (Kernel.perform c v.os)with
 | mk r v1=>
  cases hw:w.ask (Kernel.perform c v.os)with
  | mk r' w1=>
   rintro⟨rfl,k2,k3,k4⟩
   obtain⟨r1,r2⟩:=r'
   cases r1<;>first
    | exact⟨rfl,h,rfl,rfl⟩
    | exact⟨rfl,⟨k2.heap,rfl,k2.output,k2.alike⟩,k3,k4⟩
theorem UT {α:Type} (e:Sem α):∀{v w:World},Dy v w->Xl w v (e.run P v) (e.run P w):=by
 induction e with
 | pure a=>intro v w h;exact⟨rfl,h,rfl,rfl⟩
 | load m a k ih=>
  intro v w h
  simp only[Sem.run,h.cell,h.farLoad]
  split
  ·exact ih _ h
  ·split
   ·exact ih _ h
   ·exact⟨rfl,h,rfl,rfl⟩
 | store m a x k ih=>
  intro v w h
  have form:(∀u:World,(Sem.store m a x k).run P u=(match u.cell? a with
    | some _=>if u.frozen? a then Result.halt (.unsupported (.unsafePointer "a write to bytes that a string shares")) u else k.run P (u.setCell a x)
    | none=>match u.farStore P a x (m==.atomic)with
     | .ok (w,_)=>k.run P w
     | .error h=>.halt h u))\/∃s,∀u:World,(Sem.store m a x k).run P u=.halt (.stuck s) u:=by
   cases x<;>first|exact .inl fun _=>rfl|exact .inr ⟨_,fun _=>rfl⟩
  rcases form with form|⟨s,hv⟩
  case inr=>rw[hv,hv];exact⟨rfl,h,rfl,rfl⟩
  rw[form,form,h.cell,h.frozen]
  split
  ·split
   ·exact⟨rfl,h,rfl,rfl⟩
   ·have:w.setCell a x={ w with heap:=(v.setCell a x).heap }:=(by unfold World.setCell;rw[h.heap]);rw[this];exact ih (h.heap' _)
  ·rcases h.farStore (P:=P) a x (m==.atomic)with⟨e,h1,h2⟩|⟨hp,l,h1,h2⟩
   ·rw[h1,h2];exact⟨rfl,h,rfl,rfl⟩
   ·rw[h1,h2];exact ih (h.heap' _)
 | new o k ih=>intro v w h;simp only[Sem.run,h.heap];exact ih _ (h.heap' _)
 | shape r k ih=>intro v w h;simp only[Sem.run,h.shape];exact ih _ h
 | freeze a n k ih=>
  intro v w h
  simp only[Sem.run]
  by_cases hn:n=0
  ·simp only[World.freeze,hn,if_true];exact ih h
  ·have:w.freeze a n={ w with heap:=(v.freeze a n).heap }:=(by unfold World.freeze;simp only[hn,if_false,h.heap]);rw[this];have hv:v.freeze a n={ v with heap:=(v.freeze a n).heap }:=(by unfold World.freeze;simp only[hn,if_false]);have:=ih (v:=v.freeze a n) (w:={ w with heap:=(v.freeze a n).heap }) (by rw[hv];exact h.heap' _);have ht:(v.freeze a n).tape=v.tape:=(by rw[hv]);unfold Xl at this ⊢;rw[ht]at this;exact this
 | frozen a k ih=>intro v w h;simp only[Sem.run,h.frozen];exact ih _ h
 | getObj r k ih=>
  intro v w h
  simp only[Sem.run,h.heap]
  split
  ·exact⟨rfl,h,rfl,rfl⟩
  ·exact ih _ h
  ·exact⟨rfl,h,rfl,rfl⟩
 | setObj r o k ih=>
  intro v w h
  simp only[Sem.run,h.heap]
  split
  ·exact⟨rfl,h,rfl,rfl⟩
  ·exact ih (h.heap' _)
  ·exact⟨rfl,h,rfl,rfl⟩
 | choose q k ih=>
  intro v w h
  simp only[Sem.run]
  split
  ·exact ih _ h
  ·have e:=h.alike 0 q;simp only[Nat.add_zero]at e;rw[e];exact ih _ h.drew
 | sys c k ih=>
  intro v w h
  obtain⟨h1,h2,h3,h4⟩:=h.sys c
  simp only[Sem.run,h1]
  have:=ih (v.sys c).1 h2
  unfold Xl at this ⊢
  rw[h3,h4]at this
  exact this
 | program k ih=>intro v w h;exact ih _ h
 | mark m k ih=>intro v w h;exact ih h
 | halt hh=>intro v w h;exact⟨rfl,h,rfl,rfl⟩
theorem PV {v w:World} (h:Dy v w) (n:Nat) (u:TypeId) (x:Value) (name:String):
  (∃f y v1 w1,(method n u x name).run P v=.ok (f,y) v1/\(method n u x name).run P w=.ok (f,y) w1)\/(∃h1 v1 h2 w1,(method n u x name).run P v=.halt h1 v1/\(method n u x name).run P w=.halt h2 w1):=by
 have:=UT (P:=P) (method n u x name) h
 revert this
 cases (method n u x name).run P v<;>cases (method n u x name).run P w<;>simp only[Xl,false_implies]
 ·rintro⟨rfl,_⟩;exact .inl ⟨_,_,_,_,rfl,rfl⟩
 ·intro _;exact .inr ⟨_,_,_,_,rfl,rfl⟩
theorem QS {v w:World} (h:Dy v w) (t:Target) (args:X_):t.leads P w args=t.leads P v args:=by
 unfold Target.leads;cases t with
 | fn f cap=>
  cases f with
  | method name=>
   simp only
   split
   ·rename_i u x _;rcases PV (P:=P) h (P.types.size+Made.depth) u x name with⟨f,y,v1,w1,e1,e2⟩|⟨h1,v1,h2,w1,e1,e2⟩<;>rw[e1,e2]
   ·rfl
  | methodOf u name=>
   simp only
   split
   ·rename_i u x _;rcases PV (P:=P) h (P.types.size+Made.depth) u x name with⟨f,y,v1,w1,e1,e2⟩|⟨h1,v1,h2,w1,e1,e2⟩<;>rw[e1,e2]
   ·rfl
  | _=>rfl
 | _=>rfl
theorem Zb {v w:World} (h:Dy v w) (ρ:Operand->Value) (o:Oper):o.about P w ρ=o.about P v ρ:=by
 unfold Oper.about;split
 ·rename_i c _;have:=UT (P:=P) (resolve ρ c o.type) h
  revert this
  cases (resolve ρ c o.type).run P v<;>cases (resolve ρ c o.type).run P w<;>simp only[Xl,false_implies]
  ·rintro⟨rfl,hs,_⟩;exact QS hs _ _
  ·intro _;trivial
 ·rfl
end
end Go.Fxa
