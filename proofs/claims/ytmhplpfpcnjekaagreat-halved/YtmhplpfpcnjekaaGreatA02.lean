/- Operations that -/
import Derived.Test.YtmhplpfpcnjekaaGreatA01
namespace Go
open Go.Fxa
def Sem.On (P:l_)(R:Nat->Prop){α:Type}:Sem α->Prop
 |.pure _=>True
 |.shape r k=>R r/\∀s,(k s).On P R
 |.frozen a k=>(R a.block\/∀x y,k x=k y)/\∀b,(k b).On P R
 |.getObj r k=>R r/\∀o,(k o).On P R
 |.choose _ k=>∀n,(k n).On P R
 |.program k=>(k P).On P R
 |.mark m k=>(∃f,m=.extern f)/\k.On P R
 |.halt h=>h.LD=true
 |_=>False
end Go
namespace Go.Fxa
open Go.Conc
variable {α β:Type}{c:Prop}{a:f_}{t:j_}{r:Nat}{ps rs:Array j_}{args:X_}
section
variable {P:l_}{R:Nat->Prop}
theorem EU {e:Sem α}{f:α->Sem β}(h:e.On P R)(g:∀a,(f a).On P R):(e.bind f).On P R:=by
 induction e with
 |pure a=>exact g a
 |shape r k b=>exact⟨h.1,λs=>b s (h.2 s)⟩
 |frozen a k b=>exact⟨h.1.imp id λh x y=>congrArg (·.bind f) (h x y),λs=>b s (h.2 s)⟩
 |getObj r k b=>exact⟨h.1,λs=>b s (h.2 s)⟩
 |choose q k b=>exact λn=>b n (h n)
 |program k b=>exact b P h
 |mark m k b=>exact⟨h.1,b h.2⟩
 |halt d=>exact h
 |load m a k b=>exact h.elim
 |store m a v k b=>exact h.elim
 |new o k b=>exact h.elim
 |freeze a n k b=>exact h.elim
 |setObj r o k b=>exact h.elim
 |sys c k b=>exact h.elim
theorem iR {e:Sem α}(H:e.On P R):∀{v:o_} {es I:Array Event} {r:Result α},e.runT P v es=(r,I)->
  (∃d G,(∀x∈G,(∃q o,x.loc=.obj q/\R q/\v.heap[q]?=some o)\/∃f,x.loc=.mark (.extern f))/\I=es++G/\((∃a,r=.ok a {v with drawn:=v.drawn+d}/\∀w:o_,(∀q,R q->w.heap[q]?=v.heap[q]?)->
   (∀j,j<d->∀q,w.tape (w.drawn+j) q=v.tape (v.drawn+j) q)->e.runT P w es=(.ok a {w with drawn:=w.drawn+d},I))\/∃h,r=.halt h {v with drawn:=v.drawn+d}/\h.LD=true)):=by
 induction e with
 |pure a=>
  intro v es I r h
  simp only[Sem.runT,lQ]at h
  obtain⟨rfl,rfl⟩:=h
  exact⟨0,#[],sJ,sJ,.inl ⟨a,rfl,λw _ _=>rfl⟩⟩
 |shape q k b=>
  intro v es I r h
  obtain⟨d,G,l,p,s⟩:=b _ (H.2 _) (show(k (v.shape? q)).runT P v es=(r,I)from h)
  refine⟨d,G,l,p,s.imp (λ⟨a,e1,e2⟩=>⟨a,e1,λw i t=>?_⟩) id⟩
  have:w.shape? q=v.shape? q:=by unfold World.shape?;rw[i q H.1]
  show(k (w.shape? q)).runT P w es=_
  rw[this];exact e2 w i t
 |frozen a k b=>
  intro v es I r h
  obtain⟨d,G,l,p,s⟩:=b _ (H.2 _) (show(k (v.frozen? a)).runT P v es=(r,I)from h)
  refine⟨d,G,l,p,s.imp (λ⟨x,e1,e2⟩=>⟨x,e1,λw i t=>?_⟩) id⟩
  have:k (w.frozen? a)=k (v.frozen? a):=H.1.elim (λh=>by rw[show w.frozen? a=v.frozen? a from by unfold World.frozen?;rw[i a.block h]]) λh=>h _ _
  show(k (w.frozen? a)).runT P w es=_
  rw[this];exact e2 w i t
 |getObj q k b=>
  intro v es I r h
  simp only[Sem.runT]at h
  split at h
  .simp only[lQ]at h;obtain⟨rfl,rfl⟩:=h;exact⟨0,#[],sJ,sJ,.inr ⟨_,rfl,rfl⟩⟩
  .rename_i o z B;obtain⟨d,G,l,p,s⟩:=b _ (H.2 _) h;refine⟨d,#[⟨.obj q,false,o.isChan⟩]++G,λx g=>?_,by rw[p];simp,s.imp (λ⟨x,e1,e2⟩=>⟨x,e1,λw i t=>?_⟩) id⟩
   .obtain g|g:=Array.mem_append.1 g
    .simp at g;subst g;exact .inl ⟨q,o,rfl,H.1,B⟩
    .exact l x g
   .have A:w.heap[q]?=some o:=(by rw[i q H.1];exact B);simp only[Sem.runT,A];cases o<;>first|exact e2 w i t|exact(z _ _ _ rfl).elim
  .simp only[lQ]at h;obtain⟨rfl,rfl⟩:=h;exact⟨0,#[],sJ,sJ,.inr ⟨_,rfl,rfl⟩⟩
 |choose q k b=>
  intro v es I r h
  simp only[Sem.runT]at h
  split at h
  .rename_i hq;obtain⟨d,G,l,p,s⟩:=b _ (H _) h;refine⟨d,G,l,p,s.imp (λ⟨x,e1,e2⟩=>⟨x,e1,λw i t=>?_⟩) id⟩;simp only[Sem.runT,hq,if_true];exact e2 w i t
  .rename_i hq;obtain⟨d,G,l,p,s⟩:=b _ (H _) h;refine⟨d+1,G,l,p,?_⟩;have y:∀u:o_,({u with drawn:=u.drawn+1+d}:o_)={u with drawn:=u.drawn+(d+1)}:=λu=>by rw[show u.drawn+1+d=u.drawn+(d+1)from by omega]
   obtain⟨x,e1,e2⟩|⟨x,e1,e2⟩:=s
   .refine .inl ⟨x,by rw[e1];exact congrArg _ (y v),λw i t=>?_⟩;have C:w.tape w.drawn q=v.tape v.drawn q:=(by have:=t 0 wB q;simpa using this);simp only[Sem.runT,hq,C];have:=e2 {w with drawn:=w.drawn+1} i (λj F D=>by
     have:=t (j+1) wB D
     simp only
     rw[show w.drawn+1+j=w.drawn+(j+1)from by omega,show v.drawn+1+j=v.drawn+(j+1)from by omega]
     exact this);rw[y w]at this;simpa using this
   .exact .inr ⟨x,by rw[e1];exact congrArg _ (y v),e2⟩
 |program k b=>intro v es I r h;exact b P H h
 |mark m k b=>
  intro v es I r h
  obtain⟨⟨f,rfl⟩,H⟩:=H
  obtain⟨d,G,l,p,s⟩:=b H h
  refine⟨d,#[⟨.mark (.extern f),false,true⟩]++G,λx g=>?_,by rw[p];simp,s⟩
  obtain g|g:=Array.mem_append.1 g
  .simp at g;subst g;exact .inr ⟨f,rfl⟩
  .exact l x g
 |halt E=>
  intro v es I r h
  simp only[Sem.runT,lQ]at h
  obtain⟨rfl,rfl⟩:=h
  exact⟨0,#[],sJ,sJ,.inr ⟨_,rfl,H⟩⟩
 |load m a k b=>exact H.elim
 |store m a v k b=>exact H.elim
 |new o k b=>exact H.elim
 |freeze a n k b=>exact H.elim
 |setObj r o k b=>exact H.elim
 |sys c k b=>exact H.elim
theorem bf8 {K:β->Prop}{e:Sem β}(F:e.On P R)(H:∀b v v' es E,e.runT P v es=(.ok b v',E)->K b)(G:∀r,R r->EZ P r e)(v:o_):Iy P K e v:=by
 refine⟨fun {v' es E b} _ h=>?_,fun {v' es E D} A h=>?_,fun {p Z w v' es E b} T t h n=>?_⟩
 .obtain⟨d,c,_,_,⟨a,e1,_⟩|⟨l,e1,_⟩⟩:=iR F h
  .injection e1 with e1 e2;subst e1 e2;exact⟨sJ,rfl,w_⟩
  .cases e1
 .obtain⟨d,c,_,_,⟨a,e1,_⟩|⟨l,e1,s⟩⟩:=iR F h
  .cases e1
  .injection e1 with e1 e2;subst e1 e2;exact⟨s,A⟩
 .obtain⟨d,c,y,m,⟨a,e1,B⟩|⟨l,e1,_⟩⟩:=iR F h
  .injection e1 with e1 e2;subst e1 e2;have g:∀r,R r->¬Z r:=λr i g=>G r i v es b _ E T.plain (T.dead r g (t r g)) h
   have z:∀r,R r->¬p.dead r:=λr i g=>G r i v es b _ E T.plain (T.KN r g) h
   have k:=B w (λq hq=>(T.same q (g q hq) (z q hq)).symm) (λj u q=>n j (by simpa using u) q);refine⟨{w with drawn:=w.drawn+d},c,H _ _ _ _ _ h,k,⟨T.size,T.same,T.dead,T.plain,T.os,T.output,T.KN,T.kept,T.ax⟩,λ_ _=>rfl,rfl,sJ,m,λx C=>?_⟩;obtain⟨q,o,e1,e2,e3⟩|⟨f,e1⟩:=y x C
   .exact .inr (.inl ⟨q,e1,g q e2,(y_.1 e3).1⟩)
   .exact .inr (.inr (.inr ⟨f,e1⟩))
  .cases e1
def ovR (P:l_)(ps:Array j_)(args:X_)(r:Nat):Prop:=∃a la ca b lb cb t el i,args=#[.slice (some a) la ca,.slice (some b) lb cb]/\a.block≠b.block/\la≠0/\lb≠0/\ps[0]?=some t/\P.underlying t=some (.slice el)/\P.info? el=some i/\i.size≠0/\(r=a.block\/r=b.block)
theorem uy [Decidable c]{a b:Sem α}(d:c->a.On P R)(e:¬c->b.On P R):(if c then a else b).On P R:=by
 by_cases h:c
 .rw[rW h];exact d h
 .rw[ru h];exact e h
theorem Vz (h:R a.block):(stringish a).On P R:=by
 unfold stringish;refine EU (e:=frozen a) ⟨.inl h,λ_=>trivial⟩ λb=>?_
 cases b
 .simp only[jb,if_false];refine EU (e:=shape a.block) ⟨h,λ_=>trivial⟩ λs=>?_
  cases s with
  |none=>trivial
  |some x=>obtain⟨t,n⟩:=x;exact⟨.inl h,λ_=>trivial⟩
 .simp only[if_true];trivial
theorem Wj (h:R a.block):(noView a).On P R:=by
 unfold noView viewAt;refine EU (EU (e:=shape a.block) ⟨h,λ_=>trivial⟩ λs=>?_) λo=>?_
 .split
  .trivial
  .refine EU (e:=getObj a.block) ⟨h,λ_=>trivial⟩ λo=>?_
   cases o<;>trivial
 .split
  .exact rfl
  .trivial
theorem qA {b:f_}(h:R a.block)(d:R b.block):(mayBeOne a b).On P R:=by
 unfold mayBeOne;refine EU (Vz h) λx=>EU (Vz d) λy=>?_
 exact EU (EU (e:=shape a.block) ⟨h,λ_=>trivial⟩ λ_=>trivial) λ_=>EU (EU (e:=shape b.block) ⟨d,λ_=>trivial⟩ λ_=>trivial) λ_=>trivial
theorem bK {f:TypeDesc->Sem β}(h:∀d,P.underlying t=some d->(f d).On P R):((underlying t).bind f).On P R:=by
 show((match P.underlying t with|some d=>pure d|none=>stuck "no such type":Sem TypeDesc).bind f).On P R;cases hu:P.underlying t with
 |none=>exact rfl
 |some d=>exact h d hu
theorem ϸ {f:Nat->Sem β}(h:∀i,P.info? t=some i->(f i.size).On P R):((sizeOf t).bind f).On P R:=by
 show(((match P.info? t with|some d=>pure d|none=>stuck "no such type":Sem TypeInfo).bind λi=>pure i.size).bind f).On P R;cases hu:P.info? t with
 |none=>exact rfl
 |some d=>exact h d hu
theorem Z7 {f:TypeDesc->Sem β}(h:∀d,P.underlying t=some d->EZ P r (f d)):EZ P r ((underlying t).bind f):=λw c b j e g i a=>by
 have a:((match P.underlying t with|some d=>pure d|none=>stuck "no such type":Sem TypeDesc).bind f).runT P w c=_:=a;cases hu:P.underlying t with
 |none=>rw[hu]at a;cases a
 |some d=>rw[hu]at a;exact h d hu w c b j e g i a
theorem xA {f:Nat->Sem β}(h:∀i,P.info? t=some i->EZ P r (f i.size)):EZ P r ((sizeOf t).bind f):=λw c b k e g j a=>by
 have a:(((match P.info? t with|some d=>pure d|none=>stuck "no such type":Sem TypeInfo).bind λi=>pure i.size).bind f).runT P w c=_:=a;cases hu:P.info? t with
 |none=>rw[hu]at a;cases a
 |some d=>rw[hu]at a;exact h d hu w c b k e g j a
open Extern.SlicesOverlaps in
theorem kM {ps rs:Array TypeId}:∀(l:List Value),(∀a la ca b lb cb,l≠[.slice a la ca,.slice b lb cb])->overlaps ps rs ⟨l⟩=stuck "slices.overlaps: two slices expected"
 |[],_=>rfl
 |[x],_=>rfl
 |[x,y],h=>by
  cases x<;>first|rfl|skip
  cases y<;>first|rfl|skip
  exact(h _ _ _ _ _ _ rfl).elim
 |x::y::z::l,_=>rfl
open Extern.SlicesOverlaps in
theorem Qp {a b:d_ f_}{la ca lb cb:Nat}:overlaps ps rs #[.slice a la ca,.slice b lb cb]=(do
  let some t:=ps[0]? | stuck "slices.overlaps: no parameter types"
  let .slice elem<-underlying t|stuck "slices.overlaps: slice type expected"
  let size<-sizeOf elem
  match a,b with
  |some a,some b=>
   if la=0\/lb=0\/size=0 then pure (.bool false)
   else if a.block !=b.block && (<-frozen a) && (<-frozen b)then unsupported .addressObserved
   else do
    if a.block !=b.block then do
     noView a;noView b
     if<-mayBeOne a b then return .bool ((<-choose (.extern "sameAddr.stringBytes" 2))==1)
    pure (.bool (a.block==b.block && a.off<b.off+lb*size && b.off<a.off+la*size))
  |_,_=>pure (.bool false)):=rfl
open Extern.SlicesOverlaps in
theorem qy:(overlaps ps rs args).On P (ovR P ps args):=by
 obtain⟨l⟩:=args;by_cases p:∃a h f b j g,l=[.slice a h f,.slice b j g]
 .obtain⟨a,h,f,b,j,g,rfl⟩:=p;rw[Qp];cases hp:ps[0]? with
  |none=>exact rfl
  |some t=>
   simp only
   refine bK λd o=>?_
   cases d<;>first|exact rfl|skip
   rename_i n
   refine ϸ λi hi=>?_
   cases a with
   |none=>trivial
   |some a=>
    cases b with
    |none=>trivial
    |some b=>
     simp only
     refine uy (λ_=>trivial) λk=>?_
     simp only[not_or]at k
     by_cases c:a.block=b.block
     .simp only[c,bne_self_eq_false,Bool.false_and,jb,if_false];exact⟨.inr λ_ _=>rfl,λ_=>⟨.inr λ_ _=>rfl,λ_=>trivial⟩⟩
     .have hR:ovR P ps #[.slice (some a) h f,.slice (some b) j g] a.block:=⟨a,h,f,b,j,g,t,n,i,rfl,c,k.1,k.2.1,hp,o,hi,k.2.2,.inl rfl⟩;have m:ovR P ps #[.slice (some a) h f,.slice (some b) j g] b.block:=⟨a,h,f,b,j,g,t,n,i,rfl,c,k.1,k.2.1,hp,o,hi,k.2.2,.inr rfl⟩;have q:(a.block !=b.block)=true:=(by simpa using c);simp only[q,if_true,Bool.true_and];refine EU (e:=frozen a) ⟨.inl hR,λ_=>trivial⟩ λx=>EU (e:=frozen b) ⟨.inl m,λ_=>trivial⟩ λy=>uy (λ_=>rfl) λ_=>EU (Wj hR) λ_=>EU (Wj m) λ_=>EU (qA hR m) λz=>uy (λ_=>?_) λ_=>trivial
      exact EU (e:=choose _) (λ_=>trivial) λ_=>trivial
 .rw[kM l λa h f b j g e=>p ⟨a,h,f,b,j,g,e⟩];exact rfl
theorem qB {a:Addr} {w:World} {es:Array Event} (h:w.heap[a.block]?=some DV):∃d,(noView a).runT P w es=(.halt (.unsupported (.unsafePointer "memory seen as another type")) w,d):=by
 have b:w.shape? a.block=none:=by unfold World.shape?;rw[h];rfl
 refine⟨es.push ⟨.obj a.block,false,false⟩,?_⟩;unfold noView viewAt;simp only[bind,Sem.bind,shape,getObj,pure,Sem.runT,b,Option.isSome_none,jb,if_false,h,DV]
 rfl
theorem Y5 {e:Sem α}{f:α->Sem β}(h:EZ P r e):EZ P r (e.bind f):=h.bind
theorem Si {e:Sem α}{f:α->Sem β}(s:e.On P R)(h:∀a,EZ P r (f a)):EZ P r (e.bind f):=λw o b q l j k c=>by
 obtain⟨a,w1,m,g⟩:=MR c;rw[Sem.runT_bind',g]at c;obtain⟨d,i,_,_,⟨n,e1,_⟩|⟨p,e1,_⟩⟩:=iR s g
 .injection e1 with e1 e2;subst e2;exact h a _ _ _ _ _ (by exact j) (by exact k) c
 .cases e1
theorem aq2 {h:Halt}:EZ P r (.halt h:Sem α):=λw d b e c _ _ a=>by simp[Sem.runT]at a
theorem ZL:EZ P a.block (noView a):=λw es b h f _ e c=>by
 obtain⟨g,d⟩:=qB (P:=P) (es:=es) e;rw[d]at c;cases c
theorem bf9 [Decidable c]{a b:Sem α}(d:c->EZ P r a)(e:¬c->EZ P r b):EZ P r (if c then a else b):=by
 by_cases h:c
 .rw[rW h];exact d h
 .rw[ru h];exact e h
open Extern.SlicesOverlaps in
theorem kN (h:ovR P ps args r):EZ P r (overlaps ps rs args):=by
 obtain⟨a,w,q,b,z,s,t,u,i,rfl,c,f,g,n,p,hi,m,o⟩:=h;rw[Qp,n];simp only;refine Z7 λd k=>?_
 rw[p]at k;obtain rfl:=(x_ k).symm;simp only;refine xA λv j=>?_
 rw[hi]at j;obtain rfl:=(x_ j).symm;have l:(a.block !=b.block)=true:=by simpa using c
 simp only[l,if_true,Bool.true_and,f,g,m,or_self,if_false];refine Si (R:=λ_=>True) (e:=frozen a) ⟨.inl trivial,λ_=>trivial⟩ λx=>Si (R:=λ_=>True) (e:=frozen b) ⟨.inl trivial,λ_=>trivial⟩ λy=>bf9 (λ_=>aq2) λ_=>?_
 obtain rfl|rfl:=o
 .exact Y5 ZL
 .exact Si (R:=λ_=>True) (Wj trivial) λ_=>Y5 ZL
open Extern.SlicesOverlaps in
theorem av3 {L:h_->Prop}{b:Bool}{f:h_}(h:Ext P f)(args:X_)(v:o_):Iy P (FC L b) (callFunc f args) v:=by
 obtain⟨fn,l,n,s,t,y,z,A⟩:=h;have e:∀(u:o_)(d:Array Event),(callFunc f args).runT P u d=((mark (.extern f)).bind λ_=>(overlaps l n args).bind λx=>pure (.value x):Sem Next).runT P u d:=λu d=>by
  unfold callFunc
  show(match P.funcs[f]? with
   |none=>stuck "call: no such function"
   |some fn=>_:Sem Next).runT P u d=_
  rw[s]
  simp only[t,y,z,A,jb,if_false,if_true]
  rfl
 have T:=bf8 (P:=P) (K:=FC L b) (R:=ovR P l args) (e:=(mark (.extern f)).bind λ_=>(overlaps l n args).bind λx=>pure (.value x)) (EU (e:=mark (.extern f)) ⟨⟨f,rfl⟩,dE⟩ λ_=>EU qy λ_=>trivial) (λx w m d i c=>by
  obtain⟨a,w1,D,q1⟩:=MR c
  rw[Sem.runT_bind',q1]at c
  simp only at c
  obtain⟨a2,w2,j,C⟩:=MR c
  rw[Sem.runT_bind',C]at c
  have c:((.ok (.value a2) w2:Result Next),j)=(.ok x m,i):=c
  simp only[lQ,Result.ok.injEq]at c
  rw[<-c.1.1]
  trivial) (λr c=>Si (R:=λ_=>True) (e:=mark (.extern f)) ⟨⟨f,rfl⟩,dE⟩ λ_=>Y5 (kN c)) v;exact⟨fun {o d i b} k h=>T.GI k (by rw[<-e];exact h),fun {o d i F} k h=>T.LD k (by rw[<-e];exact h),fun {E Z w o d i b} q B h p=>by
  obtain⟨m,g,k1,k2,k3⟩:=T.twin q B (by rw[<-e];exact h) p
  exact⟨m,g,k1,by rw[e];exact k2,k3⟩⟩
end
end Go.Fxa
namespace Go.Fxa
open Go.Conc
variable {Od:Old}{fr:Frame}{v w v':o_}{g':m_}{es:Array Event}{α:Type}
section
variable {P:l_}{L:h_->Prop}{p:h_->Oper->Bool}{Z:Nat->Prop}
theorem NT {fn:h_}{tmps:X_}{ops:Array Oper}{i:Nat}{rest:List Nat}{k:List Item}{a:List Deferred}{kd:CallKind}{b:d_ Nat}{o:Oper}(c:ops[i]?=some o)(v:o_):
  (Frame.mk fn tmps (.inRegion ops (i::rest)::k) a .run kd b).about P v=o.about P v (Frame.mk fn tmps (.inRegion ops (i::rest)::k) a .run kd b).eval:=by
 simp only[Frame.about,c,Oper.about];cases o.op<;>rfl
def jM (Od:Old)(P:l_)(L:h_->Prop)(p:h_->Oper->Bool)(Z:Nat->Prop)(fr:Frame)(pre:Z_)(v w v':o_)(g':m_)(es:Array Event):Prop:=
 ∃Ew C9 w',g'=G Ew C9/\FQ P L p Ew/\(Ew.mode=.run\/Ew.mode=.returning)/\Below P L p Ew C9/\(∀c∈pre,NK c->c∈C9)/\
  v.drawn<=v'.drawn/\v'.tape=v.tape/\v.heap.size<=v'.heap.size/\Yr Od Z v' w'/\(∀r,Z r->w'.heap[r]?=w.heap[r]?)/\w'.tape=w.tape/\w'.drawn=w.drawn+(v'.drawn-v.drawn)/\(∀e∈es,EvT Z v'.heap.size e)/\
  ∀main cs,stepG P main (G fr (pre++cs)) w=.go (G Ew (C9++cs)) w' es
theorem CQ {Ew:Frame}{pre:Z_}(T:Yr Od Z v w)(f:Below P L p Ew pre)
  (h:stepG P true (G fr pre) v=.go g' v' es) (g:FQ P L p Ew) (i:Ew.mode=.run\/Ew.mode=.returning)
  (d:∀main cs u,stepG P main (G fr (pre++cs)) u=.go (G Ew (pre++cs)) u #[]):jM Od P L p Z fr pre v w v' g' es:=by
 have e:=d true [] v;rw[List.append_nil]at e;rw[e]at h;injection h with a b c;subst a b c;exact⟨Ew,pre,w,rfl,g,i,f,λ_ h _=>h,w_,rfl,w_,T,λ_ _=>rfl,rfl,sJ,sJ,λmain cs=>d main cs w⟩
theorem Xq {pre:Z_}{e:Sem α}{K:α->Prop}(J:Iy P K e v)(T:Yr Od Z v w)(Q:∀r,Z r->r<v.heap.size)
  (O:∀j,j<v'.drawn-v.drawn->∀q,w.tape (w.drawn+j) q=v.tape (v.drawn+j) q)
  (fn:h_) (k:α->Frame×Z_) (S:∀a,K a->(∀I,(k a).1.mode≠.panicking I)->FQ P L p (k a).1/\((k a).1.mode=.run\/(k a).1.mode=.returning)/\Below P L p (k a).1 (k a).2/\∀c∈pre,NK c->c∈(k a).2) (M:∀I,g'.frame.mode≠.panicking I)
  (R:(∃a v1 H,e.runT P v #[]=(.ok a v1,H)/\g'=G (k a).1 (k a).2/\v'=v1/\es=seen P fn H))
  (U:∀main cs u a N H,e.runT P u #[]=(.ok a N,H)->K a->stepG P main (G fr (pre++cs)) u=.go (G (k a).1 ((k a).2++cs)) N (seen P fn H)):jM Od P L p Z fr pre v w v' g' es:=by
 obtain⟨a,v1,H,g,h,t,y⟩:=R;subst t y;obtain⟨m,l,i,E,s,d,D,z,n,o⟩:=UN J T Q g O;have b:=au6 J T.plain g;obtain⟨A,B,C,f⟩:=S a i (by rw[h]at M;exact M);refine⟨(k a).1,(k a).2,m,h,A,B,C,f,b.1,b.2.1,b.2.2,s,d,D,z,λx F=>?_,λmain cs=>U main cs w a m H E i⟩;have:=mem_seen F;rw[n]at this;exact o x (by simpa using this)
theorem Qc (F:QE P L p){pre:Z_}
  (hfr:FQ P L p fr) (Og:Below P L p fr pre)
  (hm:fr.mode=.run\/(fr.mode=.returning/\pre≠[]))
  (hab:∀f,fr.about P v=some f->L f\/Ext P f) (T:Yr Od Z v w) (hZ:∀r,Z r->r<v.heap.size)
  (h:stepG P true (G fr pre) v=.go g' v' es) (hg:∀ch,g'.frame.mode≠.panicking ch)
  (LX:∀j,j<v'.drawn-v.drawn->∀q,w.tape (w.drawn+j) q=v.tape (v.drawn+j) q):
  jM Od P L p Z fr pre v w v' g' es:=by
 obtain⟨fn,tmps,X,y,mode,kind,roundOf⟩:=fr;obtain⟨K,M,C,J,h4,h5⟩:=hfr;simp only at K M C J h4 h5;subst h4;have hke:(kind==CallKind.early)=false:=by obtain rfl|rfl:=J<;>rfl
 have O:∀{tm:X_} {td:List Item} {df:List Deferred} {m:FrameMode},Below P L p (Frame.mk fn tm td df m kind none) pre:=Og.GR rfl rfl;obtain hm|⟨hm,CX⟩:=hm
 .simp only at hm;subst hm;cases X with
  |nil=>exact CQ T O h (Ew:=Frame.mk fn tmps [] y .returning kind none) ⟨K,M,C,J,rfl,h5⟩ (.inr rfl) (λz H u=>by simp[G,stepG,stepG.exec])
  |cons it k=>
   have I:=h5 it (List.mem_cons_self ..)
   have V:∀x∈k,x.EY (p fn)=true:=λx A=>h5 x (List.mem_cons_of_mem _ A)
   cases it with
   |inBlock id=>exact CQ T O h (Ew:=Frame.mk fn tmps k y .run kind none) ⟨K,M,C,J,rfl,V⟩ (.inl rfl) (λz H u=>by simp[G,stepG,stepG.exec])
   |inLoop c=>
    exact CQ T O h (Ew:=Frame.mk fn tmps (.code c::.inLoop c::k) y .run kind none) ⟨K,M,C,J,rfl,by
     intro x A;obtain rfl|A:=r_.1 A
     .exact I
     obtain rfl|A:=r_.1 A
     .exact I
     .exact V x A⟩ (.inl rfl) (λz H u=>by simp[G,stepG,stepG.exec])
   |inScope c=>simp[Item.EY]at I
   |inRangeFunc l=>simp[Item.EY]at I
   |endRangeFunc l=>simp[Item.EY]at I
   |beginRound=>simp[Item.EY]at I
   |call d a b c=>simp[Item.EY]at I
   |extern a b=>simp[Item.EY]at I
   |code c=>
    cases c with
    |skip=>exact CQ T O h (Ew:=Frame.mk fn tmps k y .run kind none) ⟨K,M,C,J,rfl,V⟩ (.inl rfl) (λz H u=>by simp[G,stepG,stepG.exec])
    |label l=>exact CQ T O h (Ew:=Frame.mk fn tmps k y .run kind none) ⟨K,M,C,J,rfl,V⟩ (.inl rfl) (λz H u=>by simp[G,stepG,stepG.exec])
    |ret=>
     refine CQ T O h (Ew:=Frame.mk fn tmps (.code .ret::k) y .returning kind none) ⟨K,M,C,J,rfl,h5⟩ (.inr rfl) (λz H u=>by simp[G,stepG,stepG.exec])
    |rangeFunc f ps a b=>simp[Item.EY,Code.AP]at I
    |scope c=>simp[Item.EY,Code.AP]at I
    |goto l=>simp[Item.EY,Code.AP]at I
    |refuse s=>simp[G,stepG,stepG.exec]at h
    |seq a b=>
     simp only[Item.EY,Code.AP,Bool.and_eq_true]at I
     exact CQ T O h (Ew:=Frame.mk fn tmps (.code a::.code b::k) y .run kind none) ⟨K,M,C,J,rfl,by
      intro x A;obtain rfl|A:=r_.1 A
      .exact I.1
      obtain rfl|A:=r_.1 A
      .exact I.2
      .exact V x A⟩ (.inl rfl) (λz H u=>by simp[G,stepG,stepG.exec])
    |cond c a b=>
     simp only[Item.EY,Code.AP,Bool.and_eq_true]at I
     cases hv:(Frame.mk fn tmps (.code (.cond c a b)::k) y .run kind none).eval c with
     |bool t=>
      refine CQ T O h (Ew:=Frame.mk fn tmps (.code (if t then a else b)::k) y .run kind none) ⟨K,M,C,J,rfl,?_⟩ (.inl rfl) (λz H u=>by simp[G,stepG,stepG.exec,hv])
      intro x A;obtain rfl|A:=r_.1 A
      .cases t<;>simp[Item.EY,I]
      .exact V x A
     |_=>simp[G,stepG,stepG.exec,hv]at h
    |block id c=>
     exact CQ T O h (Ew:=Frame.mk fn tmps (.code c::.inBlock id::k) y .run kind none) ⟨K,M,C,J,rfl,by
      intro x A;obtain rfl|A:=r_.1 A
      .exact I
      obtain rfl|A:=r_.1 A
      .rfl
      .exact V x A⟩ (.inl rfl) (λz H u=>by simp[G,stepG,stepG.exec])
    |loop c=>
     exact CQ T O h (Ew:=Frame.mk fn tmps (.code c::.inLoop c::k) y .run kind none) ⟨K,M,C,J,rfl,by
      intro x A;obtain rfl|A:=r_.1 A
      .exact I
      obtain rfl|A:=r_.1 A
      .exact I
      .exact V x A⟩ (.inl rfl) (λz H u=>by simp[G,stepG,stepG.exec])
    |exit id=>
     cases A:exitTo id k with
     |none=>simp[G,stepG,stepG.exec,A]at h
     |some k'=>
      exact CQ T O h (Ew:=Frame.mk fn tmps k' y .run kind none) ⟨K,M,C,J,rfl,λx GL=>V x (Uu A x GL)⟩ (.inl rfl) (λz H u=>by simp[G,stepG,stepG.exec,A])
    |region id B draw=>
     have hr:∀l:List Nat,∀x∈(Item.inRegion B l::k),x.EY (p fn)=true:=λl x A=>by
      obtain rfl|A:=r_.1 A
      .exact I
      .exact V x A
     cases draw with
     |false=>exact CQ T O h (Ew:=Frame.mk fn tmps (.inRegion B (List.range B.size)::k) y .run kind none) ⟨K,M,C,J,rfl,hr _⟩ (.inl rfl) (λz H u=>by simp[G,stepG,stepG.exec])
     |true=>
      have hs:∀z H (u:o_),stepG P z (G (Frame.mk fn tmps (.code (.region id B true)::k) y .run kind none) (pre++H)) u=
        .go (G (Frame.mk fn tmps (.inRegion B (Region.schedule (P.follows .mixedOrders) B (u.tape u.drawn (.order fn id)))::k) y .run kind none) (pre++H)) {u with drawn:=u.drawn+1} #[]:=λz H u=>by
       simp[G,stepG,stepG.exec,choose,Sem.run,Question.forced,Question.cut]
      have e:=hs true [] v
      rw[List.append_nil]at e
      rw[e]at h
      injection h with R S U
      subst R S U
      have Y:=LX 0 sJ (.order fn id)
      refine⟨_,pre,{w with drawn:=w.drawn+1},rfl,⟨K,M,C,J,rfl,hr _⟩,.inl rfl,O,λ_ h _=>h,sJ,rfl,w_,⟨T.size,T.same,T.dead,T.plain,T.os,T.output,T.KN,T.kept,T.ax⟩,λ_ _=>rfl,rfl,sJ,sJ,λz H=>?_⟩
      rw[hs z H w]
      simp only[Nat.add_zero]at Y
      rw[Y]
   |inRegion B l=>
    have hr:∀l:List Nat,∀x∈(Item.inRegion B l::k),x.EY (p fn)=true:=λl x A=>by
     obtain rfl|A:=r_.1 A
     .exact I
     .exact V x A
    cases l with
    |nil=>exact CQ T O h (Ew:=Frame.mk fn tmps k y .run kind none) ⟨K,M,C,J,rfl,V⟩ (.inl rfl) (λz H u=>by simp[G,stepG,stepG.exec])
    |cons i E=>
     have Q:FQ P L p (Frame.mk fn tmps (.inRegion B (i::E)::k) y .run kind none):=⟨K,M,C,J,rfl,h5⟩
     by_cases Y:((B[i]?).map (Region.wanted · (yielded B tmps))).getD false=true
     .cases ho:B[i]? with
      |none=>rw[ho]at Y;simp at Y
      |some o=>
       have hpo:p fn o=true:=by
        simp only[Item.EY,Array.all_eq_true]at I
        obtain⟨BL,rfl⟩:=y_.1 ho
        exact I i BL
       rw[NT ho]at hab
       have ht:=F.op fn o hpo _ v T.plain hab
       rw[ho]at Y
       have Jm:∀z H (u:o_),stepG P z (G (Frame.mk fn tmps (.inRegion B (i::E)::k) y .run kind none) (pre++H)) u=
         stepG.apply P true (Frame.mk fn tmps (.inRegion B (i::E)::k) y .run kind none) (pre++H) none (execOp (Frame.mk fn tmps (.inRegion B (i::E)::k) y .run kind none).eval o) u:=λz H u=>by
        simp only[Option.map_some,Option.getD_some]at Y
        simp[G,stepG,stepG.exec,stepG.oper,Frame.oper?,ho,Y]
       refine Xq ht T hZ LX fn (λn=>match n with
        |.value x=>((Frame.mk fn tmps (.inRegion B (i::E)::k) y .run kind none).finish x,pre)
        |.enter f args=>(Frame.enter P f args .normal,Frame.mk fn tmps (.inRegion B (i::E)::k) y .run kind none::pre)
        |.defer d=>((Frame.mk fn tmps (.inRegion B (i::E)::k) (d::y) .run kind none).finish undef,pre)
        |_=>((Frame.mk fn tmps (.inRegion B (i::E)::k) y .run kind none).finish undef,pre)) ?_ hg ?_ ?_
       .intro n hn cy3;clear cy3;cases n<;>first|exact hn.elim|skip
        .exact⟨Hz Q _,.inl (Gz _ _),Og.GR (Sr _ _) (OJ _ _),λ_ h _=>h⟩
        .exact⟨Hz Q _,.inl (Gz _ _),Og.GR (Sr _ _) (OJ _ _),λ_ h _=>h⟩
        .exact⟨O5 F hn _ (.inl rfl),.inl rfl,⟨Q,.inl ⟨rfl,rfl⟩,Og⟩,λ_ h _=>List.mem_cons_of_mem _ h⟩
        .rename_i d;have hfo:FQ P L p (Frame.mk fn tmps (.inRegion B (i::E)::k) (d::y) .run kind none):=by
          refine⟨K,λhd=>?_,λx A=>?_,J,rfl,h5⟩
          .simp only at hd;have hn1:=hn.1;rw[hd]at hn1;cases hn1
          .obtain rfl|A:=r_.1 A
           .exact hn.2
           .exact C x A
         exact⟨Hz hfo _,.inl (Gz _ _),Og.GR (Sr _ _) (OJ _ _),λ_ h _=>h⟩
       .have e:=Jm true [] v;rw[List.append_nil]at e;rw[e]at h;cases Ia:(execOp (Frame.mk fn tmps (.inRegion B (i::E)::k) y .run kind none).eval o).runT P v #[]with
        |mk r Oa=>
         cases r with
         |ok n v1=>
          refine⟨n,v1,Oa,rfl,?_⟩
          have hn:FC L (su fn) n:=by
           obtain⟨_,_,hK,_⟩:=UN (Od:=ND) (Z:=Z) ht (v:=v) (w:=v.re v.tape v.drawn) (@Yr.mk ND _ _ _ rfl (λ_ _ _=>rfl) T.dead T.plain rfl rfl (λ_ h=>False.elim h) (λ_ h=>False.elim h) (λ_ h=>False.elim h)) hZ Ia (λ_ _ _=>rfl)
           exact hK
          cases n<;>first|exact hn.elim|skip
          all_goals
           simp only[stepG.apply,Ia,if_true,GStep.after,kL,hke,jb,if_false]at h
           injection h with R S U
           exact⟨R.symm,S.symm,U.symm⟩
         |halt hh v1=>
          have hd:=jD ht T.plain Ia
          exfalso
          cases hh with
          |panic x=>
           simp only[stepG.apply,Ia,if_true,GStep.after]at h
           injection h with R S U
           exact hg _ (by rw[<-R];rfl)
          |stuck x=>simp only[stepG.apply,Ia,if_true,GStep.after,reduceCtorEq]at h
          |unsupported x=>
           cases x with
           |initOrder g=>simp[Halt.LD]at hd
           |_=>simp only[stepG.apply,Ia,if_true,GStep.after,reduceCtorEq]at h
          |_=>simp[Halt.LD]at hd
       .intro z H u n u1 Oa hu hn;rw[Jm];cases n<;>first|exact hn.elim|skip
        all_goals
         simp only[stepG.apply,hu,if_true,GStep.after,kL,hke,jb,if_false]
         rfl
     .have hw':((B[i]?).map (Region.wanted · (yielded B tmps))).getD false=false:=(by simpa using Y);exact CQ T O h (Ew:=(Frame.mk fn tmps (.inRegion B (i::E)::k) y .run kind none).finish undef) (Hz Q _) (.inl (Gz _ _)) (λz H u=>by
       simp[G,stepG,stepG.exec,hw'])
 .simp only at hm;subst hm;cases pre with
  |nil=>exact qx rfl CX
  |cons c pre=>
   obtain⟨fn0,N,hin⟩:=K
   obtain⟨hc,W,hbp⟩:=Og
   simp only at W
   cases y with
   |cons d ds=>
    obtain⟨f,cap,htg,hLf⟩:=C d (List.mem_cons_self ..)
    obtain⟨fnb,cb,JU,Iq,hb3,_⟩:=F.body f hLf
    obtain⟨tg,ar⟩:=d
    simp only at htg
    subst htg
    have hinv:∀u:o_,(invoke (.fn (.func f) cap) ar).runT P u #[]=(.ok (.enter f (ar++cap)) u,#[]):=λu=>by
     simp only[invoke,callFunc,program,bind,Sem.bind,Sem.runT,JU,Iq,hb3,pure]
     rfl
    have hs:∀z H (u:o_),stepG P z (G (Frame.mk fn tmps X (⟨.fn (.func f) cap,ar⟩::ds) .returning kind none) (c::pre++H)) u=
      .go (G (Frame.enter P f (ar++cap) .deferred) (Frame.mk fn tmps X ds .returning kind none::c::pre++H)) u #[]:=λz H u=>by
     simp only[G,stepG,unwind,callDeferred,hinv,GStep.after]
     simp[seen]
    have e:=hs true [] v
    rw[List.append_nil,List.append_nil]at e
    rw[e]at h
    injection h with R S U
    subst R S U
    exact⟨_,_,w,rfl,O5 F hLf _ (.inr rfl),.inl rfl,⟨⟨⟨fn0,N,hin⟩,λhd=>(by cases M hd),λx A=>C x (List.mem_cons_of_mem _ A),J,rfl,h5⟩,.inr ⟨rfl,.inl rfl⟩,hc,W,hbp⟩,λ_ h _=>List.mem_cons_of_mem _ h,
     w_,rfl,w_,T,λ_ _=>rfl,rfl,sJ,sJ,λz H=>hs z H w⟩
   |nil=>
    refine Xq ((Vr (fn:=fn0) (tmps:=tmps)).here v) T hZ LX fn (λx=>((if kind=.normal then c.finish x else c),pre)) (λx _ rM=>?_) hg ?_ ?_
    .obtain⟨rfl,D⟩|⟨rfl,D⟩:=W
     .simp only[if_true];exact⟨Hz hc _,.inl ((Gz _ _).trans D),hbp.GR (Sr _ _) (OJ _ _),λx A hpx=>by
       obtain rfl|A:=r_.1 A
       .obtain⟨a,b,e,_⟩:=hpx;rw[D]at e;cases e
       .exact A⟩
     .simp only[reduceCtorEq,if_false]at rM ⊢;obtain D|⟨a,b,e,_⟩:=D
      .exact⟨hc,.inr D,hbp,λx A hpx=>by
        obtain rfl|A:=r_.1 A
        .obtain⟨a,b,e,_⟩:=hpx;rw[D]at e;cases e
        .exact A⟩
      .exact(rM _ e).elim
    .cases Ia:(results fn0 tmps).runT P v #[]with
     |mk r Oa=>
      cases r with
      |ok x v1=>
       refine⟨x,v1,Oa,rfl,?_⟩
       obtain⟨rfl,D⟩|⟨rfl,D⟩:=W
       .simp only[G,stepG,unwind,N,Ia,doReturn,GStep.after,kL]at h;injection h with R S U;exact⟨R.symm,S.symm,U.symm⟩
       .have h0:g'=G c pre/\v'=v1/\es=seen P fn Oa:=by
         obtain D|⟨⟨pv,rc,ge⟩,b,e,e1,e2⟩:=D
         .simp only[G,stepG,unwind,N,Ia,doReturn,GStep.after,kL,D]at h;injection h with R S U;exact⟨R.symm,S.symm,U.symm⟩
         .simp only at e1 e2;subst e1 e2;simp only[G,stepG,unwind,N,Ia,doReturn,GStep.after,kL,e]at h;injection h with R S U;exact⟨R.symm,S.symm,U.symm⟩
        simpa using h0
      |halt hh v1=>
       exfalso
       simp only[G,stepG,unwind,N,Ia]at h
       cases hh<;>simp[GStep.after]at h
    .intro z H u x u1 Oa hu _;obtain⟨rfl,D⟩|⟨rfl,D⟩:=W
     .simp only[G,stepG,unwind,N,hu,doReturn,GStep.after,kL,List.cons_append,if_true]
     .obtain D|⟨⟨pv,rc,ge⟩,b,e,e1,e2⟩:=D
      .simp only[G,stepG,unwind,N,hu,doReturn,GStep.after,kL,List.cons_append,D,reduceCtorEq,if_false]
      .simp only at e1 e2;subst e1 e2;simp only[G,stepG,unwind,N,hu,doReturn,GStep.after,kL,List.cons_append,e,reduceCtorEq,if_false]
end
def Alike (v w:o_):Prop:=∀j q,w.tape (w.drawn+j) q=v.tape (v.drawn+j) q
structure ER (v w:o_):Prop where
 heap:w.heap=v.heap
 os:w.os=v.os
 output:w.output=v.output
 alike:Alike v w
def mQ {α:Type}(w:o_)(v:o_):Result α->Result α->Prop
 |.ok a v1,.ok b w1=>a=b/\ER v1 w1/\w1.tape=w.tape/\v1.tape=v.tape
 |.halt h v1,.halt h' w1=>h=h'/\ER v1 w1/\w1.tape=w.tape/\v1.tape=v.tape
 |_,_=>False
section
variable {P:l_}
theorem ER.drew (h:ER v w):ER {v with drawn:=v.drawn+1} {w with drawn:=w.drawn+1}:=by
 refine⟨h.heap,h.os,h.output,λj q=>?_⟩;have:=h.alike (j+1) q;simp only;rw[show w.drawn+1+j=w.drawn+(j+1)from by omega,show v.drawn+1+j=v.drawn+(j+1)from by omega];exact this
theorem ER.cell (h:ER v w)(a:f_):w.cell? a=v.cell? a:=by unfold World.cell?;rw[h.heap]
theorem ER.frozen (h:ER v w)(a:f_):w.frozen? a=v.frozen? a:=by unfold World.frozen?;rw[h.heap]
theorem ER.shape (h:ER v w)(a:Nat):w.shape? a=v.shape? a:=by unfold World.shape?;rw[h.heap]
theorem ER.heap' (h:ER v w)(a:Array Obj):ER {v with heap:=a} {w with heap:=a}:=⟨rfl,h.os,h.output,h.alike⟩
theorem ER.seen (h:ER v w)(at_:f_)(u:j_)(k:f_)(b:Bool):w.seen P at_ u k b=v.seen P at_ u k b:=by unfold World.seen;rw[h.heap]
theorem ER.farLoad (h:ER v w)(a:f_)(b:Bool):w.farLoad P a b=v.farLoad P a b:=by
 unfold World.farLoad World.noCell World.viewLoad;simp only[h.heap,h.seen]
theorem ER.farStore (h:ER v w)(a:f_)(x:n_)(b:Bool):
  (∃e,v.farStore P a x b=.error e/\w.farStore P a x b=.error e)\/
  (∃p l,v.farStore P a x b=.ok ({v with heap:=p},l)/\w.farStore P a x b=.ok ({w with heap:=p},l)):=by
 have key:∀at_ u,(∃e,v.viewStore P at_ u a x b=.error e/\w.viewStore P at_ u a x b=.error e)\/
   (∃p l,v.viewStore P at_ u a x b=.ok ({v with heap:=p},l)/\w.viewStore P at_ u a x b=.ok ({w with heap:=p},l)):=by
  intro at_ u
  unfold World.viewStore
  rw[h.seen,h.heap]
  cases ht:tight P P.depth u with
  |false=>exact .inl ⟨_,rfl,rfl⟩
  |true=>
   cases hs:v.seen P at_ u a b with
   |error e=>exact .inl ⟨_,rfl,rfl⟩
   |ok r=>
    obtain⟨c,e,f,first,d,cells⟩:=r
    cases hb:x.bytes? with
    |none=>exact .inl ⟨_,rfl,rfl⟩
    |some bytes=>
     by_cases k:some bytes.length≠d.bytes?.map (·.length)
     .refine .inl ⟨ "memory seen as another type: a value of another size",?_,?_⟩ <;>
       .simp only[Bool.not_true,jb,if_false];show(if some bytes.length≠d.bytes?.map (·.length)then _ else _)=_;rw[rW k];rfl
     .generalize m:(cells.foldlM (init:=c) λc (x:Nat×Nat×List UInt8)=>(do
        if x.2.1<first || x.2.1+x.2.2.length>first+bytes.length then MonadExcept.throw "memory seen as another type: a part of a cell written"
        if f.1<=x.1 && x.1<f.2 then MonadExcept.throw "a write to bytes that a string shares"
        let some old:=c[x.1]? | MonadExcept.throw "memory seen as another type: no such cell"
        let some new:=old.ofBytes ((bytes.drop (x.2.1-first)).take x.2.2.length)|MonadExcept.throw "memory seen as another type: a bool from a byte other than 0 or 1"
        pure (c.setIfInBounds x.1 new):Except String (X_)))=folded;cases folded with
      |error o=>
       refine .inl ⟨o,?_,?_⟩ <;>
       .simp only[Bool.not_true,jb,if_false];show(if some bytes.length≠d.bytes?.map (·.length)then _ else _)=_;rw[ru k];show((cells.foldlM _ c:Except String (X_))>>= _)=_;erw [m]
        rfl
      |ok n=>
       refine .inr ⟨v.heap.setIfInBounds at_.block (.cells n e f),cells.map λ(i,_,_)=>{ block:=at_.block,off:=i},?_,?_⟩ <;>
       .simp only[Bool.not_true,jb,if_false];show(if some bytes.length≠d.bytes?.map (·.length)then _ else _)=_;rw[ru k];show((cells.foldlM _ c:Except String (X_))>>= _)=_;erw [m]
        rfl
 unfold World.farStore World.noCell;rw[h.heap];split
 .rename_i at_ u _;obtain⟨e,g,j⟩|⟨p,l,g,j⟩:=key at_ u
  .rw[g,j];exact .inl ⟨_,rfl,rfl⟩
  .rw[g,j];exact .inr ⟨_,_,rfl,rfl⟩
 .exact .inl ⟨_,rfl,rfl⟩
theorem ER.ask {β:Type}(k:Ask β):∀{v w:o_},ER v w->(w.ask k).1=(v.ask k).1/\ER (v.ask k).2 (w.ask k).2/\(w.ask k).2.tape=w.tape/\(v.ask k).2.tape=v.tape:=by
 induction k with
 |done a=>intro v w h;exact⟨rfl,h,rfl,rfl⟩
 |ask b range k c=>
  intro v w h
  unfold World.ask
  simp only
  split
  .exact c _ h
  .have e:=h.alike 0 (Question.extern b range);simp only[Nat.add_zero]at e;rw[e];exact c _ h.drew
theorem ER.sys (h:ER v w)(c:Sys):(w.sys c).1=(v.sys c).1/\ER (v.sys c).2 (w.sys c).2/\(w.sys c).2.tape=w.tape/\(v.sys c).2.tape=v.tape:=by
 have key:=ER.ask (Kernel.perform c v.os) h;unfold World.sys;rw[h.os]
 revert key
 cases hv:v.ask (Kernel.perform c v.os)with
 |mk r v1=>
  cases hw:w.ask (Kernel.perform c v.os)with
  |mk b w1=>
   rintro⟨rfl,k2,k3,a⟩
   obtain⟨d,e⟩:=b
   cases d<;>first
    |exact⟨rfl,h,rfl,rfl⟩
    |exact⟨rfl,⟨k2.heap,rfl,k2.output,k2.alike⟩,k3,a⟩
theorem fD (e:Sem α):∀{v w:o_},ER v w->mQ w v (e.run P v) (e.run P w):=by
 induction e with
 |pure a=>intro v w h;exact⟨rfl,h,rfl,rfl⟩
 |load m a k b=>
  intro v w h
  simp only[Sem.run,h.cell,h.farLoad]
  split
  .exact b _ h
  .split
   .exact b _ h
   .exact⟨rfl,h,rfl,rfl⟩
 |store m a x k b=>
  intro v w h
  have d:(∀u:o_,(Sem.store m a x k).run P u=(match u.cell? a with
    |some _=>if u.frozen? a then Result.halt (.unsupported (.unsafePointer "a write to bytes that a string shares")) u else k.run P (u.setCell a x)
    |none=>match u.farStore P a x (m==.atomic)with
     |.ok (w,_)=>k.run P w
     |.error h=>.halt h u))\/∃s,∀u:o_,(Sem.store m a x k).run P u=.halt (.stuck s) u:=by
   cases x<;>first|exact .inl λ_=>rfl|exact .inr ⟨_,λ_=>rfl⟩
  obtain d|⟨s,i⟩:=d
  case inr=>rw[i,i];exact⟨rfl,h,rfl,rfl⟩
  rw[d,d,h.cell,h.frozen]
  split
  .split
   .exact⟨rfl,h,rfl,rfl⟩
   .have:w.setCell a x={w with heap:=(v.setCell a x).heap}:=(by unfold World.setCell;rw[h.heap]);rw[this];exact b (h.heap' _)
  .obtain⟨e,f,g⟩|⟨A,l,f,g⟩:=h.farStore (P:=P) a x (m==.atomic)
   .rw[f,g];exact⟨rfl,h,rfl,rfl⟩
   .rw[f,g];exact b (h.heap' _)
 |new o k b=>intro v w h;simp only[Sem.run,h.heap];exact b _ (h.heap' _)
 |shape r k b=>intro v w h;simp only[Sem.run,h.shape];exact b _ h
 |freeze a n k b=>
  intro v w h
  simp only[Sem.run]
  by_cases j:n=0
  .simp only[World.freeze,j,if_true];exact b h
  .have:w.freeze a n={w with heap:=(v.freeze a n).heap}:=(by unfold World.freeze;simp only[j,if_false,h.heap]);rw[this];have i:v.freeze a n={v with heap:=(v.freeze a n).heap}:=(by unfold World.freeze;simp only[j,if_false]);have:=b (v:=v.freeze a n) (w:={w with heap:=(v.freeze a n).heap}) (by rw[i];exact h.heap' _);have y:(v.freeze a n).tape=v.tape:=(by rw[i]);unfold mQ at this ⊢;rw[y]at this;exact this
 |frozen a k b=>intro v w h;simp only[Sem.run,h.frozen];exact b _ h
 |getObj r k b=>
  intro v w h
  simp only[Sem.run,h.heap]
  split
  .exact⟨rfl,h,rfl,rfl⟩
  .exact b _ h
  .exact⟨rfl,h,rfl,rfl⟩
 |setObj r o k b=>
  intro v w h
  simp only[Sem.run,h.heap]
  split
  .exact⟨rfl,h,rfl,rfl⟩
  .exact b (h.heap' _)
  .exact⟨rfl,h,rfl,rfl⟩
 |choose q k b=>
  intro v w h
  simp only[Sem.run]
  split
  .exact b _ h
  .have e:=h.alike 0 q;simp only[Nat.add_zero]at e;rw[e];exact b _ h.drew
 |sys c k b=>
  intro v w h
  obtain⟨f,g,p,t⟩:=h.sys c
  simp only[Sem.run,f]
  have:=b (v.sys c).1 g
  unfold mQ at this ⊢
  rw[p,t]at this
  exact this
 |program k b=>intro v w h;exact b _ h
 |mark m k b=>intro v w h;exact b h
 |halt z=>intro v w h;exact⟨rfl,h,rfl,rfl⟩
theorem VA (h:ER v w)(n:Nat)(u:j_)(x:n_)(name:String):
  (∃f y v1 w1,(method n u x name).run P v=.ok (f,y) v1/\(method n u x name).run P w=.ok (f,y) w1)\/(∃a v1 b w1,(method n u x name).run P v=.halt a v1/\(method n u x name).run P w=.halt b w1):=by
 have:=fD (P:=P) (method n u x name) h
 revert this
 cases (method n u x name).run P v<;>cases (method n u x name).run P w<;>simp only[mQ,false_implies]
 .rintro⟨rfl,_⟩;exact .inl ⟨_,_,_,_,rfl,rfl⟩
 .intro _;exact .inr ⟨_,_,_,_,rfl,rfl⟩
theorem Xl (h:ER v w)(t:Target)(args:X_):t.leads P w args=t.leads P v args:=by
 unfold Target.leads;cases t with
 |fn f cap=>
  cases f with
  |method name=>
   simp only
   split
   .rename_i u x _;obtain⟨f,y,v1,w1,e1,e2⟩|⟨a,v1,b,w1,e1,e2⟩:=VA (P:=P) h (P.types.size+Made.depth) u x name<;>rw[e1,e2]
   .rfl
  |methodOf u name=>
   simp only
   split
   .rename_i u x _;obtain⟨f,y,v1,w1,e1,e2⟩|⟨a,v1,b,w1,e1,e2⟩:=VA (P:=P) h (P.types.size+Made.depth) u x name<;>rw[e1,e2]
   .rfl
  |_=>rfl
 |_=>rfl
theorem rG (h:ER v w)(ρ:Operand->n_)(o:Oper):o.about P w ρ=o.about P v ρ:=by
 unfold Oper.about;split
 .rename_i c _;have:=fD (P:=P) (resolve ρ c o.type) h
  revert this
  cases (resolve ρ c o.type).run P v<;>cases (resolve ρ c o.type).run P w<;>simp only[mQ,false_implies]
  .rintro⟨rfl,a,_⟩;exact Xl a _ _
  .intro _;trivial
 .rfl
end
end Go.Fxa
