/- From 'on every tape the lone r -/
import Derived.Test.YtmhplpfpcnjekaaGreatA02
import Derived.CallsIn
import Derived.Conc.Own4
import Derived.KernelRfl
namespace Go.Fxa
open Go.Conc
structure Good (P:Program) (L:FuncId->Prop) (p:FuncId->Oper->Bool) (fr:Frame) (pre:Z_) (v:World):Prop where
 ok:Ei P L p fr
 below:Below P L p fr pre
 mode:fr.mode=.run\/(fr.mode=.returning/\pre≠[])
 about:∀f,fr.about P v=some f->L f\/Ext P f
 plain:∀(r:Nat) (o:Obj),v.heap[r]?=some o->o.plain=true
def FL (P:Program) (fr:Frame) (pre:Z_) (v:World) (Di:Frame) (BV:Z_) (v':World):Prop:=
 ∃es,stepG P true (G fr pre) v=.go (G Di BV) v' es/\∀ch,Di.mode≠.panicking ch
def Ox (P:Program) (L:FuncId->Prop) (p:FuncId->Oper->Bool) (S:Frame->Z_->World->Prop):Nat->Frame->Z_->World->Prop
 | 0,fr,pre,v=>S fr pre v
 | n+1,fr,pre,v=>S fr pre v\/(Good P L p fr pre v/\∃Di BV v',FL P fr pre v Di BV v'/\Ox P L p S n Di BV v')
def gy (S:Frame->Z_->World->Prop):Prop:=∀fr pre (v w:World),w.heap=v.heap->w.os=v.os->w.output=v.output->S fr pre v->S fr pre w
def Always (P:Program) (L:FuncId->Prop) (p:FuncId->Oper->Bool) (S:Frame->Z_->World->Prop) (fr:Frame) (pre:Z_) (v:World):Prop:=
 ∀τ d,∃n,Ox P L p S n fr pre (v.re τ d)
def Fin (P:Program) (L:FuncId->Prop) (p:FuncId->Oper->Bool) (S:Frame->Z_->World->Prop) (fr:Frame) (pre:Z_) (v:World):Prop:=
 ∀C:Frame->Z_->World->Prop,(∀fr pre v,S fr pre v->C fr pre v)->
  (∀fr pre v,(∀τ d,Good P L p fr pre (v.re τ d)/\∃Di BV v',FL P fr pre (v.re τ d) Di BV v'/\C Di BV v')->C fr pre v)->C fr pre v
section
variable {P:Program} {L:FuncId->Prop} {p:FuncId->Oper->Bool} {S:Frame->Z_->World->Prop}
theorem FL.det {fr:Frame} {pre:Z_} {v:World} {fr1 WB:Frame} {sZ mh:Z_} {v1 v2:World} (h:FL P fr pre v fr1 sZ v1) (h':FL P fr pre v WB mh v2):
  fr1=WB/\sZ=mh/\v1=v2:=by
 obtain⟨es,e,_⟩:=h;obtain⟨BQ,e',_⟩:=h';rw[e]at e';injection e' with e1 e2 e3;simp only[G,Goroutine.mk.injEq]at e1;exact⟨e1.1,e1.2.1,e2⟩
theorem Np {v w:World} (h:w.heap=v.heap) (ho:w.os=v.os) (hu:w.output=v.output) (hp:∀(r:Nat) (o:Obj),v.heap[r]?=some o->o.plain=true):Twin JG (fun _=>False) v w:=
 @Twin.mk JG _ _ _ (by rw[h]) (fun r _ _=>by rw[h]) (fun _ hz=>hz.elim) hp ho.symm hu.symm (fun _ h=>False.elim h) (fun _ h=>False.elim h) (fun _ h=>False.elim h)
theorem VV {v w:World} (T:Twin JG (fun _=>False) v w):w=v.re w.tape w.drawn:=by
 have hh:w.heap=v.heap:=by
  apply Array.ext_getElem?
  intro i
  exact(T.same i id id).symm
 obtain⟨h,t,d,o,u⟩:=w;simp only[World.re];simp only at hh;have h1:=T.os;have h2:=T.output;simp only at h1 h2;rw[hh,h1,h2]
theorem Kl (F:Mi P L p) {fr:Frame} {pre:Z_} {v v':World} {Di:Frame} {BV:Z_} {τ τ':Nat->Question->Nat} {d d':Nat} (hg:Good P L p fr pre (v.re τ d)) (h:FL P fr pre (v.re τ d) Di BV v')
  (I6:∀j,j<v'.drawn-d->∀q,τ' (d'+j) q=τ (d+j) q):d<=v'.drawn/\v'.tape=τ/\FL P fr pre (v.re τ' d') Di BV (v'.re τ' (d'+(v'.drawn-d))):=by
 obtain⟨es,hs,hn⟩:=h;obtain⟨WB,mh,w',e,hf,hm,hp,_,h1,h2,h3,T',_,h4,h5,h6,h7⟩:=Lx (Od:=JG) F (Z:=fun _=>False) (w:=v.re τ' d') hg.ok hg.below hg.mode hg.about (Np rfl rfl rfl hg.plain) (fun _ h=>h.elim) hs hn I6;simp only[G,Goroutine.mk.injEq]at e;obtain⟨rfl,rfl,_⟩:=e;refine⟨h1,h2,es,?_,hn⟩;have e7:=h7 true [];rw[List.append_nil,List.append_nil]at e7;rw[e7,VV T',h4,h5]
 rfl
theorem P9 {fr:Frame} (F3:Ei P L p fr) (hm:fr.mode=.run\/fr.mode=.returning) {v w:World} (h:Dy v w):fr.about P w=fr.about P v:=by
 obtain⟨fn,tmps,todo,defers,mode,kind,ro⟩:=fr;obtain⟨h1,h2,h2',h3,h4,h5⟩:=F3;simp only at h1 h2 h2' h3 h4 h5 hm;subst h4;rcases hm with rfl|rfl
 ·cases todo with
  | nil=>rfl
  | cons it k=>
   have Gb:=h5 it (List.mem_cons_self ..)
   cases it with
   | inRegion ops l=>
    cases l with
    | nil=>rfl
    | cons i rest=>
     cases ho:ops[i]? with
     | none=>simp only[Frame.about,ho]
     | some o=>rw[JQ ho,JQ ho];exact Zb h _ _
   | code c=>cases c<;>first|rfl|(simp[Item.DJ,Code.A9]at Gb;done)
   | call a b c d=>simp[Item.DJ]at Gb
   | _=>rfl
 ·cases defers with
  | nil=>rfl
  | cons d ds=>
   obtain⟨f,cap,e,_⟩:=h2' d (List.mem_cons_self ..)
   simp only[Frame.about,QS h]
theorem SX (F:Mi P L p) (hS:gy S):∀(n:Nat) {fr:Frame} {pre:Z_} {v w:World},Ox P L p S n fr pre v->Dy v w->Ox P L p S n fr pre w
 | 0,_,_,_,_,h,hs=>hS _ _ _ _ hs.heap hs.os hs.output h
 | n+1,fr,pre,v,w,h,hs=>by
  rcases h with h|⟨hg,Di,BV,v',h1,h2⟩
  ·exact .inl (hS _ _ _ _ hs.heap hs.os hs.output h)
  ·refine .inr ⟨⟨hg.ok,hg.below,hg.mode,?_,by rw[hs.heap];exact hg.plain⟩,?_⟩
   ·rw[P9 hg.ok (hg.mode.imp id (·.1)) hs];exact hg.about
   ·have hw:w=v.re w.tape w.drawn:=by
     obtain⟨a,b,c,d,e⟩:=w
     simp only[World.re]
     have q1:=hs.heap
     have q2:=hs.os
     have q3:=hs.output
     simp only at q1 q2 q3
     rw[q1,q2,q3]
    have ag3:v=v.re v.tape v.drawn:=rfl;obtain⟨k1,k2,k3⟩:=Kl F (v:=v) (τ:=v.tape) (d:=v.drawn) (τ':=w.tape) (d':=w.drawn) (by rw[<-ag3];exact hg) (by rw[<-ag3];exact h1) (fun j _ q=>hs.alike j q);refine⟨Di,BV,v'.re w.tape (w.drawn+(v'.drawn-v.drawn)),by rw[hw];exact k3,SX F hS n h2 ⟨rfl,rfl,rfl,fun j q=>?_⟩⟩;show w.tape (w.drawn+(v'.drawn-v.drawn)+j) q=v'.tape (v'.drawn+j) q;rw[k2,show w.drawn+(v'.drawn-v.drawn)+j=w.drawn+((v'.drawn-v.drawn)+j)from by omega,hs.alike,show v.drawn+(v'.drawn-v.drawn+j)=v'.drawn+j from by omega]
theorem Za (F:Mi P L p) (hS:gy S) {fr:Frame} {pre:Z_} {v:World} (h:Always P L p S fr pre v) (hn:¬S fr pre v) (τ:Nat->Question->Nat) (d:Nat):
  Good P L p fr pre (v.re τ d)/\∃Di BV v',FL P fr pre (v.re τ d) Di BV v'/\Always P L p S Di BV v':=by
 have hnot:∀τ d,¬S fr pre (v.re τ d):=fun τ d hs=>hn (hS _ _ (v.re τ d) _ rfl rfl rfl hs)
 have one:∀τ d,∃n,Good P L p fr pre (v.re τ d)/\∃Di BV v',FL P fr pre (v.re τ d) Di BV v'/\Ox P L p S n Di BV v':=by
  intro τ d
  obtain⟨n,hp⟩:=h τ d
  cases n with
  | zero=>exact(hnot τ d hp).elim
  | succ n=>
   rcases hp with hp|hp
   ·exact(hnot τ d hp).elim
   ·exact⟨n,hp⟩
 obtain⟨n,hg,Di,BV,v',h1,h2⟩:=one τ d;refine⟨hg,Di,BV,v',h1,fun τ' d'=>?_⟩;have hk:d<=v'.drawn:=(Kl F hg h1 (τ':=τ) (d':=d) (fun _ _ _=>rfl)).1;obtain⟨n2,hg2,WB,mh,v2,k1,k2⟩:=one (fun i q=>if i<v'.drawn then τ i q else τ' (d'+(i-v'.drawn)) q) d;obtain⟨_,_,k3⟩:=Kl F hg h1 (τ':=fun i q=>if i<v'.drawn then τ i q else τ' (d'+(i-v'.drawn)) q) (d':=d) (fun j hj q=>by rw[if_pos (by omega)]);obtain⟨rfl,rfl,rfl⟩:=k1.det k3;refine⟨n2,SX F hS n2 k2 ⟨rfl,rfl,rfl,fun j q=>?_⟩⟩;show τ' (d'+j) q=(if d+(v'.drawn-d)+j<v'.drawn then τ (d+(v'.drawn-d)+j) q else τ' (d'+(d+(v'.drawn-d)+j-v'.drawn)) q);rw[if_neg (by omega),show d'+(d+(v'.drawn-d)+j-v'.drawn)=d'+j from by omega]
theorem Sj {fr:Frame} {pre:Z_} {v:World} (h:S fr pre v):Fin P L p S fr pre v:=fun _ h1 _=>h1 _ _ _ h
theorem qY {fr:Frame} {pre:Z_} {v:World} (h:∀τ d,Good P L p fr pre (v.re τ d)/\∃Di BV v',FL P fr pre (v.re τ d) Di BV v'/\Fin P L p S Di BV v'):Fin P L p S fr pre v:=
 fun C h1 h2=>h2 _ _ _ fun τ d=>⟨(h τ d).1,let ⟨Di,BV,v',a,b⟩:=(h τ d).2;⟨Di,BV,v',a,b C h1 h2⟩⟩
theorem aa9 {α:Type} (x0:α) (R:α->α->Prop) (h:∀x,∃y,R x y):∃f:Nat->α,f 0=x0/\∀n,R (f n) (f (n+1)):=by
 obtain⟨g,hg⟩:=Classical.axiomOfChoice h;exact⟨fun n=>Nat.rec x0 (fun _ y=>g y) n,rfl,fun n=>hg _⟩
theorem fA (F:Mi P L p) (hS:gy S) {fr:Frame} {pre:Z_} {v:World} (h:Always P L p S fr pre v):Fin P L p S fr pre v:=by
 refine Classical.byContradiction fun hbad=>?_
 let St:={ x:Frame×Z_×World // Always P L p S x.1 x.2.1 x.2.2/\¬Fin P L p S x.1 x.2.1 x.2.2 }
 have next:∀x:St,∃y:St,∃τ d,Good P L p x.1.1 x.1.2.1 (x.1.2.2.re τ d)/\FL P x.1.1 x.1.2.1 (x.1.2.2.re τ d) y.1.1 y.1.2.1 y.1.2.2:=by
  rintro⟨⟨fr,pre,v⟩,ha,hb⟩
  have hns:¬S fr pre v:=fun hs=>hb (Sj hs)
  refine Classical.byContradiction fun hno=>hb (qY fun τ d=>?_)
  obtain⟨hg,Di,BV,v',h1,h2⟩:=Za F hS ha hns τ d
  refine⟨hg,Di,BV,v',h1,Classical.byContradiction fun hnf=>hno ⟨⟨(Di,BV,v'),h2,hnf⟩,τ,d,hg,h1⟩⟩
 obtain⟨f,f0,hf⟩:=aa9 (α:=St) ⟨(fr,pre,v),h,hbad⟩ _ next
 obtain⟨τs,hτ⟩:=Classical.axiomOfChoice hf;obtain⟨ds,hd⟩:=Classical.axiomOfChoice hτ
 let D:Nat->Nat:=fun i=>Nat.rec 0 (fun i n=>n+((f (i+1)).1.2.2.drawn-ds i)) i
 have D0:D 0=0:=rfl;have Ds:∀i,D (i+1)=D i+((f (i+1)).1.2.2.drawn-ds i):=fun _=>rfl
 have Dm:∀i j,i<=j->D i<=D j:=by
  intro i j hij
  induction hij with
  | refl=>exact Nat.le_refl _
  | step _ ih=>exact Nat.le_trans ih (by rw[Nat.succ_eq_add_one,Ds];omega)
 have Du:∀n i j,D i<=n->n<D (i+1)->D j<=n->n<D (j+1)->i=j:=by
  intro n i j a b c e
  rcases Nat.lt_trichotomy i j with hl|hl|hl
  ·have:=Dm (i+1) j hl;omega
  ·exact hl
  ·have:=Dm (j+1) i hl;omega
 have tape:∃τ:Nat->Question->Nat,∀i j,j<(f (i+1)).1.2.2.drawn-ds i->∀q,τ (D i+j) q=τs i (ds i+j) q:=by
  have pick:∀n:Nat,∃g:Question->Nat,∀i,D i<=n->n<D (i+1)->∀q,g q=τs i (ds i+(n-D i)) q:=by
   intro n
   by_cases hn:∃i,D i<=n/\n<D (i+1)
   ·obtain⟨i,hi1,hi2⟩:=hn;refine⟨fun q=>τs i (ds i+(n-D i)) q,fun i' a b q=>?_⟩;obtain rfl:=Du n i i' hi1 hi2 a b
    rfl
   ·exact⟨fun _=>0,fun i a b=>(hn ⟨i,a,b⟩).elim⟩
  obtain⟨g,hg⟩:=Classical.axiomOfChoice pick;refine⟨g,fun i j hj q=>?_⟩;rw[hg (D i+j) i (by omega) (by rw[Ds];omega) q,show D i+j-D i=j from by omega]
 obtain⟨τ,ay3⟩:=tape;have steps:∀i,FL P (f i).1.1 (f i).1.2.1 ((f i).1.2.2.re τ (D i)) (f (i+1)).1.1 (f (i+1)).1.2.1 ((f (i+1)).1.2.2.re τ (D (i+1))):=by
  intro i
  obtain⟨hg,h1⟩:=hd i
  have:=(Kl F hg h1 (τ':=τ) (d':=D i) (ay3 i)).2.2
  rw[Ds]
  exact this
 have never:∀n i,¬Ox P L p S n (f i).1.1 (f i).1.2.1 ((f i).1.2.2.re τ (D i)):=by
  intro n
  induction n with
  | zero=>exact fun i hs=>(f i).2.2 (Sj (hS _ _ ((f i).1.2.2.re τ (D i)) _ rfl rfl rfl hs))
  | succ n ih=>
   intro i hs
   rcases hs with hs|⟨_,Di,BV,v',h1,h2⟩
   ·exact(f i).2.2 (Sj (hS _ _ ((f i).1.2.2.re τ (D i)) _ rfl rfl rfl hs))
   ·obtain⟨e1,e2,e3⟩:=h1.det (steps i);rw[e1,e2,e3]at h2;exact ih (i+1) h2
 obtain⟨n,hn⟩:=(f 0).2.1 τ (D 0);exact never n 0 hn
end
section
variable {P:Program} {L:FuncId->Prop} {p:FuncId->Oper->Bool}
theorem Eu {fr:Frame} {cs:Z_} {v v':World} {g':Goroutine} {es:Array Event} (h:stepG P true (G fr cs) v=.go g' v' es):
  step P (lone fr cs v)=.next { world:=v',gs:=#[g'],rest:={ timers:=#[],alone:=none,slice:=none } }:=by
 rw[step,stepT,move_lone];simp only[G]at h;simp[runT,lone,Array.swapAt!,h]
theorem Ie {fr:Frame} {cs:Z_} {v v':World} {o:Outcome} {es:Array Event} (h:stepG P true (G fr cs) v=.ended o v' es):
  step P (lone fr cs v)=.ended o v':=by
 rw[step,stepT,move_lone];simp only[G]at h;simp[runT,lone,Array.swapAt!,h]
theorem Ol {f:FuncId} {cap ar:Array Value} {yZ:Func} {cb:Code} (Jv:P.funcs[f]?=some yZ) (FZ:(yZ.name== "runtime.NumGoroutine")=false) (hb3:yZ.body=some cb) {fr:Frame} {pre:List Frame} {v:World} {ds:List Deferred}
  (hm:fr.mode=.returning\/JL fr):stepG P true (G { fr with defers:=⟨.fn (.func f) cap,ar⟩::ds } pre) v=.go (G (Frame.enter P f (ar++cap) .deferred) ({ fr with defers:=ds }::pre)) v #[]:=by
 have hinv:(invoke (.fn (.func f) cap) ar).runT P v #[]=(.ok (.enter f (ar++cap)) v,#[]):=by
  simp only[invoke,callFunc,program,bind,Sem.bind,Sem.runT,Jv,FZ,hb3,pure]
  rfl
 obtain⟨fn,tmps,todo,defers,mode,kind,roundOf⟩:=fr;rcases hm with hm|⟨a,b,hm,_⟩
 ·simp only at hm;subst hm;simp only[G,stepG,unwind,callDeferred,hinv,GStep.after];simp[seen]
 ·simp only at hm;subst hm;simp only[G,stepG,unwind,callDeferred,hinv,GStep.after];simp[seen]
theorem SH (F:Mi P L p) {fr:Frame} {pre:Z_} {v:World} (hg:Good P L p fr pre v):
  (∃o w es,stepG P true (G fr pre) v=.ended o w es)\/(∃Di BV v' es,stepG P true (G fr pre) v=.go (G Di BV) v' es/\JL Di/\Ei P L p Di/\Below P L p Di BV/\∀(r:Nat) (o:Obj),v'.heap[r]?=some o->o.plain=true)\/
  (∃g' v' es,stepG P true (G fr pre) v=.go g' v' es/\∀ch,g'.frame.mode≠.panicking ch):=by
 obtain⟨⟨h1,h2,h2',h3,h4,h5⟩,JZ,hm,hab,hp⟩:=hg;obtain⟨fn,tmps,todo,defers,mode,kind,roundOf⟩:=fr;simp only at h1 h2 h2' h3 h4 h5 hm;subst h4;have hke:(kind==CallKind.early)=false:=by rcases h3 with rfl|rfl<;>rfl
 rcases hm with rfl|⟨rfl,BN⟩
 ·cases todo with
  | nil=>exact .inr (.inr ⟨_,_,_,by simp[G,stepG,stepG.exec];exact⟨rfl,rfl,rfl⟩,fun ch=>by simp⟩)
  | cons it k=>
   have Gb:=h5 it (List.mem_cons_self ..)
   cases it with
   | inBlock id=>exact .inr (.inr ⟨_,_,_,by simp[G,stepG,stepG.exec];exact⟨rfl,rfl,rfl⟩,fun ch=>by simp⟩)
   | inLoop c=>exact .inr (.inr ⟨_,_,_,by simp[G,stepG,stepG.exec];exact⟨rfl,rfl,rfl⟩,fun ch=>by simp⟩)
   | inScope c=>simp[Item.DJ]at Gb
   | inRangeFunc l=>simp[Item.DJ]at Gb
   | endRangeFunc l=>simp[Item.DJ]at Gb
   | beginRound=>simp[Item.DJ]at Gb
   | call d a b c=>simp[Item.DJ]at Gb
   | extern a b=>simp[Item.DJ]at Gb
   | code c=>
    cases c with
    | rangeFunc f ps a b=>simp[Item.DJ,Code.A9]at Gb
    | scope c=>simp[Item.DJ,Code.A9]at Gb
    | goto l=>simp[Item.DJ,Code.A9]at Gb
    | refuse s=>exact .inl ⟨_,_,_,by simp only[G,stepG,stepG.exec];rfl⟩
    | cond c a b=>
     cases hv:(Frame.mk fn tmps (.code (.cond c a b)::k) defers .run kind none).eval c with
     | bool t=>exact .inr (.inr ⟨_,_,_,by simp[G,stepG,stepG.exec,hv];exact⟨rfl,rfl,rfl⟩,fun ch=>by simp⟩)
     | _=>exact .inl ⟨_,_,_,by simp only[G,stepG,stepG.exec,hv];rfl⟩
    | exit id=>
     cases hx:exitTo id k with
     | none=>exact .inl ⟨_,_,_,by simp only[G,stepG,stepG.exec,hx,Option.elim];rfl⟩
     | some k'=>exact .inr (.inr ⟨_,_,_,by simp[G,stepG,stepG.exec,hx];exact⟨rfl,rfl,rfl⟩,fun ch=>by simp⟩)
    | region id ops draw=>
     cases draw with
     | false=>exact .inr (.inr ⟨_,_,_,by simp[G,stepG,stepG.exec];exact⟨rfl,rfl,rfl⟩,fun ch=>by simp⟩)
     | true=>exact .inr (.inr ⟨_,_,_,by simp[G,stepG,stepG.exec,choose,Sem.run,Question.forced,Question.cut];exact⟨rfl,rfl,rfl⟩,fun ch=>by simp⟩)
    | _=>exact .inr (.inr ⟨_,_,_,by simp[G,stepG,stepG.exec];exact⟨rfl,rfl,rfl⟩,fun ch=>by simp⟩)
   | inRegion ops l=>
    cases l with
    | nil=>exact .inr (.inr ⟨_,_,_,by simp[G,stepG,stepG.exec];exact⟨rfl,rfl,rfl⟩,fun ch=>by simp⟩)
    | cons i rest=>
     by_cases hw:((ops[i]?).map (Region.wanted · (yielded ops tmps))).getD false=true
     ·cases ho:ops[i]? with
      | none=>rw[ho]at hw;simp at hw
      | some o=>
       have hpo:p fn o=true:=by
        simp only[Item.DJ,Array.all_eq_true]at Gb
        obtain⟨BC,rfl⟩:=Array.getElem?_eq_some_iff.1 ho
        exact Gb i BC
       rw[JQ ho]at hab
       have ht:=F.op fn o hpo _ v hp hab
       rw[ho]at hw
       have Fq:stepG P true (G (Frame.mk fn tmps (.inRegion ops (i::rest)::k) defers .run kind none) pre) v=
         stepG.apply P true (Frame.mk fn tmps (.inRegion ops (i::rest)::k) defers .run kind none) pre none (execOp (Frame.mk fn tmps (.inRegion ops (i::rest)::k) defers .run kind none).eval o) v:=by
        simp only[Option.map_some,Option.getD_some]at hw
        simp[G,stepG,stepG.exec,stepG.oper,Frame.oper?,ho,hw]
       rw[Fq]
       cases Gy:(execOp (Frame.mk fn tmps (.inRegion ops (i::rest)::k) defers .run kind none).eval o).runT P v #[]with
       | mk r JX=>
        cases r with
        | ok n v1=>
         have hn:Ec L (Zo fn) n:=by
          obtain⟨_,_,hK,_⟩:=OZ (Od:=JG) (Z:=fun _=>False) ht (v:=v) (w:=v) (Np rfl rfl rfl hp) (fun _ h=>h.elim) Gy (fun _ _ _=>rfl)
          exact hK
         refine .inr (.inr ?_)
         cases n<;>first|exact hn.elim|skip
         all_goals
          refine⟨_,_,_,by simp only[stepG.apply,Gy,if_true,GStep.after,Array.append_empty,hke,Bool.false_eq_true,if_false];rfl,fun ch=>?_⟩
          simp[ES,Frame.enter]
        | halt hh v1=>
         have hd:=VP ht hp Gy
         cases hh with
         | panic x=>
          refine .inr (.inl ⟨(Frame.mk fn tmps (.inRegion ops (i::rest)::k) defers .run kind none).raise [{ v:=x,recovered:=false }],pre,_,_,by simp only[stepG.apply,Gy,if_true,GStep.after,Array.append_empty,hke,Bool.false_eq_true,if_false];rfl,⟨_,_,rfl,rfl,rfl⟩,⟨h1,h2,h2',h3,rfl,h5⟩,JZ.like rfl rfl,(ht.IM hp Gy).2⟩)
         | stuck x=>exact .inl ⟨_,_,_,by simp only[stepG.apply,Gy,if_true,GStep.after];rfl⟩
         | unsupported x=>
          cases x with
          | initOrder g=>simp[Halt.IM]at hd
          | _=>exact .inl ⟨_,_,_,by simp only[stepG.apply,Gy,if_true,GStep.after];rfl⟩
         | _=>simp[Halt.IM]at hd
     ·have hw':((ops[i]?).map (Region.wanted · (yielded ops tmps))).getD false=false:=(by simpa using hw);exact .inr (.inr ⟨_,_,_,by simp[G,stepG,stepG.exec,hw'];exact⟨rfl,rfl,rfl⟩,fun ch=>by simp[ES]⟩)
 ·cases pre with
  | nil=>exact absurd rfl BN
  | cons c pre=>
   obtain⟨fn0,hf0,_⟩:=h1
   obtain⟨hc,hcm,hbp⟩:=JZ
   simp only at hcm
   cases defers with
   | cons d ds=>
    obtain⟨f,cap,lL,su⟩:=h2' d (List.mem_cons_self ..)
    obtain⟨yZ,cb,Jv,FZ,hb3,_⟩:=F.body f su
    obtain⟨tg,ar⟩:=d
    simp only at lL
    subst lL
    exact .inr (.inr ⟨_,_,_,Ol Jv FZ hb3 (fr:=Frame.mk fn tmps todo [] .returning kind none) (pre:=c::pre) (v:=v) (ds:=ds) (cap:=cap) (ar:=ar) (.inl rfl),fun ch=>by simp[G,Frame.enter]⟩)
   | nil=>
    cases Gy:(results fn0 tmps).runT P v #[]with
    | mk r JX=>
     cases r with
     | ok x v1=>
      rcases hcm with⟨rfl,hcr⟩|⟨rfl,hcr|⟨⟨pv,rc,ge⟩,b,e,e1,e2⟩⟩
      ·exact .inr (.inr ⟨_,_,_,by simp only[G,stepG,unwind,hf0,Gy,doReturn,GStep.after,Array.append_empty];rfl,fun ch=>by simp[ES,hcr]⟩)
      ·exact .inr (.inr ⟨G c pre,_,_,by simp only[G,stepG,unwind,hf0,Gy,doReturn,GStep.after,Array.append_empty,hcr];rfl,fun ch=>by simp[G,hcr]⟩)
      ·simp only at e1 e2;subst e1 e2;exact .inr (.inl ⟨c,pre,_,_,by simp only[G,stepG,unwind,hf0,Gy,doReturn,GStep.after,Array.append_empty,e];rfl,⟨_,_,e,rfl,rfl⟩,hc,hbp,Ny (PM (fn:=fn0) (tmps:=tmps)) hp Gy⟩)
     | halt hh v1=>
      refine .inl ?_
      cases hh<;>exact⟨_,_,_,by simp only[G,stepG,unwind,hf0,Gy,GStep.after];rfl⟩
theorem Wu (F:Mi P L p) {N:Fence} (hal:N.alive=true) (hfn:∀f,N.fn f->L f\/Ext P f) {m m2:Machine} (h:StepsIn (Machine.fenced P N) P m m2):∀{fr:Frame} {pre:Z_} {v:World} {WB:Frame} {w2:World},
  m=lone fr pre v->m2=lone WB [] w2->(∀ch,WB.mode≠.panicking ch)->Ei P L p fr->Below P L p fr pre->(fr.mode=.run\/fr.mode=.returning\/JL fr)->(∃c∈fr::pre,JL c)->
   (∀(r:Nat) (o:Obj),v.heap[r]?=some o->o.plain=true)->False:=by
 induction h with
 | refl m=>
  intro fr pre v WB w2 e1 e2 hm _ _ _ hd _
  rw[e1]at e2
  simp only[lone,Machine.mk.injEq,Array.mk.injEq,List.cons.injEq,Goroutine.mk.injEq]at e2
  obtain⟨_,⟨⟨rfl,rfl,_⟩,_⟩,_⟩:=e2
  obtain⟨c,hc,a,b,e,_⟩:=hd
  simp only[List.mem_cons,List.not_mem_nil,or_false]at hc
  subst hc
  exact hm _ e
 | head hI hs h' ih=>
  intro fr pre v WB w2 e1 e2 hm F3 JZ hmode hd hp
  subst e1
  by_cases zL:JL fr
  ·obtain⟨hh,tt,hc,hgx,hrc⟩:=zL;obtain⟨fn0,hf0,hin⟩:=F3.fn;have zU:fr.catches P=false:=(by simp[Frame.catches,hf0]);cases hdf:fr.defers with
   | cons d ds=>
    obtain⟨f,cap,lL,su⟩:=F3.nM d (by rw[hdf];exact List.mem_cons_self ..)
    obtain⟨yZ,cb,Jv,FZ,hb3,_⟩:=F.body f su
    obtain⟨tg,ar⟩:=d
    simp only at lL
    subst lL
    have BH:=Ol Jv FZ hb3 (fr:=fr) (pre:=pre) (v:=v) (ds:=ds) (cap:=cap) (ar:=ar) (.inr ⟨hh,tt,hc,hgx,hrc⟩)
    rw[show({ fr with defers:=⟨.fn (.func f) cap,ar⟩::ds }:Frame)=fr from by rw[<-hdf]]at BH
    rw[Eu BH]at hs
    injection hs with hs
    have hok':Ei P L p { fr with defers:=ds }:=⟨F3.fn,fun hx=>(by have:=F3.defers hx;rw[hdf]at this;cases this),fun x hx=>F3.nM x (by rw[hdf];exact List.mem_cons_of_mem _ hx),F3.kind,F3.round,F3.todo⟩
    have hpn:JL { fr with defers:=ds }:=⟨hh,tt,hc,hgx,hrc⟩
    exact ih hs.symm e2 hm (KG F su _ (.inr rfl)) ⟨hok',.inr ⟨rfl,.inr hpn⟩,JZ.like rfl rfl⟩ (.inl rfl) ⟨_,List.mem_cons_of_mem _ (List.mem_cons_self ..),hpn⟩ hp
   | nil=>
    cases pre with
    | cons c pre=>
     have BH:stepG P true (G fr (c::pre)) v=.go (G (c.raise (hh::tt)) pre) v #[]:=by
      simp[G,stepG,unwind,hc,hdf,zU]
     rw[Eu BH]at hs
     injection hs with hs
     obtain⟨Fa,hcm,hbp⟩:=JZ
     have hra:∃rest,c.raise (hh::tt)={ c with mode:=.panicking (hh::rest) }:=by
      unfold Frame.raise
      split
      ·exact⟨tt++_,rfl⟩
      ·exact⟨tt,rfl⟩
     obtain⟨rest,hra⟩:=hra;have hpn:JL (c.raise (hh::tt)):=(by rw[hra];exact⟨hh,rest,rfl,hgx,hrc⟩);exact ih hs.symm e2 hm (by rw[hra];exact⟨Fa.fn,Fa.defers,Fa.nM,Fa.kind,Fa.round,Fa.todo⟩) (by rw[hra];exact hbp.like rfl rfl) (.inr (.inr hpn)) ⟨_,List.mem_cons_self ..,hpn⟩ hp
    | nil=>
     have hx:((hh::tt).head?.any (·.goexit))=false:=by simpa using hgx
     cases hr:(reportChain (hh::tt) false).run P v with
     | ok td v1=>
      have BH:∃d,stepG P true (G fr []) v=.go { frame:=fr,callers:=[],status:=.running,dying:=some d } v1 #[]:=by
       refine⟨{ todo:=td,texts:=[],calling:=false,pending:= "",runtimeError:=isRuntimeError P ((hh::tt).head?.map (·.v)) },?_⟩
       simp only[G,stepG,unwind,hc,hdf,zU,hx,hr]
       rfl
      obtain⟨d,BH⟩:=BH
      rw[Eu BH]at hs
      injection hs with hs
      cases h' with
      | refl=>
       rw[<-hs]at e2
       simp[lone]at e2
      | head hI2 _ _=>
       have:=(hI2 { frame:=fr,callers:=[],status:=.running,dying:=some d } (by rw[<-hs];simp)).1 hal
       simp at this
     | halt hh' v1=>
      have BH:∃o w es,stepG P true (G fr []) v=.ended o w es:=by
       cases hh'<;>exact⟨_,_,_,by simp only[G,stepG,unwind,hc,hdf,zU,hx,hr];rfl⟩
      obtain⟨o,w,es,BH⟩:=BH
      rw[Ie BH]at hs
      cases hs
  ·obtain⟨c,hcm,hcp⟩:=hd;have zS:c∈pre:=by
    rcases List.mem_cons.1 hcm with rfl|h
    ·exact(zL hcp).elim
    ·exact h
   have hg:Good P L p fr pre v:=by
    refine⟨F3,JZ,?_,fun f hf=>?_,hp⟩
    ·rcases hmode with h|h|h
     ·exact .inl h
     ·exact .inr ⟨h,fun e=>(by rw[e]at zS;cases zS)⟩
     ·exact(zL h).elim
    ·exact hfn f ((hI { frame:=fr,callers:=pre,status:=.running,dying:=none } (by simp[lone])).2.2.1 f hf)
   rcases SH F hg with⟨o,w,es,BH⟩|⟨Di,BV,v',es,BH,hfl,k1,k2,k3⟩|⟨g',v',es,BH,Zd⟩
   ·rw[Ie BH]at hs;cases hs
   ·rw[Eu BH]at hs;injection hs with hs;exact ih hs.symm e2 hm k1 k2 (.inr (.inr hfl)) ⟨_,List.mem_cons_self ..,hfl⟩ k3
   ·obtain⟨Di,BV,w',eg,hf,hmo,hpr,Zm,_,_,_,T',_,_,_,_,_⟩:=Lx (Od:=JG) F (Z:=fun _=>False) (w:=v) F3 JZ hg.mode hg.about (Np rfl rfl rfl hp) (fun _ h=>h.elim) BH Zd (fun _ _ _=>rfl);subst eg;rw[Eu BH]at hs;injection hs with hs;exact ih hs.symm e2 hm hf hpr (hmo.imp id .inl) ⟨c,List.mem_cons_of_mem _ (Zm c zS hcp),hcp⟩ T'.plain
theorem iq (F:Mi P L p) {N:Fence} (hal:N.alive=true) (hfn:∀f,N.fn f->L f\/Ext P f) {S:Frame->Z_->World->Prop} {m m2:Machine} (h:StepsIn (Machine.fenced P N) P m m2):
  ∀{fr:Frame} {pre:Z_} {v:World} {WB:Frame} {w2:World},m=lone fr pre v->m2=lone WB [] w2->(∀ch,WB.mode≠.panicking ch)->S WB [] w2->
   Ei P L p fr->Below P L p fr pre->(fr.mode=.run\/fr.mode=.returning)->(∀(r:Nat) (o:Obj),v.heap[r]?=some o->o.plain=true)->∃n,Ox P L p S n fr pre v:=by
 induction h with
 | refl m=>
  intro fr pre v WB w2 e1 e2 hm hS _ _ _ _
  rw[e1]at e2
  simp only[lone,Machine.mk.injEq,Array.mk.injEq,List.cons.injEq,Goroutine.mk.injEq]at e2
  obtain⟨rfl,⟨⟨rfl,rfl,_⟩,_⟩,_⟩:=e2
  exact⟨0,hS⟩
 | head hI hs h' ih=>
  intro fr pre v WB w2 e1 e2 hm hS F3 JZ hmode hp
  subst e1
  by_cases hend:fr.mode=.returning/\pre=[]
  ·exfalso;obtain⟨hr,rfl⟩:=hend;obtain⟨fn0,hf0,hin⟩:=F3.fn;have BH:∃o w es,stepG P true (G fr []) v=.ended o w es:=by
    cases Gy:(results fn0 fr.tmps).runT P v #[]with
    | mk r JX=>
     cases r with
     | ok x v1=>
      have hk:=JZ.2
      have e:stepG P true (G fr []) v=(GStep.ended (.done x) v1).after (seen P fr.fn JX):=by
       simp only[G,stepG,unwind,hr,F3.defers JZ.1,hf0,Gy,doReturn,hk,hin,Bool.not_true,Bool.false_eq_true,if_false]
      exact⟨_,_,_,e⟩
     | halt hh v1=>cases hh<;>exact⟨_,_,_,by simp only[G,stepG,unwind,hr,F3.defers JZ.1,hf0,Gy,GStep.after];rfl⟩
   obtain⟨o,w,es,BH⟩:=BH;rw[Ie BH]at hs;cases hs
  ·have hg:Good P L p fr pre v:=by
    refine⟨F3,JZ,?_,fun f hf=>?_,hp⟩
    ·rcases hmode with h|h
     ·exact .inl h
     ·exact .inr ⟨h,fun e=>hend ⟨h,e⟩⟩
    ·exact hfn f ((hI { frame:=fr,callers:=pre,status:=.running,dying:=none } (by simp[lone])).2.2.1 f hf)
   rcases SH F hg with⟨o,w,es,BH⟩|⟨Di,BV,v',es,BH,hfl,k1,k2,k3⟩|⟨g',v',es,BH,Zd⟩
   ·rw[Ie BH]at hs;cases hs
   ·rw[Eu BH]at hs;injection hs with hs;exact(Wu F hal hfn h' hs.symm e2 hm k1 k2 (.inr (.inr hfl)) ⟨_,List.mem_cons_self ..,hfl⟩ k3).elim
   ·obtain⟨Di,BV,w',eg,hf,hmo,hpr,_,_,_,_,T',_,_,_,_,_⟩:=Lx (Od:=JG) F (Z:=fun _=>False) (w:=v) F3 JZ hg.mode hg.about (Np rfl rfl rfl hp) (fun _ h=>h.elim) BH Zd (fun _ _ _=>rfl);subst eg;rw[Eu BH]at hs;injection hs with hs;obtain⟨n,hn⟩:=ih (fr:=Di) (pre:=BV) (v:=v') (WB:=WB) (w2:=w2) hs.symm e2 hm hS hf hpr hmo T'.plain;exact⟨n+1,.inr ⟨hg,Di,BV,v',⟨es,BH,Zd⟩,hn⟩⟩
end
section
variable {P:Program} {L:FuncId->Prop} {p:FuncId->Oper->Bool} {f:FuncId} {Post:Value->World->Prop}
end
end Go.Fxa
namespace Go.Fxa
open Go.Conc
open Go.ConcN (sumTo upd sumTo_upd upd_ne upd_same)
section
variable {P:Program} {Ac:Loc->Prop}
theorem Q9 {K:Goroutine->World->Prop}:∀(M:Nat) (gs:Array Goroutine) (a:Goroutine) (w:World) (sl:Option (W_)) (t:Trace) (q:Nat->Nat) (B:Nat),sumTo gs.size q<=M->gs[0]?=some a->a.status=.running->
  Leavers P t gs q->Past Ac B t->(∀d,∃a' w' es B',stepG P true a (w.at d)=.go a' w' es/\B<=B'/\(∀e∈es,EvL Ac B' e)/\(w'.heap.size<=B'/\K a' w'))->
  ∃(N:Nat) (AZ:Array Goroutine) (a':Goroutine) (w':World) (Cz:Option (W_)) (t':Trace) (q':Nat->Nat) (B':Nat),
   runNT P N (crowd gs w sl) t=(.next (crowd AZ w' Cz),t')/\AZ.size=gs.size/\AZ[0]?=some a'/\(w'.heap.size<=B'/\K a' w')/\Leavers P t' AZ q'/\Past Ac B' t'/\B<=B':=by
 intro M
 induction M with
 | zero=>
  intro gs a w sl t q B hM h0 Bg hL hP I5
  have haw:∀g∈gs,awake g:=by
   intro g hg
   obtain⟨i,hi,rfl⟩:=Array.mem_iff_getElem.1 hg
   rcases Nat.eq_zero_or_pos i with rfl|Ik
   ·have:gs[0]=a:=(by simpa [Array.getElem?_eq_getElem hi]using h0);rw[this];exact awake_of (.inl Bg)
   ·exact awake_of ((hL.old i _ Ik (Array.getElem?_eq_getElem hi)).status.elim .inl fun x=>.inr (.inr x))
  obtain⟨i,g,d,Cz,hi,hg,BH⟩:=crowd_pick (P:=P) (w:=w) (sl:=sl) haw ⟨0,a,h0,Bg⟩;have BC:i<gs.size:=(Array.getElem?_eq_some_iff.1 hi).1;rcases Nat.eq_zero_or_pos i with rfl|Ik
  ·obtain rfl:g=a:=(by rw[h0]at hi;exact(Option.some.inj hi).symm);obtain⟨a',w',es,B',hgo,hB,EY,hK⟩:=I5 d;have BD:=runT_crowd_go (P:=P) (sl:=Cz) (i:=0) hi (show stepG P (0==0) g (w.at d)=_ from hgo);refine⟨1,(gs.map (woken P g a' w')).setIfInBounds 0 a',a',w',Cz,t++MemOp.ofEvents 0 g.frame.fn g.frame.place es,q,B',by simp only[runNT,BH,BD],by simp,by simp[BC],hK,⟨fun j x hj hx=>?_,fun j hj=>?_⟩,(hP.mono hB).own EY,hB⟩
   ·have BN:0≠j:=(by omega);rw[Array.getElem?_setIfInBounds_ne BN,Array.getElem?_map]at hx;obtain⟨y,hy,rfl⟩:=Option.map_eq_some_iff.1 hx;have hq:=hL.old j y hj hy;rw[woken_quitsD hq,Deaf_other t (by omega) _ (fun op AO=>by obtain⟨e,_,rfl⟩:=Go.Conc.mem_ofEvents AO;rfl)];exact hq
   ·rw[Deaf_other t (g':=0) (by simp at hj;omega) _ (fun op AO=>by obtain⟨e,_,rfl⟩:=Go.Conc.mem_ofEvents AO;rfl)];exact hL.above j (by simpa using hj)
  ·exfalso;have hq:=hL.old i g Ik hi;have hz:q i=0:=by
    have hs:sumTo gs.size (upd q i 0)+q i=sumTo gs.size q+0:=by
     have:=sumTo_upd q 0 id BC
     simpa using this
    omega
   rw[hz]at hq;rw[hq.1]at hg;cases hg
 | succ M ih=>
  intro gs a w sl t q B hM h0 Bg hL hP I5
  have haw:∀g∈gs,awake g:=by
   intro g hg
   obtain⟨i,hi,rfl⟩:=Array.mem_iff_getElem.1 hg
   rcases Nat.eq_zero_or_pos i with rfl|Ik
   ·have:gs[0]=a:=(by simpa [Array.getElem?_eq_getElem hi]using h0);rw[this];exact awake_of (.inl Bg)
   ·exact awake_of ((hL.old i _ Ik (Array.getElem?_eq_getElem hi)).status.elim .inl fun x=>.inr (.inr x))
  obtain⟨i,g,d,Cz,hi,hg,BH⟩:=crowd_pick (P:=P) (w:=w) (sl:=sl) haw ⟨0,a,h0,Bg⟩;have BC:i<gs.size:=(Array.getElem?_eq_some_iff.1 hi).1;rcases Nat.eq_zero_or_pos i with rfl|Ik
  ·obtain rfl:g=a:=(by rw[h0]at hi;exact(Option.some.inj hi).symm);obtain⟨a',w',es,B',hgo,hB,EY,hK⟩:=I5 d;have BD:=runT_crowd_go (P:=P) (sl:=Cz) (i:=0) hi (show stepG P (0==0) g (w.at d)=_ from hgo);refine⟨1,(gs.map (woken P g a' w')).setIfInBounds 0 a',a',w',Cz,t++MemOp.ofEvents 0 g.frame.fn g.frame.place es,q,B',by simp only[runNT,BH,BD],by simp,by simp[BC],hK,⟨fun j x hj hx=>?_,fun j hj=>?_⟩,(hP.mono hB).own EY,hB⟩
   ·have BN:0≠j:=(by omega);rw[Array.getElem?_setIfInBounds_ne BN,Array.getElem?_map]at hx;obtain⟨y,hy,rfl⟩:=Option.map_eq_some_iff.1 hx;have hq:=hL.old j y hj hy;rw[woken_quitsD hq,Deaf_other t (by omega) _ (fun op AO=>by obtain⟨e,_,rfl⟩:=Go.Conc.mem_ofEvents AO;rfl)];exact hq
   ·rw[Deaf_other t (g':=0) (by simp at hj;omega) _ (fun op AO=>by obtain⟨e,_,rfl⟩:=Go.Conc.mem_ofEvents AO;rfl)];exact hL.above j (by simpa using hj)
  ·have hq:=hL.old i g Ik hi;have hi0:(i==0)=false:=(by simp;omega);cases hqi:q i with
   | zero=>rw[hqi]at hq;rw[hq.1]at hg;cases hg
   | succ k=>
    rw[hqi]at hq
    rcases hq with⟨hf,_⟩|⟨_,g',es,hm,hstp,hq'⟩
    ·rw[hf]at hg;cases hg
    have BD:=runT_crowd_go (P:=P) (sl:=Cz) (i:=i) hi (by rw[hi0];exact hstp (w.at d));have BA:((gs.map (woken P g g' (w.at d))).setIfInBounds i g').size=gs.size:=(by simp);have hsum:sumTo gs.size (upd q i k)+(k+1)=sumTo gs.size q+k:=by
     have:=sumTo_upd q k id BC
     simpa [hqi]using this
    obtain⟨N,AZ,a'',Jl,Gd,t',q',B',hr,FD,h0',hS,hL',hP',hB'⟩:=ih ((gs.map (woken P g g' (w.at d))).setIfInBounds i g') a (w.at d) Cz (t++MemOp.ofEvents i g.frame.fn g.frame.place es) (upd q i k) B (by rw[BA];omega)
     (by
      have BN:i≠0:=by omega
      rw[Array.getElem?_setIfInBounds_ne BN,Array.getElem?_map,h0]
      simp[woken_run Bg]) Bg
     ⟨fun j x hj hx=>by
      by_cases hji:i=j
      ·subst hji;rw[Array.getElem?_setIfInBounds_self_of_lt (by simpa using BC)]at hx;obtain rfl:=Option.some.inj hx;rw[upd_same,Deaf_own];exact hq'
      ·rw[Array.getElem?_setIfInBounds_ne hji,Array.getElem?_map]at hx;obtain⟨y,hy,rfl⟩:=Option.map_eq_some_iff.1 hx;have hqj:=hL.old j y hj hy;rw[woken_quitsD hqj,upd_ne q k (Ne.symm hji),Deaf_other t hji _ (fun op AO=>by obtain⟨e,_,rfl⟩:=Go.Conc.mem_ofEvents AO;rfl)];exact hqj,fun j hj=>by
      rw[Deaf_other t (g':=i) (by simp at hj;omega) _ (fun op AO=>by obtain⟨e,_,rfl⟩:=Go.Conc.mem_ofEvents AO;rfl)];exact hL.above j (by simpa using hj)⟩
     (hP.mute (by omega) hm) (fun d'=>I5 d')
    exact⟨N+1,AZ,a'',Jl,Gd,t',q',B',by simp only[runNT,BH,BD];exact hr,FD.trans BA,h0',hS,hL',hP',hB'⟩
def EP (Ac:Loc->Prop) (Z:Nat->Prop):Prop:=(∀a:Addr,Ac (.cell a)->Z a.block)/\∀r,Ac (.obj r)->Z r
theorem VR {Z:Nat->Prop} (hu:EP Ac Z) {n B:Nat} (hn:n<=B) {e:Event} (h:rT Z n e):EvL Ac B e:=by
 obtain⟨loc,wr,sy⟩:=e;rcases h with⟨a,h1,h2,h3⟩|⟨r,h1,h2,h3⟩|h1|⟨f,h1⟩
 ·simp only at h1;subst h1;refine⟨fun x hx hs=>?_,by simp,by simp,?_⟩
  ·exfalso;simp only[MemAct.ofEvent,MemAct.touch?]at hx;obtain rfl:=Option.some.inj hx;exact h2 (hu.1 _ hs)
  ·simp only[MemAct.ofEvent,MemAct.low,Loc.low];omega
 ·simp only at h1;subst h1;refine⟨fun x hx hs=>?_,by simp,by simp,?_⟩
  ·exfalso;cases wr<;>cases sy<;>simp only[MemAct.ofEvent,MemAct.touch?]at hx<;>first
    | (obtain rfl:=Option.some.inj hx
       exact h2 (hu.2 _ hs))
    | (cases hx;done)
  ·cases wr<;>cases sy<;>simp only[MemAct.ofEvent,MemAct.low,Loc.low]<;>omega
 all_goals
  simp only at h1;subst h1
  refine⟨fun x hx hs=>?_,by simp,by simp,trivial⟩
  simp[MemAct.ofEvent,MemAct.touch?]at hx
end
end Go.Fxa
namespace Go.Fxa
open Go.Conc
end Go.Fxa
namespace Go
open Go.Fxa Go.Conc
def Sem.GN (P:Program) {α:Type}:Sem α->Option α
 | .pure a=>some a
 | .program k=>(k P).GN P
 | _=>none
end Go
namespace Go.Fxa
open Go.Conc
theorem GZ {P:Program} {α:Type} {e:Sem α} {a:α}:∀(_:e.GN P=some a) (w:World) (es:Array Event),e.runT P w es=(.ok a w,es):=by
 induction e with
 | pure b=>intro h w es;simp only[Sem.GN,Option.some.injEq]at h;subst h;rfl
 | program k ih=>intro h w es;exact ih P h w es
 | _=>intro h;simp[Sem.GN]at h
def CZ (fr:Frame) (cs:Z_) (k:List Item):Option (Frame×Z_):=some ({ fr with todo:=k },cs)
def Jp (P:Program) (fr:Frame) (cs:Z_):Next->Option (Frame×Z_)
 | .value v=>some (fr.finish v,cs)
 | .skip=>some (fr.finish undef,cs)
 | .enter f args=>some (Frame.enter P f args .normal,fr::cs)
 | .defer d=>some ({ fr with defers:=d::fr.defers }.finish undef,cs)
 | _=>none
def Ed (fr:Frame) (cs:Z_) (c:Code) (k:List Item):Option (Frame×Z_):=
 match c with
 | .ret=>some ({ fr with mode:=.returning },cs)
 | .skip=>CZ fr cs k
 | .label _=>CZ fr cs k
 | .seq a b=>CZ fr cs (.code a::.code b::k)
 | .cond c a b=>match fr.eval c with
  | .bool t=>CZ fr cs (.code (if t then a else b)::k)
  | _=>none
 | .block id b=>CZ fr cs (.code b::.inBlock id::k)
 | .loop b=>CZ fr cs (.code b::.inLoop b::k)
 | .exit id=>match exitTo id k with
  | some k'=>CZ fr cs k'
  | none=>none
 | .region _ ops false=>CZ fr cs (.inRegion ops (List.range ops.size)::k)
 | _=>none
def Cx (P:Program) (fr:Frame) (cs:Z_):Option (Frame×Z_):=
 match fr.todo with
 | []=>some ({ fr with mode:=.returning },cs)
 | .code c::k=>Ed fr cs c k
 | .inBlock _::k=>CZ fr cs k
 | .inLoop c::k=>CZ fr cs (.code c::.inLoop c::k)
 | .inRegion _ []::k=>CZ fr cs k
 | .inRegion ops (i::_)::_=>
  if((ops[i]?).map (Region.wanted · (yielded ops fr.tmps))).getD false then
   match ops[i]? with
   | some o=>match (execOp fr.eval o).GN P with
    | some n=>Jp P fr cs n
    | none=>none
   | none=>none
  else some (fr.finish undef,cs)
 | _=>none
def Lb (fr:Frame) (cs:Z_) (v:Value):Option (Frame×Z_):=
 match cs with
 | c::rest=>match fr.kind with
  | .normal=>some (c.finish v,rest)
  | .deferred=>match c.mode with
   | .panicking ({ recovered:=true,.. }::_)=>none
   | _=>some (c,rest)
  | _=>none
 | []=>none
def Hw (P:Program) (fr:Frame) (cs:Z_) (d:Deferred) (ds:List Deferred):Option (Frame×Z_):=
 match d.target with
 | .fn f cap=>match (invoke (.fn f cap) d.args).GN P with
  | some (.enter f args)=>some (Frame.enter P f args .deferred,{ fr with defers:=ds }::cs)
  | _=>none
 | _=>none
def Nw (P:Program) (x:Frame×Z_):Option (Frame×Z_):=
 match x.1.roundOf,x.1.mode with
 | none,.run=>Cx P x.1 x.2
 | none,.returning=>match x.1.defers with
  | []=>match P.funcs[x.1.fn]? with
   | some fn=>match (results fn x.1.tmps).GN P with
    | some v=>Lb x.1 x.2 v
    | none=>none
   | none=>none
  | d::ds=>Hw P x.1 x.2 d ds
 | none,.panicking _=>match x.1.defers with
  | []=>none
  | d::ds=>Hw P x.1 x.2 d ds
 | _,_=>none
section
variable {P:Program}
theorem QP {fr:Frame} {cs:Z_} {d:Deferred} {ds:List Deferred} {y:Frame×Z_} (h:Hw P fr cs d ds=some y) (w:World):
  callDeferred P { fr with defers:=ds } cs none d w=.go (G y.1 y.2) w #[]:=by
 obtain⟨t,args⟩:=d;unfold Hw at h;cases t with
 | fn f cap=>
  simp only at h
  split at h
  ·rename_i f' a' he;obtain rfl:=Option.some.inj h;have:=GZ he w #[];unfold callDeferred;simp only[Bool.false_and,Bool.false_eq_true,if_false,this,GStep.after,seen_none,Array.append_empty]
   rfl
  ·cases h
 | _=>simp at h
theorem quiet_step {main:Bool} {x y:Frame×Z_} (h:Nw P x=some y) (w:World):stepG P main (G x.1 x.2) w=.go (G y.1 y.2) w #[]:=by
 obtain⟨⟨fn,tmps,todo,defers,mode,kind,ro⟩,cs⟩:=x;unfold Nw at h;cases ro with
 | some r=>cases mode<;>simp at h
 | none=>
  cases mode with
  | run=>
   simp only at h
   cases todo with
   | nil=>simp only[Cx,Option.some.injEq]at h;subst h;simp[G,stepG,stepG.exec]
   | cons it k=>
    cases it with
    | inBlock id=>simp only[Cx,CZ,Option.some.injEq]at h;subst h;simp[G,stepG,stepG.exec]
    | inLoop c=>simp only[Cx,CZ,Option.some.injEq]at h;subst h;simp[G,stepG,stepG.exec]
    | code c=>
     cases c with
     | cond c a b=>
      simp only[Cx,Ed]at h
      split at h
      ·rename_i t ht;simp only[CZ,Option.some.injEq]at h;subst h;simp[G,stepG,stepG.exec,ht]
      ·cases h
     | exit id=>
      simp only[Cx,Ed]at h
      split at h
      ·rename_i k' hk;simp only[CZ,Option.some.injEq]at h;subst h;simp[G,stepG,stepG.exec,hk]
      ·cases h
     | region id ops dr=>
      cases dr with
      | true=>simp[Cx,Ed]at h
      | false=>simp only[Cx,Ed,CZ,Option.some.injEq]at h;subst h;simp[G,stepG,stepG.exec]
     | ret=>simp only[Cx,Ed,Option.some.injEq]at h;subst h;simp[G,stepG,stepG.exec]
     | skip=>simp only[Cx,Ed,CZ,Option.some.injEq]at h;subst h;simp[G,stepG,stepG.exec]
     | label l=>simp only[Cx,Ed,CZ,Option.some.injEq]at h;subst h;simp[G,stepG,stepG.exec]
     | seq a b=>simp only[Cx,Ed,CZ,Option.some.injEq]at h;subst h;simp[G,stepG,stepG.exec]
     | block id b=>simp only[Cx,Ed,CZ,Option.some.injEq]at h;subst h;simp[G,stepG,stepG.exec]
     | loop b=>simp only[Cx,Ed,CZ,Option.some.injEq]at h;subst h;simp[G,stepG,stepG.exec]
     | _=>simp[Cx,Ed]at h
    | inRegion ops l=>
     cases l with
     | nil=>simp only[Cx,CZ,Option.some.injEq]at h;subst h;simp[G,stepG,stepG.exec]
     | cons i rest=>
      simp only[Cx]at h
      split at h
      ·rename_i hw;split at h
       ·rename_i o ho;split at h
        ·rename_i n hn;have hr:=GZ hn w #[];have Fq:stepG P main (G (Frame.mk fn tmps (.inRegion ops (i::rest)::k) defers .run kind none) cs) w=
           stepG.apply P true (Frame.mk fn tmps (.inRegion ops (i::rest)::k) defers .run kind none) cs none (execOp (Frame.mk fn tmps (.inRegion ops (i::rest)::k) defers .run kind none).eval o) w:=by
          simp only[ho,Option.map_some,Option.getD_some]at hw
          simp[G,stepG,stepG.exec,stepG.oper,Frame.oper?,ho,hw]
         rw[Fq];have hz:(if(kind==CallKind.early)=true then(#[]:Array Event)else #[])=#[]:=by split<;>rfl
         cases n with
         | value v=>simp only[Jp,Option.some.injEq]at h;subst h;simp only[stepG.apply,hr,if_true,hz,seen_none,GStep.after,Array.append_empty];rfl
         | skip=>simp only[Jp,Option.some.injEq]at h;subst h;simp only[stepG.apply,hr,if_true,hz,seen_none,GStep.after,Array.append_empty];rfl
         | enter f args=>simp only[Jp,Option.some.injEq]at h;subst h;simp only[stepG.apply,hr,if_true,hz,seen_none,GStep.after,Array.append_empty];rfl
         | defer d=>simp only[Jp,Option.some.injEq]at h;subst h;simp only[stepG.apply,hr,if_true,hz,seen_none,GStep.after,Array.append_empty];rfl
         | _=>simp[Jp]at h
        ·cases h
       ·cases h
      ·rename_i hw;obtain rfl:=Option.some.inj h;have hw':((ops[i]?).map (Region.wanted · (yielded ops tmps))).getD false=false:=(by simpa using hw);simp[G,stepG,stepG.exec,hw']
    | _=>simp[Cx]at h
  | returning=>
   cases defers with
   | nil=>
    simp only at h
    split at h
    ·rename_i f hf;split at h
     ·rename_i v hv;have hr:=GZ hv w #[];cases cs with
      | nil=>simp[Lb]at h
      | cons c rest=>
       cases kind with
       | normal=>
        simp only[Lb,Option.some.injEq]at h;subst h
        simp only[G,stepG,unwind,hf,hr,doReturn,GStep.after,seen_none,Array.append_empty]
       | deferred=>
        simp only[Lb]at h
        split at h
        ·cases h
        ·rename_i hno;obtain rfl:=Option.some.inj h;simp only[G,stepG,unwind,hf,hr,doReturn,GStep.after,seen_none,Array.append_empty]
       | _=>simp[Lb]at h
     ·cases h
    ·cases h
   | cons d ds=>
    simp only at h
    have:=QP h w
    have ht:∃f cap args,d={ target:=.fn f cap,args:=args }:=by
     obtain⟨t,args⟩:=d
     cases t<;>first|exact⟨_,_,_,rfl⟩|(simp[Hw]at h;done)
    obtain⟨f,cap,args,rfl⟩:=ht
    simp only[G,stepG,unwind]
    exact this
  | panicking ch=>
   cases defers with
   | nil=>simp at h
   | cons d ds=>
    simp only at h
    have:=QP h w
    have ht:∃f cap args,d={ target:=.fn f cap,args:=args }:=by
     obtain⟨t,args⟩:=d
     cases t<;>first|exact⟨_,_,_,rfl⟩|(simp[Hw]at h;done)
    obtain⟨f,cap,args,rfl⟩:=ht
    simp only[G,stepG,unwind]
    exact this
end
end Go.Fxa
