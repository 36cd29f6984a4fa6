/- One own step in plain code, carried over. Another tape that answers alike from here on: every operation runs alike. From 'on every tape the lone run comes to its stop' to a judgement that knows no tape: whatever is drawn at each step, the stop is come to. From a contract of the lone walk, inside a fence, to 'whatever is drawn, it returns'. -/
import Derived.Test.YtmhplpfpcnjekaaGreatK01
import Derived.CallsIn
namespace Go.Fxa
open Go.Conc
section
variable {P:Program} {L:FuncId→Prop} {p:Oper→Bool} {Z:Nat→Prop}
theorem about_oper {fn:FuncId} {tmps:Array Value} {ops:Array Oper} {i:Nat} {rest:List Nat} {k:List Item} {df:List Deferred} {kd:CallKind} {ro:Option Nat} {o:Oper} (ho:ops[i]?=some o) (v:World):
  (Frame.mk fn tmps (.inRegion ops (i::rest)::k) df .run kd ro).about P v=o.about P v (Frame.mk fn tmps (.inRegion ops (i::rest)::k) df .run kd ro).eval:=by
 simp only[Frame.about,ho,Oper.about]
 cases o.op<;>rfl
def Carried (Od:Old) (P:Program) (L:FuncId→Prop) (p:Oper→Bool) (Z:Nat→Prop) (fr:Frame) (pre:List Frame) (v w v':World) (g':Goroutine) (es:Array Event):Prop:=
 ∃fr' pre' w',g'=G fr' pre'∧FrameOk P L p fr'∧(fr'.mode=.run∨fr'.mode=.returning)∧(∀c∈pre',FrameOk P L p c∧c.mode=.run)∧
  v.drawn≤v'.drawn∧v'.tape=v.tape∧v.heap.size≤v'.heap.size∧Twin Od Z v' w'∧(∀r,Z r→w'.heap[r]?=w.heap[r]?)∧w'.tape=w.tape∧w'.drawn=w.drawn+(v'.drawn-v.drawn)∧(∀e∈es,EvT Z v'.heap.size e)∧
  ∀main cs,stepG P main (G fr (pre++cs)) w=.go (G fr' (pre'++cs)) w' es
theorem ac9 {Od:Old} {fr fr':Frame} {pre:List Frame} {v w v':World} {g':Goroutine} {es:Array Event} (T:Twin Od Z v w) (hpre:∀c∈pre,FrameOk P L p c∧c.mode=.run)
  (h:stepG P true (G fr pre) v=.go g' v' es) (hf:FrameOk P L p fr') (hm:fr'.mode=.run∨fr'.mode=.returning)
  (hs:∀main cs u,stepG P main (G fr (pre++cs)) u=.go (G fr' (pre++cs)) u #[]):Carried Od P L p Z fr pre v w v' g' es:=by
 have e:=hs true [] v
 rw[List.append_nil]at e
 rw[e]at h
 injection h with h1 h2 h3
 subst h1 h2 h3
 exact⟨fr',pre,w,rfl,hf,hm,hpre,Nat.le_refl _,rfl,Nat.le_refl _,T,fun _ _=>rfl,rfl,by simp,by simp,fun main cs=>hs main cs w⟩
theorem carried_sem {Od:Old} {fr:Frame} {pre:List Frame} {v w v':World} {g':Goroutine} {es:Array Event} {α:Type} {e:Sem α} {K:α→Prop} (he:TameAt P K e v) (T:Twin Od Z v w) (hZ:∀r,Z r→r<v.heap.size)
  (hag:∀j,j<v'.drawn-v.drawn→∀q,w.tape (w.drawn+j) q=v.tape (v.drawn+j) q)
  (fn:FuncId) (k:α→Frame×List Frame) (hk:∀a,K a→FrameOk P L p (k a).1∧((k a).1.mode=.run∨(k a).1.mode=.returning)∧∀c∈(k a).2,FrameOk P L p c∧c.mode=.run)
  (hh:(∃a v1 es1,e.runT P v #[]=(.ok a v1,es1)∧g'=G (k a).1 (k a).2∧v'=v1∧es=seen P fn es1))
  (hs:∀main cs u a u1 es1,e.runT P u #[]=(.ok a u1,es1)→K a→stepG P main (G fr (pre++cs)) u=.go (G (k a).1 ((k a).2++cs)) u1 (seen P fn es1)):Carried Od P L p Z fr pre v w v' g' es:=by
 obtain⟨a,v1,es1,h1,h2,h3,h4⟩:=hh
 subst h3 h4
 obtain⟨w',more,hK,hw,T',hkp,ht,hd,hes,hev⟩:=twin_at he T hZ h1 hag
 have hg:=grows_at he T.plain h1
 obtain⟨hf,hm,hp⟩:=hk a hK
 refine⟨(k a).1,(k a).2,w',h2,hf,hm,hp,hg.1,hg.2.1,hg.2.2,T',hkp,ht,hd,fun x hx=>?_,fun main cs=>hs main cs w a w' es1 hw hK⟩
 have:=mem_seen hx
 rw[hes]at this
 exact hev x (by simpa using this)
theorem step_carry {Od:Old} (F:Fine P L p) {fr:Frame} {pre:List Frame} {v w v':World} {g':Goroutine} {es:Array Event}
  (hfr:FrameOk P L p fr) (hpre:∀c∈pre,FrameOk P L p c∧c.mode=.run)
  (hm:fr.mode=.run∨(fr.mode=.returning∧pre≠[]))
  (hab:∀f,fr.about P v=some f→L f) (T:Twin Od Z v w) (hZ:∀r,Z r→r<v.heap.size)
  (h:stepG P true (G fr pre) v=.go g' v' es) (hg:∀ch,g'.frame.mode≠.panicking ch)
  (hag:∀j,j<v'.drawn-v.drawn→∀q,w.tape (w.drawn+j) q=v.tape (v.drawn+j) q):
  Carried Od P L p Z fr pre v w v' g' es:=by
 obtain⟨fn,tmps,todo,defers,mode,kind,roundOf⟩:=fr
 obtain⟨h1,h2,h3,h4,h5⟩:=hfr
 simp only at h1 h2 h3 h4 h5
 subst h2 h3 h4
 rcases hm with hm|⟨hm,hne⟩
 ·simp only at hm
  subst hm
  cases todo with
  | nil=>exact ac9 T hpre h (fr':=Frame.mk fn tmps [] [] .returning .normal none) ⟨h1,rfl,rfl,rfl,h5⟩ (.inr rfl) (fun main cs u=>by simp[G,stepG,stepG.exec])
  | cons it k=>
   have hit:=h5 it (List.mem_cons_self ..)
   have hk:∀x∈k,x.fine p=true:=fun x hx=>h5 x (List.mem_cons_of_mem _ hx)
   cases it with
   | inBlock id=>exact ac9 T hpre h (fr':=Frame.mk fn tmps k [] .run .normal none) ⟨h1,rfl,rfl,rfl,hk⟩ (.inl rfl) (fun main cs u=>by simp[G,stepG,stepG.exec])
   | inLoop c=>
    exact ac9 T hpre h (fr':=Frame.mk fn tmps (.code c::.inLoop c::k) [] .run .normal none) ⟨h1,rfl,rfl,rfl,by
     intro x hx;rcases List.mem_cons.1 hx with rfl|hx
     ·exact hit
     rcases List.mem_cons.1 hx with rfl|hx
     ·exact hit
     ·exact hk x hx⟩ (.inl rfl) (fun main cs u=>by simp[G,stepG,stepG.exec])
   | inScope c=>simp[Item.fine]at hit
   | inRangeFunc l=>simp[Item.fine]at hit
   | endRangeFunc l=>simp[Item.fine]at hit
   | beginRound=>simp[Item.fine]at hit
   | call d a b c=>simp[Item.fine]at hit
   | extern a b=>simp[Item.fine]at hit
   | code c=>
    cases c with
    | skip=>exact ac9 T hpre h (fr':=Frame.mk fn tmps k [] .run .normal none) ⟨h1,rfl,rfl,rfl,hk⟩ (.inl rfl) (fun main cs u=>by simp[G,stepG,stepG.exec])
    | label l=>exact ac9 T hpre h (fr':=Frame.mk fn tmps k [] .run .normal none) ⟨h1,rfl,rfl,rfl,hk⟩ (.inl rfl) (fun main cs u=>by simp[G,stepG,stepG.exec])
    | ret=>
     refine ac9 T hpre h (fr':=Frame.mk fn tmps (.code .ret::k) [] .returning .normal none) ⟨h1,rfl,rfl,rfl,h5⟩ (.inr rfl) (fun main cs u=>by simp[G,stepG,stepG.exec])
    | rangeFunc f ps a b=>simp[Item.fine,Code.allOps]at hit
    | scope c=>simp[Item.fine,Code.allOps]at hit
    | goto l=>simp[Item.fine,Code.allOps]at hit
    | refuse s=>simp[G,stepG,stepG.exec]at h
    | seq a b=>
     simp only[Item.fine,Code.allOps,Bool.and_eq_true]at hit
     exact ac9 T hpre h (fr':=Frame.mk fn tmps (.code a::.code b::k) [] .run .normal none) ⟨h1,rfl,rfl,rfl,by
      intro x hx;rcases List.mem_cons.1 hx with rfl|hx
      ·exact hit.1
      rcases List.mem_cons.1 hx with rfl|hx
      ·exact hit.2
      ·exact hk x hx⟩ (.inl rfl) (fun main cs u=>by simp[G,stepG,stepG.exec])
    | cond c a b=>
     simp only[Item.fine,Code.allOps,Bool.and_eq_true]at hit
     cases hv:(Frame.mk fn tmps (.code (.cond c a b)::k) [] .run .normal none).eval c with
     | bool t=>
      refine ac9 T hpre h (fr':=Frame.mk fn tmps (.code (if t then a else b)::k) [] .run .normal none) ⟨h1,rfl,rfl,rfl,?_⟩ (.inl rfl) (fun main cs u=>by simp[G,stepG,stepG.exec,hv])
      intro x hx;rcases List.mem_cons.1 hx with rfl|hx
      ·cases t<;>simp[Item.fine,hit]
      ·exact hk x hx
     | _=>simp[G,stepG,stepG.exec,hv]at h
    | block id c=>
     exact ac9 T hpre h (fr':=Frame.mk fn tmps (.code c::.inBlock id::k) [] .run .normal none) ⟨h1,rfl,rfl,rfl,by
      intro x hx;rcases List.mem_cons.1 hx with rfl|hx
      ·exact hit
      rcases List.mem_cons.1 hx with rfl|hx
      ·rfl
      ·exact hk x hx⟩ (.inl rfl) (fun main cs u=>by simp[G,stepG,stepG.exec])
    | loop c=>
     exact ac9 T hpre h (fr':=Frame.mk fn tmps (.code c::.inLoop c::k) [] .run .normal none) ⟨h1,rfl,rfl,rfl,by
      intro x hx;rcases List.mem_cons.1 hx with rfl|hx
      ·exact hit
      rcases List.mem_cons.1 hx with rfl|hx
      ·exact hit
      ·exact hk x hx⟩ (.inl rfl) (fun main cs u=>by simp[G,stepG,stepG.exec])
    | exit id=>
     cases hx:exitTo id k with
     | none=>simp[G,stepG,stepG.exec,hx]at h
     | some k'=>
      exact ac9 T hpre h (fr':=Frame.mk fn tmps k' [] .run .normal none) ⟨h1,rfl,rfl,rfl,fun x hx'=>hk x (exitTo_sub hx x hx')⟩ (.inl rfl) (fun main cs u=>by simp[G,stepG,stepG.exec,hx])
    | region id ops draw=>
     have hr:∀l:List Nat,∀x∈(Item.inRegion ops l::k),x.fine p=true:=fun l x hx=>by
      rcases List.mem_cons.1 hx with rfl|hx
      ·exact hit
      ·exact hk x hx
     cases draw with
     | false=>exact ac9 T hpre h (fr':=Frame.mk fn tmps (.inRegion ops (List.range ops.size)::k) [] .run .normal none) ⟨h1,rfl,rfl,rfl,hr _⟩ (.inl rfl) (fun main cs u=>by simp[G,stepG,stepG.exec])
     | true=>
      have hs:∀main cs (u:World),stepG P main (G (Frame.mk fn tmps (.code (.region id ops true)::k) [] .run .normal none) (pre++cs)) u=
        .go (G (Frame.mk fn tmps (.inRegion ops (Region.schedule (P.follows .mixedOrders) ops (u.tape u.drawn (.order fn id)))::k) [] .run .normal none) (pre++cs)) { u with drawn:=u.drawn+1 } #[]:=fun main cs u=>by
       simp[G,stepG,stepG.exec,choose,Sem.run,Question.forced,Question.cut]
      have e:=hs true [] v
      rw[List.append_nil]at e
      rw[e]at h
      injection h with g1 g2 g3
      subst g1 g2 g3
      have hw:=hag 0 (by simp) (.order fn id)
      refine⟨_,pre,{ w with drawn:=w.drawn+1 },rfl,⟨h1,rfl,rfl,rfl,hr _⟩,.inl rfl,hpre,by simp,rfl,Nat.le_refl _,⟨T.size,T.same,T.dead,T.plain,T.os,T.output,T.odead,T.kept,T.dis⟩,fun _ _=>rfl,rfl,by simp,by simp,fun main cs=>?_⟩
      rw[hs main cs w]
      simp only[Nat.add_zero]at hw
      rw[hw]
   | inRegion ops l=>
    have hr:∀l:List Nat,∀x∈(Item.inRegion ops l::k),x.fine p=true:=fun l x hx=>by
     rcases List.mem_cons.1 hx with rfl|hx
     ·exact hit
     ·exact hk x hx
    cases l with
    | nil=>exact ac9 T hpre h (fr':=Frame.mk fn tmps k [] .run .normal none) ⟨h1,rfl,rfl,rfl,hk⟩ (.inl rfl) (fun main cs u=>by simp[G,stepG,stepG.exec])
    | cons i rest=>
     have hfr0:FrameOk P L p (Frame.mk fn tmps (.inRegion ops (i::rest)::k) [] .run .normal none):=⟨h1,rfl,rfl,rfl,h5⟩
     by_cases hw:((ops[i]?).map (Region.wanted · (yielded ops tmps))).getD false=true
     ·cases ho:ops[i]? with
      | none=>rw[ho]at hw;simp at hw
      | some o=>
       have hpo:p o=true:=by
        simp only[Item.fine,Array.all_eq_true]at hit
        obtain⟨hlt,rfl⟩:=Array.getElem?_eq_some_iff.1 ho
        exact hit i hlt
       rw[about_oper ho]at hab
       have ht:=F.op o hpo _ v T.plain hab
       rw[ho]at hw
       have hap:∀main cs (u:World),stepG P main (G (Frame.mk fn tmps (.inRegion ops (i::rest)::k) [] .run .normal none) (pre++cs)) u=
         stepG.apply P true (Frame.mk fn tmps (.inRegion ops (i::rest)::k) [] .run .normal none) (pre++cs) none (execOp (Frame.mk fn tmps (.inRegion ops (i::rest)::k) [] .run .normal none).eval o) u:=fun main cs u=>by
        simp only[Option.map_some,Option.getD_some]at hw
        simp[G,stepG,stepG.exec,stepG.oper,Frame.oper?,ho,hw]
       refine carried_sem ht T hZ hag fn (fun n=>match n with
        | .value x=>((Frame.mk fn tmps (.inRegion ops (i::rest)::k) [] .run .normal none).finish x,pre)
        | .enter f args=>(Frame.enter P f args .normal,Frame.mk fn tmps (.inRegion ops (i::rest)::k) [] .run .normal none::pre)
        | _=>((Frame.mk fn tmps (.inRegion ops (i::rest)::k) [] .run .normal none).finish undef,pre)) ?_ ?_ ?_
       ·intro n hn
        cases n<;>first|exact hn.elim|skip
        ·exact⟨al9 hfr0 _,.inl (aj7 _ _),hpre⟩
        ·exact⟨al9 hfr0 _,.inl (aj7 _ _),hpre⟩
        ·refine⟨frameOk_enter F hn _,.inl rfl,fun c hc=>?_⟩
         rcases List.mem_cons.1 hc with rfl|hc
         ·exact⟨hfr0,rfl⟩
         ·exact hpre c hc
       ·have e:=hap true [] v
        rw[List.append_nil]at e
        rw[e]at h
        cases hr1:(execOp (Frame.mk fn tmps (.inRegion ops (i::rest)::k) [] .run .normal none).eval o).runT P v #[]with
        | mk r es1=>
         cases r with
         | ok n v1=>
          refine⟨n,v1,es1,rfl,?_⟩
          have hn:NextOk L n:=by
           obtain⟨_,_,hK,_⟩:=twin_at (Od:=noOld) (Z:=Z) ht (v:=v) (w:=v.re v.tape v.drawn) (@Twin.mk noOld _ _ _ rfl (fun _ _ _=>rfl) T.dead T.plain rfl rfl (fun _ h=>False.elim h) (fun _ h=>False.elim h) (fun _ h=>False.elim h)) hZ hr1 (fun _ _ _=>rfl)
           exact hK
          cases n<;>first|exact hn.elim|skip
          all_goals
           simp only[stepG.apply,hr1,if_true,GStep.after,Array.append_empty]at h
           injection h with g1 g2 g3
           exact⟨g1.symm,g2.symm,g3.symm⟩
         | halt hh v1=>
          have hd:=hard_at ht T.plain hr1
          exfalso
          cases hh with
          | panic x=>
           simp only[stepG.apply,hr1,if_true,GStep.after]at h
           injection h with g1 g2 g3
           exact hg _ (by rw[←g1];rfl)
          | stuck x=>simp only[stepG.apply,hr1,if_true,GStep.after,reduceCtorEq]at h
          | unsupported x=>
           cases x with
           | initOrder g=>simp[Halt.hard]at hd
           | _=>simp only[stepG.apply,hr1,if_true,GStep.after,reduceCtorEq]at h
          | _=>simp[Halt.hard]at hd
       ·intro main cs u n u1 es1 hu hn
        rw[hap]
        cases n<;>first|exact hn.elim|skip
        all_goals
         simp only[stepG.apply,hu,if_true,GStep.after,Array.append_empty]
         rfl
     ·have hw':((ops[i]?).map (Region.wanted · (yielded ops tmps))).getD false=false:=by simpa using hw
      exact ac9 T hpre h (fr':=(Frame.mk fn tmps (.inRegion ops (i::rest)::k) [] .run .normal none).finish undef) (al9 hfr0 _) (.inl (aj7 _ _)) (fun main cs u=>by
       simp[G,stepG,stepG.exec,hw'])
 ·simp only at hm
  subst hm
  cases pre with
  | nil=>exact absurd rfl hne
  | cons c pre=>
   obtain⟨fn0,hf0,_⟩:=h1
   have hc:=hpre c (List.mem_cons_self ..)
   refine carried_sem ((tame_results (fn:=fn0) (tmps:=tmps)).here v) T hZ hag fn (fun x=>(c.finish x,pre)) (fun x _=>⟨al9 hc.1 _,.inl ((aj7 _ _).trans hc.2),fun d hd=>hpre d (List.mem_cons_of_mem _ hd)⟩) ?_ ?_
   ·cases hr1:(results fn0 tmps).runT P v #[]with
    | mk r es1=>
     cases r with
     | ok x v1=>
      refine⟨x,v1,es1,rfl,?_⟩
      simp only[G,stepG,unwind,hf0,hr1,doReturn,GStep.after,Array.append_empty]at h
      injection h with g1 g2 g3
      exact⟨g1.symm,g2.symm,g3.symm⟩
     | halt hh v1=>
      exfalso
      simp only[G,stepG,unwind,hf0,hr1]at h
      cases hh<;>simp[GStep.after]at h
   ·intro main cs u x u1 es1 hu _
    simp only[G,stepG,unwind,hf0,hu,doReturn,GStep.after,Array.append_empty,List.cons_append]
end
def Alike (v w:World):Prop:=∀j q,w.tape (w.drawn+j) q=v.tape (v.drawn+j) q
structure Shift (v w:World):Prop where
 heap:w.heap=v.heap
 os:w.os=v.os
 output:w.output=v.output
 alike:Alike v w
def SameR {α:Type} (w:World) (v:World):Result α→Result α→Prop
 | .ok a v1,.ok b w1=>a=b∧Shift v1 w1∧w1.tape=w.tape∧v1.tape=v.tape
 | .halt h v1,.halt h' w1=>h=h'∧Shift v1 w1∧w1.tape=w.tape∧v1.tape=v.tape
 | _,_=>False
section
variable {P:Program}
theorem Shift.drew {v w:World} (h:Shift v w):Shift { v with drawn:=v.drawn+1 } { w with drawn:=w.drawn+1 }:=by
 refine⟨h.heap,h.os,h.output,fun j q=>?_⟩
 have:=h.alike (j+1) q
 simp only
 rw[show w.drawn+1+j=w.drawn+(j+1)from by omega,show v.drawn+1+j=v.drawn+(j+1)from by omega]
 exact this
theorem Shift.cell {v w:World} (h:Shift v w) (a:Addr):w.cell? a=v.cell? a:=by unfold World.cell?;rw[h.heap]
theorem Shift.frozen {v w:World} (h:Shift v w) (a:Addr):w.frozen? a=v.frozen? a:=by unfold World.frozen?;rw[h.heap]
theorem Shift.shape {v w:World} (h:Shift v w) (a:Nat):w.shape? a=v.shape? a:=by unfold World.shape?;rw[h.heap]
theorem Shift.heap' {v w:World} (h:Shift v w) (hp:Array Obj):Shift { v with heap:=hp } { w with heap:=hp }:=⟨rfl,h.os,h.output,h.alike⟩
theorem Shift.seen {v w:World} (h:Shift v w) (at_:Addr) (u:TypeId) (k:Addr) (b:Bool):w.seen P at_ u k b=v.seen P at_ u k b:=by unfold World.seen;rw[h.heap]
theorem Shift.farLoad {v w:World} (h:Shift v w) (a:Addr) (b:Bool):w.farLoad P a b=v.farLoad P a b:=by
 unfold World.farLoad World.noCell World.viewLoad
 simp only[h.heap,h.seen]
theorem Shift.farStore {v w:World} (h:Shift v w) (a:Addr) (x:Value) (b:Bool):
  (∃e,v.farStore P a x b=.error e∧w.farStore P a x b=.error e)∨
  (∃hp l,v.farStore P a x b=.ok ({ v with heap:=hp },l)∧w.farStore P a x b=.ok ({ w with heap:=hp },l)):=by
 have key:∀at_ u,(∃e,v.viewStore P at_ u a x b=.error e∧w.viewStore P at_ u a x b=.error e)∨
   (∃hp l,v.viewStore P at_ u a x b=.ok ({ v with heap:=hp },l)∧w.viewStore P at_ u a x b=.ok ({ w with heap:=hp },l)):=by
  intro at_ u
  unfold World.viewStore
  rw[h.seen,h.heap]
  cases ht:tight P P.depth u with
  | false=>exact .inl ⟨_,rfl,rfl⟩
  | true=>
   cases hs:v.seen P at_ u a b with
   | error e=>exact .inl ⟨_,rfl,rfl⟩
   | ok r=>
    obtain⟨c,e,fz,first,like,cells⟩:=r
    cases hb:x.bytes? with
    | none=>exact .inl ⟨_,rfl,rfl⟩
    | some bytes=>
     by_cases hl:some bytes.length≠like.bytes?.map (·.length)
     ·refine .inl ⟨ "memory seen as another type: a value of another size",?_,?_⟩ <;>
       ·simp only[Bool.not_true,Bool.false_eq_true,if_false]
        show(if some bytes.length≠like.bytes?.map (·.length)then _ else _)=_
        rw[if_pos hl];rfl
     ·generalize hc:(cells.foldlM (init:=c) fun c (x:Nat×Nat×List UInt8)=>(do
        if x.2.1<first || x.2.1+x.2.2.length>first+bytes.length then MonadExcept.throw "memory seen as another type: a part of a cell written"
        if fz.1≤x.1 && x.1<fz.2 then MonadExcept.throw "a write to bytes that a string shares"
        let some old:=c[x.1]? | MonadExcept.throw "memory seen as another type: no such cell"
        let some new:=old.ofBytes ((bytes.drop (x.2.1-first)).take x.2.2.length)|MonadExcept.throw "memory seen as another type: a bool from a byte other than 0 or 1"
        pure (c.setIfInBounds x.1 new):Except String (Array Value)))=folded
      cases folded with
      | error e'=>
       refine .inl ⟨e',?_,?_⟩ <;>
       ·simp only[Bool.not_true,Bool.false_eq_true,if_false]
        show(if some bytes.length≠like.bytes?.map (·.length)then _ else _)=_
        rw[if_neg hl]
        show((cells.foldlM _ c:Except String (Array Value))>>= _)=_
        erw [hc]
        rfl
      | ok c'=>
       refine .inr ⟨v.heap.setIfInBounds at_.block (.cells c' e fz),cells.map fun(i,_,_)=>{ block:=at_.block,off:=i },?_,?_⟩ <;>
       ·simp only[Bool.not_true,Bool.false_eq_true,if_false]
        show(if some bytes.length≠like.bytes?.map (·.length)then _ else _)=_
        rw[if_neg hl]
        show((cells.foldlM _ c:Except String (Array Value))>>= _)=_
        erw [hc]
        rfl
 unfold World.farStore World.noCell
 rw[h.heap]
 split
 ·rename_i at_ u _
  rcases key at_ u with⟨e,h1,h2⟩|⟨hp,l,h1,h2⟩
  ·rw[h1,h2];exact .inl ⟨_,rfl,rfl⟩
  ·rw[h1,h2];exact .inr ⟨_,_,rfl,rfl⟩
 ·exact .inl ⟨_,rfl,rfl⟩
theorem Shift.ask {β:Type} (k:Ask β):∀{v w:World},Shift v w→(w.ask k).1=(v.ask k).1∧Shift (v.ask k).2 (w.ask k).2∧(w.ask k).2.tape=w.tape∧(v.ask k).2.tape=v.tape:=by
 induction k with
 | done a=>intro v w h;exact⟨rfl,h,rfl,rfl⟩
 | ask what range k ih=>
  intro v w h
  unfold World.ask
  simp only
  split
  ·exact ih _ h
  ·have e:=h.alike 0 (Question.extern what range)
   simp only[Nat.add_zero]at e
   rw[e]
   exact ih _ h.drew
theorem Shift.sys {v w:World} (h:Shift v w) (c:Sys):(w.sys c).1=(v.sys c).1∧Shift (v.sys c).2 (w.sys c).2∧(w.sys c).2.tape=w.tape∧(v.sys c).2.tape=v.tape:=by
 have key:=Shift.ask (Kernel.perform c v.os) h
 unfold World.sys
 rw[h.os]
 revert key
 cases hv:v.ask (Kernel.perform c v.os)with
 | mk r v1=>
  cases hw:w.ask (Kernel.perform c v.os)with
  | mk r' w1=>
   rintro⟨rfl,k2,k3,k4⟩
   obtain⟨r1,r2⟩:=r'
   cases r1<;>first
    | exact⟨rfl,h,rfl,rfl⟩
    | exact⟨rfl,⟨k2.heap,rfl,k2.output,k2.alike⟩,k3,k4⟩
theorem run_shift {α:Type} (e:Sem α):∀{v w:World},Shift v w→SameR w v (e.run P v) (e.run P w):=by
 induction e with
 | pure a=>intro v w h;exact⟨rfl,h,rfl,rfl⟩
 | load m a k ih=>
  intro v w h
  simp only[Sem.run,h.cell,h.farLoad]
  split
  ·exact ih _ h
  ·split
   ·exact ih _ h
   ·exact⟨rfl,h,rfl,rfl⟩
 | store m a x k ih=>
  intro v w h
  have form:(∀u:World,(Sem.store m a x k).run P u=(match u.cell? a with
    | some _=>if u.frozen? a then Result.halt (.unsupported (.unsafePointer "a write to bytes that a string shares")) u else k.run P (u.setCell a x)
    | none=>match u.farStore P a x (m==.atomic)with
     | .ok (w,_)=>k.run P w
     | .error h=>.halt h u))∨∃s,∀u:World,(Sem.store m a x k).run P u=.halt (.stuck s) u:=by
   cases x<;>first|exact .inl fun _=>rfl|exact .inr ⟨_,fun _=>rfl⟩
  rcases form with form|⟨s,hv⟩
  case inr=>rw[hv,hv];exact⟨rfl,h,rfl,rfl⟩
  rw[form,form,h.cell,h.frozen]
  split
  ·split
   ·exact⟨rfl,h,rfl,rfl⟩
   ·have:w.setCell a x={ w with heap:=(v.setCell a x).heap }:=by unfold World.setCell;rw[h.heap]
    rw[this]
    exact ih (h.heap' _)
  ·rcases h.farStore (P:=P) a x (m==.atomic)with⟨e,h1,h2⟩|⟨hp,l,h1,h2⟩
   ·rw[h1,h2];exact⟨rfl,h,rfl,rfl⟩
   ·rw[h1,h2];exact ih (h.heap' _)
 | new o k ih=>intro v w h;simp only[Sem.run,h.heap];exact ih _ (h.heap' _)
 | shape r k ih=>intro v w h;simp only[Sem.run,h.shape];exact ih _ h
 | freeze a n k ih=>
  intro v w h
  simp only[Sem.run]
  by_cases hn:n=0
  ·simp only[World.freeze,hn,if_true];exact ih h
  ·have:w.freeze a n={ w with heap:=(v.freeze a n).heap }:=by unfold World.freeze;simp only[hn,if_false,h.heap]
   rw[this]
   have hv:v.freeze a n={ v with heap:=(v.freeze a n).heap }:=by unfold World.freeze;simp only[hn,if_false]
   have:=ih (v:=v.freeze a n) (w:={ w with heap:=(v.freeze a n).heap }) (by rw[hv];exact h.heap' _)
   have ht:(v.freeze a n).tape=v.tape:=by rw[hv]
   unfold SameR at this ⊢
   rw[ht]at this
   exact this
 | frozen a k ih=>intro v w h;simp only[Sem.run,h.frozen];exact ih _ h
 | getObj r k ih=>
  intro v w h
  simp only[Sem.run,h.heap]
  split
  ·exact⟨rfl,h,rfl,rfl⟩
  ·exact ih _ h
  ·exact⟨rfl,h,rfl,rfl⟩
 | setObj r o k ih=>
  intro v w h
  simp only[Sem.run,h.heap]
  split
  ·exact⟨rfl,h,rfl,rfl⟩
  ·exact ih (h.heap' _)
  ·exact⟨rfl,h,rfl,rfl⟩
 | choose q k ih=>
  intro v w h
  simp only[Sem.run]
  split
  ·exact ih _ h
  ·have e:=h.alike 0 q
   simp only[Nat.add_zero]at e
   rw[e]
   exact ih _ h.drew
 | sys c k ih=>
  intro v w h
  obtain⟨h1,h2,h3,h4⟩:=h.sys c
  simp only[Sem.run,h1]
  have:=ih (v.sys c).1 h2
  unfold SameR at this ⊢
  rw[h3,h4]at this
  exact this
 | program k ih=>intro v w h;exact ih _ h
 | mark m k ih=>intro v w h;exact ih h
 | halt hh=>intro v w h;exact⟨rfl,h,rfl,rfl⟩
theorem method_shift {v w:World} (h:Shift v w) (n:Nat) (u:TypeId) (x:Value) (name:String):
  (∃f y v1 w1,(method n u x name).run P v=.ok (f,y) v1∧(method n u x name).run P w=.ok (f,y) w1)∨(∃h1 v1 h2 w1,(method n u x name).run P v=.halt h1 v1∧(method n u x name).run P w=.halt h2 w1):=by
 have:=run_shift (P:=P) (method n u x name) h
 revert this
 cases (method n u x name).run P v<;>cases (method n u x name).run P w<;>simp only[SameR,false_implies]
 ·rintro⟨rfl,_⟩;exact .inl ⟨_,_,_,_,rfl,rfl⟩
 ·intro _;exact .inr ⟨_,_,_,_,rfl,rfl⟩
theorem leads_shift {v w:World} (h:Shift v w) (t:Target) (args:Array Value):t.leads P w args=t.leads P v args:=by
 unfold Target.leads
 cases t with
 | fn f cap=>
  cases f with
  | method name=>
   simp only
   split
   ·rename_i u x _
    rcases method_shift (P:=P) h (P.types.size+Made.depth) u x name with⟨f,y,v1,w1,e1,e2⟩|⟨h1,v1,h2,w1,e1,e2⟩<;>rw[e1,e2]
   ·rfl
  | methodOf u name=>
   simp only
   split
   ·rename_i u x _
    rcases method_shift (P:=P) h (P.types.size+Made.depth) u x name with⟨f,y,v1,w1,e1,e2⟩|⟨h1,v1,h2,w1,e1,e2⟩<;>rw[e1,e2]
   ·rfl
  | _=>rfl
 | _=>rfl
theorem about_shift {v w:World} (h:Shift v w) (ρ:Operand→Value) (o:Oper):o.about P w ρ=o.about P v ρ:=by
 unfold Oper.about
 split
 ·rename_i c _
  have:=run_shift (P:=P) (resolve ρ c o.type) h
  revert this
  cases (resolve ρ c o.type).run P v<;>cases (resolve ρ c o.type).run P w<;>simp only[SameR,false_implies]
  ·rintro⟨rfl,hs,_⟩;exact leads_shift hs _ _
  ·intro _;trivial
 ·rfl
end
structure Good (P:Program) (L:FuncId→Prop) (p:Oper→Bool) (fr:Frame) (pre:List Frame) (v:World):Prop where
 ok:FrameOk P L p fr
 below:∀c∈pre,FrameOk P L p c∧c.mode=.run
 mode:fr.mode=.run∨(fr.mode=.returning∧pre≠[])
 about:∀f,fr.about P v=some f→L f
 plain:∀(r:Nat) (o:Obj),v.heap[r]?=some o→o.plain=true
def OneStep (P:Program) (fr:Frame) (pre:List Frame) (v:World) (fr':Frame) (pre':List Frame) (v':World):Prop:=
 ∃es,stepG P true (G fr pre) v=.go (G fr' pre') v' es∧∀ch,fr'.mode≠.panicking ch
def PathIn (P:Program) (L:FuncId→Prop) (p:Oper→Bool) (S:Frame→List Frame→World→Prop):Nat→Frame→List Frame→World→Prop
 | 0,fr,pre,v=>S fr pre v
 | n+1,fr,pre,v=>S fr pre v∨(Good P L p fr pre v∧∃fr' pre' v',OneStep P fr pre v fr' pre' v'∧PathIn P L p S n fr' pre' v')
def Heapy (S:Frame→List Frame→World→Prop):Prop:=∀fr pre (v w:World),w.heap=v.heap→w.os=v.os→w.output=v.output→S fr pre v→S fr pre w
def Always (P:Program) (L:FuncId→Prop) (p:Oper→Bool) (S:Frame→List Frame→World→Prop) (fr:Frame) (pre:List Frame) (v:World):Prop:=
 ∀τ d,∃n,PathIn P L p S n fr pre (v.re τ d)
def Fin (P:Program) (L:FuncId→Prop) (p:Oper→Bool) (S:Frame→List Frame→World→Prop) (fr:Frame) (pre:List Frame) (v:World):Prop:=
 ∀C:Frame→List Frame→World→Prop,(∀fr pre v,S fr pre v→C fr pre v)→
  (∀fr pre v,(∀τ d,Good P L p fr pre (v.re τ d)∧∃fr' pre' v',OneStep P fr pre (v.re τ d) fr' pre' v'∧C fr' pre' v')→C fr pre v)→C fr pre v
section
variable {P:Program} {L:FuncId→Prop} {p:Oper→Bool} {S:Frame→List Frame→World→Prop}
theorem OneStep.det {fr:Frame} {pre:List Frame} {v:World} {fr1 fr2:Frame} {pre1 pre2:List Frame} {v1 v2:World} (h:OneStep P fr pre v fr1 pre1 v1) (h':OneStep P fr pre v fr2 pre2 v2):
  fr1=fr2∧pre1=pre2∧v1=v2:=by
 obtain⟨es,e,_⟩:=h
 obtain⟨es',e',_⟩:=h'
 rw[e]at e'
 injection e' with e1 e2 e3
 simp only[G,Goroutine.mk.injEq]at e1
 exact⟨e1.1,e1.2.1,e2⟩
theorem twin_none {v w:World} (h:w.heap=v.heap) (ho:w.os=v.os) (hu:w.output=v.output) (hp:∀(r:Nat) (o:Obj),v.heap[r]?=some o→o.plain=true):Twin noOld (fun _=>False) v w:=
 @Twin.mk noOld _ _ _ (by rw[h]) (fun r _ _=>by rw[h]) (fun _ hz=>hz.elim) hp ho.symm hu.symm (fun _ h=>False.elim h) (fun _ h=>False.elim h) (fun _ h=>False.elim h)
theorem twin_none_eq {v w:World} (T:Twin noOld (fun _=>False) v w):w=v.re w.tape w.drawn:=by
 have hh:w.heap=v.heap:=by
  apply Array.ext_getElem?
  intro i
  exact(T.same i id id).symm
 obtain⟨h,t,d,o,u⟩:=w
 simp only[World.re]
 simp only at hh
 have h1:=T.os
 have h2:=T.output
 simp only at h1 h2
 rw[hh,h1,h2]
theorem step_retape (F:Fine P L p) {fr:Frame} {pre:List Frame} {v v':World} {fr':Frame} {pre':List Frame} {τ τ':Nat→Question→Nat} {d d':Nat} (hg:Good P L p fr pre (v.re τ d)) (h:OneStep P fr pre (v.re τ d) fr' pre' v')
  (hag:∀j,j<v'.drawn-d→∀q,τ' (d'+j) q=τ (d+j) q):d≤v'.drawn∧v'.tape=τ∧OneStep P fr pre (v.re τ' d') fr' pre' (v'.re τ' (d'+(v'.drawn-d))):=by
 obtain⟨es,hs,hn⟩:=h
 obtain⟨fr2,pre2,w',e,hf,hm,hp,h1,h2,h3,T',_,h4,h5,h6,h7⟩:=step_carry (Od:=noOld) F (Z:=fun _=>False) (w:=v.re τ' d') hg.ok hg.below hg.mode hg.about (twin_none rfl rfl rfl hg.plain) (fun _ h=>h.elim) hs hn hag
 simp only[G,Goroutine.mk.injEq]at e
 obtain⟨rfl,rfl,_⟩:=e
 refine⟨h1,h2,es,?_,hn⟩
 have e7:=h7 true []
 rw[List.append_nil,List.append_nil]at e7
 rw[e7,twin_none_eq T',h4,h5]
 rfl
theorem about_frame_shift {fr:Frame} (hok:FrameOk P L p fr) (hm:fr.mode=.run∨fr.mode=.returning) {v w:World} (h:Shift v w):fr.about P w=fr.about P v:=by
 obtain⟨fn,tmps,todo,defers,mode,kind,ro⟩:=fr
 obtain⟨h1,h2,h3,h4,h5⟩:=hok
 simp only at h1 h2 h3 h4 h5 hm
 subst h2 h3 h4
 rcases hm with rfl|rfl
 ·cases todo with
  | nil=>rfl
  | cons it k=>
   have hit:=h5 it (List.mem_cons_self ..)
   cases it with
   | inRegion ops l=>
    cases l with
    | nil=>rfl
    | cons i rest=>
     cases ho:ops[i]? with
     | none=>simp only[Frame.about,ho]
     | some o=>rw[about_oper ho,about_oper ho];exact about_shift h _ _
   | code c=>cases c<;>first|rfl|(simp[Item.fine,Code.allOps]at hit;done)
   | call a b c d=>simp[Item.fine]at hit
   | _=>rfl
 ·rfl
theorem path_shift (F:Fine P L p) (hS:Heapy S):∀(n:Nat) {fr:Frame} {pre:List Frame} {v w:World},PathIn P L p S n fr pre v→Shift v w→PathIn P L p S n fr pre w
 | 0,_,_,_,_,h,hs=>hS _ _ _ _ hs.heap hs.os hs.output h
 | n+1,fr,pre,v,w,h,hs=>by
  rcases h with h|⟨hg,fr',pre',v',h1,h2⟩
  ·exact .inl (hS _ _ _ _ hs.heap hs.os hs.output h)
  ·refine .inr ⟨⟨hg.ok,hg.below,hg.mode,?_,by rw[hs.heap];exact hg.plain⟩,?_⟩
   ·rw[about_frame_shift hg.ok (hg.mode.imp id (·.1)) hs];exact hg.about
   ·have hw:w=v.re w.tape w.drawn:=by
     obtain⟨a,b,c,d,e⟩:=w
     simp only[World.re]
     have q1:=hs.heap
     have q2:=hs.os
     have q3:=hs.output
     simp only at q1 q2 q3
     rw[q1,q2,q3]
    have hvre:v=v.re v.tape v.drawn:=rfl
    obtain⟨k1,k2,k3⟩:=step_retape F (v:=v) (τ:=v.tape) (d:=v.drawn) (τ':=w.tape) (d':=w.drawn) (by rw[←hvre];exact hg) (by rw[←hvre];exact h1) (fun j _ q=>hs.alike j q)
    refine⟨fr',pre',v'.re w.tape (w.drawn+(v'.drawn-v.drawn)),by rw[hw];exact k3,path_shift F hS n h2 ⟨rfl,rfl,rfl,fun j q=>?_⟩⟩
    show w.tape (w.drawn+(v'.drawn-v.drawn)+j) q=v'.tape (v'.drawn+j) q
    rw[k2,show w.drawn+(v'.drawn-v.drawn)+j=w.drawn+((v'.drawn-v.drawn)+j)from by omega,hs.alike,show v.drawn+(v'.drawn-v.drawn+j)=v'.drawn+j from by omega]
theorem always_step (F:Fine P L p) (hS:Heapy S) {fr:Frame} {pre:List Frame} {v:World} (h:Always P L p S fr pre v) (hn:¬S fr pre v) (τ:Nat→Question→Nat) (d:Nat):
  Good P L p fr pre (v.re τ d)∧∃fr' pre' v',OneStep P fr pre (v.re τ d) fr' pre' v'∧Always P L p S fr' pre' v':=by
 have hnot:∀τ d,¬S fr pre (v.re τ d):=fun τ d hs=>hn (hS _ _ (v.re τ d) _ rfl rfl rfl hs)
 have one:∀τ d,∃n,Good P L p fr pre (v.re τ d)∧∃fr' pre' v',OneStep P fr pre (v.re τ d) fr' pre' v'∧PathIn P L p S n fr' pre' v':=by
  intro τ d
  obtain⟨n,hp⟩:=h τ d
  cases n with
  | zero=>exact(hnot τ d hp).elim
  | succ n=>
   rcases hp with hp|hp
   ·exact(hnot τ d hp).elim
   ·exact⟨n,hp⟩
 obtain⟨n,hg,fr',pre',v',h1,h2⟩:=one τ d
 refine⟨hg,fr',pre',v',h1,fun τ' d'=>?_⟩
 have hk:d≤v'.drawn:=(step_retape F hg h1 (τ':=τ) (d':=d) (fun _ _ _=>rfl)).1
 obtain⟨n2,hg2,fr2,pre2,v2,k1,k2⟩:=one (fun i q=>if i<v'.drawn then τ i q else τ' (d'+(i-v'.drawn)) q) d
 obtain⟨_,_,k3⟩:=step_retape F hg h1 (τ':=fun i q=>if i<v'.drawn then τ i q else τ' (d'+(i-v'.drawn)) q) (d':=d) (fun j hj q=>by rw[if_pos (by omega)])
 obtain⟨rfl,rfl,rfl⟩:=k1.det k3
 refine⟨n2,path_shift F hS n2 k2 ⟨rfl,rfl,rfl,fun j q=>?_⟩⟩
 show τ' (d'+j) q=(if d+(v'.drawn-d)+j<v'.drawn then τ (d+(v'.drawn-d)+j) q else τ' (d'+(d+(v'.drawn-d)+j-v'.drawn)) q)
 rw[if_neg (by omega),show d'+(d+(v'.drawn-d)+j-v'.drawn)=d'+j from by omega]
theorem fin_stop {fr:Frame} {pre:List Frame} {v:World} (h:S fr pre v):Fin P L p S fr pre v:=fun _ h1 _=>h1 _ _ _ h
theorem fin_step {fr:Frame} {pre:List Frame} {v:World} (h:∀τ d,Good P L p fr pre (v.re τ d)∧∃fr' pre' v',OneStep P fr pre (v.re τ d) fr' pre' v'∧Fin P L p S fr' pre' v'):Fin P L p S fr pre v:=
 fun C h1 h2=>h2 _ _ _ fun τ d=>⟨(h τ d).1,let ⟨fr',pre',v',a,b⟩:=(h τ d).2;⟨fr',pre',v',a,b C h1 h2⟩⟩
theorem seq_of {α:Type} (x0:α) (R:α→α→Prop) (h:∀x,∃y,R x y):∃f:Nat→α,f 0=x0∧∀n,R (f n) (f (n+1)):=by
 obtain⟨g,hg⟩:=Classical.axiomOfChoice h
 exact⟨fun n=>Nat.rec x0 (fun _ y=>g y) n,rfl,fun n=>hg _⟩
theorem always_fin (F:Fine P L p) (hS:Heapy S) {fr:Frame} {pre:List Frame} {v:World} (h:Always P L p S fr pre v):Fin P L p S fr pre v:=by
 refine Classical.byContradiction fun hbad=>?_
 let St:={ x:Frame×List Frame×World // Always P L p S x.1 x.2.1 x.2.2∧¬Fin P L p S x.1 x.2.1 x.2.2 }
 have next:∀x:St,∃y:St,∃τ d,Good P L p x.1.1 x.1.2.1 (x.1.2.2.re τ d)∧OneStep P x.1.1 x.1.2.1 (x.1.2.2.re τ d) y.1.1 y.1.2.1 y.1.2.2:=by
  rintro⟨⟨fr,pre,v⟩,ha,hb⟩
  have hns:¬S fr pre v:=fun hs=>hb (fin_stop hs)
  refine Classical.byContradiction fun hno=>hb (fin_step fun τ d=>?_)
  obtain⟨hg,fr',pre',v',h1,h2⟩:=always_step F hS ha hns τ d
  refine⟨hg,fr',pre',v',h1,Classical.byContradiction fun hnf=>hno ⟨⟨(fr',pre',v'),h2,hnf⟩,τ,d,hg,h1⟩⟩
 obtain⟨f,f0,hf⟩:=seq_of (α:=St) ⟨(fr,pre,v),h,hbad⟩ _ next
 obtain⟨τs,hτ⟩:=Classical.axiomOfChoice hf
 obtain⟨ds,hd⟩:=Classical.axiomOfChoice hτ
 let D:Nat→Nat:=fun i=>Nat.rec 0 (fun i n=>n+((f (i+1)).1.2.2.drawn-ds i)) i
 have D0:D 0=0:=rfl
 have Ds:∀i,D (i+1)=D i+((f (i+1)).1.2.2.drawn-ds i):=fun _=>rfl
 have Dm:∀i j,i≤j→D i≤D j:=by
  intro i j hij
  induction hij with
  | refl=>exact Nat.le_refl _
  | step _ ih=>exact Nat.le_trans ih (by rw[Nat.succ_eq_add_one,Ds];omega)
 have Du:∀n i j,D i≤n→n<D (i+1)→D j≤n→n<D (j+1)→i=j:=by
  intro n i j a b c e
  rcases Nat.lt_trichotomy i j with hl|hl|hl
  ·have:=Dm (i+1) j hl;omega
  ·exact hl
  ·have:=Dm (j+1) i hl;omega
 have tape:∃τ:Nat→Question→Nat,∀i j,j<(f (i+1)).1.2.2.drawn-ds i→∀q,τ (D i+j) q=τs i (ds i+j) q:=by
  have pick:∀n:Nat,∃g:Question→Nat,∀i,D i≤n→n<D (i+1)→∀q,g q=τs i (ds i+(n-D i)) q:=by
   intro n
   by_cases hn:∃i,D i≤n∧n<D (i+1)
   ·obtain⟨i,hi1,hi2⟩:=hn
    refine⟨fun q=>τs i (ds i+(n-D i)) q,fun i' a b q=>?_⟩
    obtain rfl:=Du n i i' hi1 hi2 a b
    rfl
   ·exact⟨fun _=>0,fun i a b=>(hn ⟨i,a,b⟩).elim⟩
  obtain⟨g,hg⟩:=Classical.axiomOfChoice pick
  refine⟨g,fun i j hj q=>?_⟩
  rw[hg (D i+j) i (by omega) (by rw[Ds];omega) q,show D i+j-D i=j from by omega]
 obtain⟨τ,hτag⟩:=tape
 have steps:∀i,OneStep P (f i).1.1 (f i).1.2.1 ((f i).1.2.2.re τ (D i)) (f (i+1)).1.1 (f (i+1)).1.2.1 ((f (i+1)).1.2.2.re τ (D (i+1))):=by
  intro i
  obtain⟨hg,h1⟩:=hd i
  have:=(step_retape F hg h1 (τ':=τ) (d':=D i) (hτag i)).2.2
  rw[Ds]
  exact this
 have never:∀n i,¬PathIn P L p S n (f i).1.1 (f i).1.2.1 ((f i).1.2.2.re τ (D i)):=by
  intro n
  induction n with
  | zero=>exact fun i hs=>(f i).2.2 (fin_stop (hS _ _ ((f i).1.2.2.re τ (D i)) _ rfl rfl rfl hs))
  | succ n ih=>
   intro i hs
   rcases hs with hs|⟨_,fr',pre',v',h1,h2⟩
   ·exact(f i).2.2 (fin_stop (hS _ _ ((f i).1.2.2.re τ (D i)) _ rfl rfl rfl hs))
   ·obtain⟨e1,e2,e3⟩:=h1.det (steps i)
    rw[e1,e2,e3]at h2
    exact ih (i+1) h2
 obtain⟨n,hn⟩:=(f 0).2.1 τ (D 0)
 exact never n 0 hn
end
section
variable {P:Program} {L:FuncId→Prop} {p:Oper→Bool}
theorem an0 {fr:Frame} {cs:List Frame} {v v':World} {g':Goroutine} {es:Array Event} (h:stepG P true (G fr cs) v=.go g' v' es):
  step P (lone fr cs v)=.next { world:=v',gs:=#[g'],rest:={ timers:=#[],alone:=none,slice:=none } }:=by
 rw[step,stepT,move_lone]
 simp only[G]at h
 simp[runT,lone,Array.swapAt!,h]
theorem step_lone_end {fr:Frame} {cs:List Frame} {v v':World} {o:Outcome} {es:Array Event} (h:stepG P true (G fr cs) v=.ended o v' es):
  step P (lone fr cs v)=.ended o v':=by
 rw[step,stepT,move_lone]
 simp only[G]at h
 simp[runT,lone,Array.swapAt!,h]
structure Falls (P:Program) (fr:Frame):Prop where
 fn:∃fn,P.funcs[fr.fn]?=some fn∧P.inits.idxOf? fr.fn=none
 defers:fr.defers=[]
 mode:∃ch,fr.mode=.panicking ch∧ch.head?.any (·.goexit)=false
theorem step_kinds (F:Fine P L p) {fr:Frame} {pre:List Frame} {v:World} (hg:Good P L p fr pre v):
  (∃o w es,stepG P true (G fr pre) v=.ended o w es)∨(∃fr' v' es,stepG P true (G fr pre) v=.go (G fr' pre) v' es∧Falls P fr')∨
  (∃g' v' es,stepG P true (G fr pre) v=.go g' v' es∧∀ch,g'.frame.mode≠.panicking ch):=by
 obtain⟨⟨h1,h2,h3,h4,h5⟩,hpre,hm,hab,hp⟩:=hg
 obtain⟨fn,tmps,todo,defers,mode,kind,roundOf⟩:=fr
 simp only at h1 h2 h3 h4 h5 hm
 subst h2 h3 h4
 rcases hm with rfl|⟨rfl,hne⟩
 ·cases todo with
  | nil=>exact .inr (.inr ⟨_,_,_,by simp[G,stepG,stepG.exec];exact⟨rfl,rfl,rfl⟩,fun ch=>by simp⟩)
  | cons it k=>
   have hit:=h5 it (List.mem_cons_self ..)
   cases it with
   | inBlock id=>exact .inr (.inr ⟨_,_,_,by simp[G,stepG,stepG.exec];exact⟨rfl,rfl,rfl⟩,fun ch=>by simp⟩)
   | inLoop c=>exact .inr (.inr ⟨_,_,_,by simp[G,stepG,stepG.exec];exact⟨rfl,rfl,rfl⟩,fun ch=>by simp⟩)
   | inScope c=>simp[Item.fine]at hit
   | inRangeFunc l=>simp[Item.fine]at hit
   | endRangeFunc l=>simp[Item.fine]at hit
   | beginRound=>simp[Item.fine]at hit
   | call d a b c=>simp[Item.fine]at hit
   | extern a b=>simp[Item.fine]at hit
   | code c=>
    cases c with
    | rangeFunc f ps a b=>simp[Item.fine,Code.allOps]at hit
    | scope c=>simp[Item.fine,Code.allOps]at hit
    | goto l=>simp[Item.fine,Code.allOps]at hit
    | refuse s=>exact .inl ⟨_,_,_,by simp only[G,stepG,stepG.exec];rfl⟩
    | cond c a b=>
     cases hv:(Frame.mk fn tmps (.code (.cond c a b)::k) [] .run .normal none).eval c with
     | bool t=>exact .inr (.inr ⟨_,_,_,by simp[G,stepG,stepG.exec,hv];exact⟨rfl,rfl,rfl⟩,fun ch=>by simp⟩)
     | _=>exact .inl ⟨_,_,_,by simp only[G,stepG,stepG.exec,hv];rfl⟩
    | exit id=>
     cases hx:exitTo id k with
     | none=>exact .inl ⟨_,_,_,by simp only[G,stepG,stepG.exec,hx,Option.elim];rfl⟩
     | some k'=>exact .inr (.inr ⟨_,_,_,by simp[G,stepG,stepG.exec,hx];exact⟨rfl,rfl,rfl⟩,fun ch=>by simp⟩)
    | region id ops draw=>
     cases draw with
     | false=>exact .inr (.inr ⟨_,_,_,by simp[G,stepG,stepG.exec];exact⟨rfl,rfl,rfl⟩,fun ch=>by simp⟩)
     | true=>exact .inr (.inr ⟨_,_,_,by simp[G,stepG,stepG.exec,choose,Sem.run,Question.forced,Question.cut];exact⟨rfl,rfl,rfl⟩,fun ch=>by simp⟩)
    | _=>exact .inr (.inr ⟨_,_,_,by simp[G,stepG,stepG.exec];exact⟨rfl,rfl,rfl⟩,fun ch=>by simp⟩)
   | inRegion ops l=>
    cases l with
    | nil=>exact .inr (.inr ⟨_,_,_,by simp[G,stepG,stepG.exec];exact⟨rfl,rfl,rfl⟩,fun ch=>by simp⟩)
    | cons i rest=>
     by_cases hw:((ops[i]?).map (Region.wanted · (yielded ops tmps))).getD false=true
     ·cases ho:ops[i]? with
      | none=>rw[ho]at hw;simp at hw
      | some o=>
       have hpo:p o=true:=by
        simp only[Item.fine,Array.all_eq_true]at hit
        obtain⟨hlt,rfl⟩:=Array.getElem?_eq_some_iff.1 ho
        exact hit i hlt
       rw[about_oper ho]at hab
       have ht:=F.op o hpo _ v hp hab
       rw[ho]at hw
       have hap:stepG P true (G (Frame.mk fn tmps (.inRegion ops (i::rest)::k) [] .run .normal none) pre) v=
         stepG.apply P true (Frame.mk fn tmps (.inRegion ops (i::rest)::k) [] .run .normal none) pre none (execOp (Frame.mk fn tmps (.inRegion ops (i::rest)::k) [] .run .normal none).eval o) v:=by
        simp only[Option.map_some,Option.getD_some]at hw
        simp[G,stepG,stepG.exec,stepG.oper,Frame.oper?,ho,hw]
       rw[hap]
       cases hr1:(execOp (Frame.mk fn tmps (.inRegion ops (i::rest)::k) [] .run .normal none).eval o).runT P v #[]with
       | mk r es1=>
        cases r with
        | ok n v1=>
         have hn:NextOk L n:=by
          obtain⟨_,_,hK,_⟩:=twin_at (Od:=noOld) (Z:=fun _=>False) ht (v:=v) (w:=v) (twin_none rfl rfl rfl hp) (fun _ h=>h.elim) hr1 (fun _ _ _=>rfl)
          exact hK
         refine .inr (.inr ?_)
         cases n<;>first|exact hn.elim|skip
         all_goals
          refine⟨_,_,_,by simp only[stepG.apply,hr1,if_true,GStep.after,Array.append_empty];rfl,fun ch=>?_⟩
          simp[aj7,Frame.enter]
        | halt hh v1=>
         have hd:=hard_at ht hp hr1
         cases hh with
         | panic x=>
          refine .inr (.inl ⟨(Frame.mk fn tmps (.inRegion ops (i::rest)::k) [] .run .normal none).raise [{ v:=x,recovered:=false }],_,_,by simp only[stepG.apply,hr1,if_true,GStep.after,Array.append_empty];rfl,h1,rfl,_,rfl,rfl⟩)
         | stuck x=>exact .inl ⟨_,_,_,by simp only[stepG.apply,hr1,if_true,GStep.after];rfl⟩
         | unsupported x=>
          cases x with
          | initOrder g=>simp[Halt.hard]at hd
          | _=>exact .inl ⟨_,_,_,by simp only[stepG.apply,hr1,if_true,GStep.after];rfl⟩
         | _=>simp[Halt.hard]at hd
     ·have hw':((ops[i]?).map (Region.wanted · (yielded ops tmps))).getD false=false:=by simpa using hw
      exact .inr (.inr ⟨_,_,_,by simp[G,stepG,stepG.exec,hw'];exact⟨rfl,rfl,rfl⟩,fun ch=>by simp[aj7]⟩)
 ·cases pre with
  | nil=>exact absurd rfl hne
  | cons c pre=>
   obtain⟨fn0,hf0,_⟩:=h1
   have hc:=hpre c (List.mem_cons_self ..)
   cases hr1:(results fn0 tmps).runT P v #[]with
   | mk r es1=>
    cases r with
    | ok x v1=>exact .inr (.inr ⟨_,_,_,by simp only[G,stepG,unwind,hf0,hr1,doReturn,GStep.after,Array.append_empty];rfl,fun ch=>by simp[aj7,hc.2]⟩)
    | halt hh v1=>
     refine .inl ?_
     cases hh<;>exact⟨_,_,_,by simp only[G,stepG,unwind,hf0,hr1,GStep.after];rfl⟩
theorem falls_never {N:Fence} (hal:N.alive=true) {m m2:Machine} (h:StepsIn (Machine.fenced P N) P m m2):∀{fr:Frame} {pre:List Frame} {v:World} {fr2:Frame} {w2:World},
  m=lone fr pre v→m2=lone fr2 [] w2→(∀ch,fr2.mode≠.panicking ch)→Falls P fr→(∀c∈pre,FrameOk P L p c∧c.mode=.run)→False:=by
 induction h with
 | refl m=>
  intro fr pre v fr2 w2 e1 e2 hm hf _
  obtain⟨ch,hc,_⟩:=hf.mode
  rw[e1]at e2
  simp only[lone,Machine.mk.injEq,Array.mk.injEq,List.cons.injEq,Goroutine.mk.injEq]at e2
  obtain⟨_,⟨⟨rfl,_⟩,_⟩,_⟩:=e2
  exact hm _ hc
 | head hI hs h' ih=>
  intro fr pre v fr2 w2 e1 e2 hm hf hpre
  subst e1
  obtain⟨ch,hc,hx⟩:=hf.mode
  obtain⟨fn0,hf0,_⟩:=hf.fn
  have hcat:fr.catches P=false:=by simp[Frame.catches,hf0]
  cases pre with
  | cons c pre=>
   have hst:stepG P true (G fr (c::pre)) v=.go (G (c.raise ch) pre) v #[]:=by
    simp[G,stepG,unwind,hc,hf.defers,hcat]
   rw[an0 hst]at hs
   injection hs with hs
   have hcc:=hpre c (List.mem_cons_self ..)
   have hra:c.raise ch={ c with mode:=.panicking ch }:=by simp[Frame.raise,hcc.2]
   exact ih (fr:=c.raise ch) (pre:=pre) (v:=v) (fr2:=fr2) (w2:=w2) hs.symm e2 hm (by rw[hra];exact⟨hcc.1.fn,hcc.1.defers,ch,rfl,hx⟩) (fun d hd=>hpre d (List.mem_cons_of_mem _ hd))
  | nil=>
   cases hr:(reportChain ch false).run P v with
   | ok td v1=>
    have hst:∃d,stepG P true (G fr []) v=.go { frame:=fr,callers:=[],status:=.running,dying:=some d } v1 #[]:=by
     refine⟨{ todo:=td,texts:=[],calling:=false,pending:= "",runtimeError:=isRuntimeError P (ch.head?.map (·.v)) },?_⟩
     simp only[G,stepG,unwind,hc,hf.defers,hcat,hx,hr]
     rfl
    obtain⟨d,hst⟩:=hst
    rw[an0 hst]at hs
    injection hs with hs
    cases h' with
    | refl=>
     rw[←hs]at e2
     simp[lone]at e2
    | head hI2 _ _=>
     have:=(hI2 { frame:=fr,callers:=[],status:=.running,dying:=some d } (by rw[←hs];simp)).1 hal
     simp at this
   | halt hh v1=>
    have hst:∃o w es,stepG P true (G fr []) v=.ended o w es:=by
     cases hh<;>exact⟨_,_,_,by simp only[G,stepG,unwind,hc,hf.defers,hcat,hx,hr];rfl⟩
    obtain⟨o,w,es,hst⟩:=hst
    rw[step_lone_end hst]at hs
    cases hs
theorem path_of (F:Fine P L p) {N:Fence} (hal:N.alive=true) (hfn:∀f,N.fn f→L f) {S:Frame→List Frame→World→Prop} {m m2:Machine} (h:StepsIn (Machine.fenced P N) P m m2):
  ∀{fr:Frame} {pre:List Frame} {v:World} {fr2:Frame} {w2:World},m=lone fr pre v→m2=lone fr2 [] w2→(∀ch,fr2.mode≠.panicking ch)→S fr2 [] w2→
   FrameOk P L p fr→(∀c∈pre,FrameOk P L p c∧c.mode=.run)→(fr.mode=.run∨fr.mode=.returning)→(∀(r:Nat) (o:Obj),v.heap[r]?=some o→o.plain=true)→∃n,PathIn P L p S n fr pre v:=by
 induction h with
 | refl m=>
  intro fr pre v fr2 w2 e1 e2 hm hS _ _ _ _
  rw[e1]at e2
  simp only[lone,Machine.mk.injEq,Array.mk.injEq,List.cons.injEq,Goroutine.mk.injEq]at e2
  obtain⟨rfl,⟨⟨rfl,rfl,_⟩,_⟩,_⟩:=e2
  exact⟨0,hS⟩
 | head hI hs h' ih=>
  intro fr pre v fr2 w2 e1 e2 hm hS hok hpre hmode hp
  subst e1
  by_cases hend:fr.mode=.returning∧pre=[]
  ·exfalso
   obtain⟨hr,rfl⟩:=hend
   obtain⟨fn0,hf0,hin⟩:=hok.fn
   have hst:∃o w es,stepG P true (G fr []) v=.ended o w es:=by
    cases hr1:(results fn0 fr.tmps).runT P v #[]with
    | mk r es1=>
     cases r with
     | ok x v1=>
      have hk:=hok.kind
      have e:stepG P true (G fr []) v=(GStep.ended (.done x) v1).after (seen P fr.fn es1):=by
       simp only[G,stepG,unwind,hr,hok.defers,hf0,hr1,doReturn,hk,hin,Bool.not_true,Bool.false_eq_true,if_false]
      exact⟨_,_,_,e⟩
     | halt hh v1=>cases hh<;>exact⟨_,_,_,by simp only[G,stepG,unwind,hr,hok.defers,hf0,hr1,GStep.after];rfl⟩
   obtain⟨o,w,es,hst⟩:=hst
   rw[step_lone_end hst]at hs
   cases hs
  ·have hg:Good P L p fr pre v:=by
    refine⟨hok,hpre,?_,fun f hf=>?_,hp⟩
    ·rcases hmode with h|h
     ·exact .inl h
     ·exact .inr ⟨h,fun e=>hend ⟨h,e⟩⟩
    ·exact hfn f ((hI { frame:=fr,callers:=pre,status:=.running,dying:=none } (by simp[lone])).2.2.1 f hf)
   rcases step_kinds F hg with⟨o,w,es,hst⟩|⟨fr',v',es,hst,hfl⟩|⟨g',v',es,hst,hnp⟩
   ·rw[step_lone_end hst]at hs;cases hs
   ·rw[an0 hst]at hs
    injection hs with hs
    exact(falls_never hal h' (fr:=fr') (pre:=pre) (v:=v') hs.symm e2 hm hfl hpre).elim
   ·obtain⟨fr',pre',w',eg,hf,hmo,hpr,_,_,_,T',_,_,_,_,_⟩:=step_carry (Od:=noOld) F (Z:=fun _=>False) (w:=v) hok hpre hg.mode hg.about (twin_none rfl rfl rfl hp) (fun _ h=>h.elim) hst hnp (fun _ _ _=>rfl)
    subst eg
    rw[an0 hst]at hs
    injection hs with hs
    obtain⟨n,hn⟩:=ih (fr:=fr') (pre:=pre') (v:=v') (fr2:=fr2) (w2:=w2) hs.symm e2 hm hS hf hpr hmo T'.plain
    exact⟨n+1,.inr ⟨hg,fr',pre',v',⟨es,hst,hnp⟩,hn⟩⟩
end
section
variable {P:Program} {L:FuncId→Prop} {p:Oper→Bool} {f:FuncId} {Post:Value→World→Prop}
end
end Go.Fxa
