/- A piece of code, walked alone in a frame of its own, carried over to the frame in which it stands: whatever follows it, whatever is deferred there, whichever function it is. A piece of code, walked alone on every tape: carried out by the machine, beside leavers, and beside a bystander. More blocks are dead from now on. A piece of code, in one go: beside leavers, and beside a bystander. One holds, the other one sits: what is carried along. The token goes from one to the other: who gave it walks to its next seat. -/
import Derived.Test.YtmhplpfpcnjekaaGreatK09
namespace Go.Fxa
open Go.Conc
open Go.ConcN (sumTo upd sumTo_upd upd_ne upd_same)
def stopIt:Item:=.code (.refuse "")
theorem exitTo_front {id:Nat} {A B:List Item} (hA:exitTo id A=none):∀{fs k':List Item},exitTo id (fs++A)=some k'→∃fs',k'=fs'++A∧exitTo id (fs++B)=some (fs'++B)
 | [],k',h=>by rw[List.nil_append,hA]at h;cases h
 | it::fs,k',h=>by
  cases it with
  | inBlock id'=>
   simp only[List.cons_append,exitTo]at h ⊢
   split at h
   ·rename_i hc
    obtain rfl:=Option.some.inj h
    exact⟨fs,rfl,by rw[if_pos hc]⟩
   ·rename_i hc
    obtain⟨fs',e,h'⟩:=exitTo_front hA h
    exact⟨fs',e,by rw[if_neg hc];exact h'⟩
  | _=>
   simp only[List.cons_append,exitTo]at h ⊢
   exact exitTo_front hA h
section
variable {P:Program} {L:FuncId→Prop} {p:Oper→Bool} {Z:Nat→Prop}
theorem run_front {fn fnR:FuncId} (hq:∀es,seen P fnR es=seen P fn es) {tmps:Array Value} {it:Item} {fs A B:List Item} {ds:List Deferred} {kd:CallKind} (hkd:(kd==CallKind.early)=false) (hA:∀id,exitTo id A=none) (hit:it.fine p=true)
  (hdr:∀id ops,it≠.code (.region id ops true)) {w w':World} {X:List Frame} {g':Goroutine} {es:Array Event}
  (hn:∀ops i rest o,it=.inRegion ops (i::rest)→ops[i]?=some o→Region.wanted o (yielded ops tmps)=true→∃n w1 es1,(execOp (Frame.mk fn tmps (it::(fs++A)) [] .run .normal none).eval o).runT P w #[]=(.ok n w1,es1)∧NextOk L n)
  (h:stepG P true (G (Frame.mk fn tmps (it::(fs++A)) [] .run .normal none) X) w=.go g' w' es):
  (∃tmps' fs' m,(m=.run∨m=.returning)∧g'=G (Frame.mk fn tmps' (fs'++A) [] m .normal none) X∧∀main Y,stepG P main (G (Frame.mk fnR tmps (it::(fs++B)) ds .run kd none) Y) w=.go (G (Frame.mk fnR tmps' (fs'++B) ds m kd none) Y) w' es)∨
  (∃f args,(∃ops i rest,it=.inRegion ops (i::rest))∧g'=G (Frame.enter P f args .normal) (Frame.mk fn tmps (it::(fs++A)) [] .run .normal none::X)∧
   ∀main Y,stepG P main (G (Frame.mk fnR tmps (it::(fs++B)) ds .run kd none) Y) w=.go (G (Frame.enter P f args .normal) (Frame.mk fnR tmps (it::(fs++B)) ds .run kd none::Y)) w' es):=by
 have quiet:∀{tmps':Array Value} {fs':List Item} {m:FrameMode},(m=.run∨m=.returning)→stepG P true (G (Frame.mk fn tmps (it::(fs++A)) [] .run .normal none) X) w=.go (G (Frame.mk fn tmps' (fs'++A) [] m .normal none) X) w #[]→
   (∀main Y,stepG P main (G (Frame.mk fnR tmps (it::(fs++B)) ds .run kd none) Y) w=.go (G (Frame.mk fnR tmps' (fs'++B) ds m kd none) Y) w #[])→
   (∃tmps' fs' m,(m=.run∨m=.returning)∧g'=G (Frame.mk fn tmps' (fs'++A) [] m .normal none) X∧∀main Y,stepG P main (G (Frame.mk fnR tmps (it::(fs++B)) ds .run kd none) Y) w=.go (G (Frame.mk fnR tmps' (fs'++B) ds m kd none) Y) w' es):=by
  intro tmps' fs' m hm e1 e2
  rw[e1]at h
  injection h with g1 g2 g3
  subst g1 g2 g3
  exact⟨tmps',fs',m,hm,rfl,e2⟩
 cases it with
 | inBlock id=>exact .inl (quiet (tmps':=tmps) (fs':=fs) (.inl rfl) (by simp[G,stepG,stepG.exec]) (fun main Y=>by simp[G,stepG,stepG.exec]))
 | inLoop c=>exact .inl (quiet (tmps':=tmps) (fs':=.code c::.inLoop c::fs) (.inl rfl) (by simp[G,stepG,stepG.exec]) (fun main Y=>by simp[G,stepG,stepG.exec]))
 | inScope c=>simp[Item.fine]at hit
 | inRangeFunc l=>simp[Item.fine]at hit
 | endRangeFunc l=>simp[Item.fine]at hit
 | beginRound=>simp[Item.fine]at hit
 | call d a b c=>simp[Item.fine]at hit
 | extern a b=>simp[Item.fine]at hit
 | code c=>
  cases c with
  | skip=>exact .inl (quiet (tmps':=tmps) (fs':=fs) (.inl rfl) (by simp[G,stepG,stepG.exec]) (fun main Y=>by simp[G,stepG,stepG.exec]))
  | label l=>exact .inl (quiet (tmps':=tmps) (fs':=fs) (.inl rfl) (by simp[G,stepG,stepG.exec]) (fun main Y=>by simp[G,stepG,stepG.exec]))
  | ret=>exact .inl (quiet (tmps':=tmps) (fs':=.code .ret::fs) (.inr rfl) (by simp[G,stepG,stepG.exec]) (fun main Y=>by simp[G,stepG,stepG.exec]))
  | rangeFunc f ps a b=>simp[Item.fine,Code.allOps]at hit
  | scope c=>simp[Item.fine,Code.allOps]at hit
  | goto l=>simp[Item.fine,Code.allOps]at hit
  | refuse s=>simp[G,stepG,stepG.exec]at h
  | seq a b=>exact .inl (quiet (tmps':=tmps) (fs':=.code a::.code b::fs) (.inl rfl) (by simp[G,stepG,stepG.exec]) (fun main Y=>by simp[G,stepG,stepG.exec]))
  | cond c a b=>
   cases hv:(Frame.mk fn tmps (.code (.cond c a b)::(fs++A)) [] .run .normal none).eval c with
   | bool t=>
    have hv':(Frame.mk fnR tmps (.code (.cond c a b)::(fs++B)) ds .run kd none).eval c=.bool t:=by rw[←hv];cases c<;>rfl
    exact .inl (quiet (tmps':=tmps) (fs':=.code (if t then a else b)::fs) (.inl rfl) (by simp[G,stepG,stepG.exec,hv]) (fun main Y=>by simp[G,stepG,stepG.exec,hv']))
   | _=>simp[G,stepG,stepG.exec,hv]at h
  | block id c=>exact .inl (quiet (tmps':=tmps) (fs':=.code c::.inBlock id::fs) (.inl rfl) (by simp[G,stepG,stepG.exec]) (fun main Y=>by simp[G,stepG,stepG.exec]))
  | loop c=>exact .inl (quiet (tmps':=tmps) (fs':=.code c::.inLoop c::fs) (.inl rfl) (by simp[G,stepG,stepG.exec]) (fun main Y=>by simp[G,stepG,stepG.exec]))
  | exit id=>
   cases hx:exitTo id (fs++A)with
   | none=>simp[G,stepG,stepG.exec,hx]at h
   | some k'=>
    obtain⟨fs',rfl,hx'⟩:=exitTo_front (B:=B) (hA id) hx
    exact .inl (quiet (tmps':=tmps) (fs':=fs') (.inl rfl) (by simp[G,stepG,stepG.exec,hx]) (fun main Y=>by simp[G,stepG,stepG.exec,hx']))
  | region id ops draw=>
   cases draw with
   | true=>exact(hdr id ops rfl).elim
   | false=>exact .inl (quiet (tmps':=tmps) (fs':=.inRegion ops (List.range ops.size)::fs) (.inl rfl) (by simp[G,stepG,stepG.exec]) (fun main Y=>by simp[G,stepG,stepG.exec]))
 | inRegion ops l=>
  cases l with
  | nil=>exact .inl (quiet (tmps':=tmps) (fs':=fs) (.inl rfl) (by simp[G,stepG,stepG.exec]) (fun main Y=>by simp[G,stepG,stepG.exec]))
  | cons i rest=>
   by_cases hw:((ops[i]?).map (Region.wanted · (yielded ops tmps))).getD false=true
   ·cases ho:ops[i]? with
    | none=>rw[ho]at hw;simp at hw
    | some o=>
     rw[ho]at hw
     simp only[Option.map_some,Option.getD_some]at hw
     have hev:(Frame.mk fnR tmps (.inRegion ops (i::rest)::(fs++B)) ds .run kd none).eval=(Frame.mk fn tmps (.inRegion ops (i::rest)::(fs++A)) [] .run .normal none).eval:=funext fun x=>by cases x<;>rfl
     have hap:stepG P true (G (Frame.mk fn tmps (.inRegion ops (i::rest)::(fs++A)) [] .run .normal none) X) w=
       stepG.apply P true (Frame.mk fn tmps (.inRegion ops (i::rest)::(fs++A)) [] .run .normal none) X none (execOp (Frame.mk fn tmps (.inRegion ops (i::rest)::(fs++A)) [] .run .normal none).eval o) w:=by
      simp[G,stepG,stepG.exec,stepG.oper,Frame.oper?,ho,hw]
     have hapR:∀main Y,stepG P main (G (Frame.mk fnR tmps (.inRegion ops (i::rest)::(fs++B)) ds .run kd none) Y) w=
       stepG.apply P true (Frame.mk fnR tmps (.inRegion ops (i::rest)::(fs++B)) ds .run kd none) Y none (execOp (Frame.mk fn tmps (.inRegion ops (i::rest)::(fs++A)) [] .run .normal none).eval o) w:=fun main Y=>by
      rw[←hev]
      simp[G,stepG,stepG.exec,stepG.oper,Frame.oper?,ho,hw]
     rw[hap]at h
     obtain⟨n,w1,es1,hr1,hn'⟩:=hn ops i rest o rfl ho hw
     have fin:∀x,(∃tmps' fs',(Frame.mk fn tmps (.inRegion ops (i::rest)::(fs++A)) [] .run .normal none).finish x=Frame.mk fn tmps' (fs'++A) [] .run .normal none∧
       (Frame.mk fnR tmps (.inRegion ops (i::rest)::(fs++B)) ds .run kd none).finish x=Frame.mk fnR tmps' (fs'++B) ds .run kd none):=fun x=>⟨_,.inRegion ops rest::fs,rfl,rfl⟩
     cases n<;>first|exact hn'.elim|skip
     ·rename_i x
      obtain⟨t',fs',e1,e2⟩:=fin x
      simp only[stepG.apply,hr1,if_true,GStep.after,Array.append_empty]at h
      injection h with g1 g2 g3
      subst g2 g3
      refine .inl ⟨t',fs',.run,.inl rfl,by rw[←g1,e1];rfl,fun main Y=>?_⟩
      rw[hapR]
      simp only[stepG.apply,hr1,if_true,GStep.after,Array.append_empty,e2,hq,hkd,Bool.false_eq_true,if_false]
      rfl
     ·obtain⟨t',fs',e1,e2⟩:=fin undef
      simp only[stepG.apply,hr1,if_true,GStep.after,Array.append_empty]at h
      injection h with g1 g2 g3
      subst g2 g3
      refine .inl ⟨t',fs',.run,.inl rfl,by rw[←g1,e1];rfl,fun main Y=>?_⟩
      rw[hapR]
      simp only[stepG.apply,hr1,if_true,GStep.after,Array.append_empty,e2,hq,hkd,Bool.false_eq_true,if_false]
      rfl
     ·rename_i f args
      simp only[stepG.apply,hr1,if_true,GStep.after,Array.append_empty]at h
      injection h with g1 g2 g3
      subst g2 g3
      refine .inr ⟨f,args,⟨_,_,_,rfl⟩,by rw[←g1];rfl,fun main Y=>?_⟩
      rw[hapR]
      simp only[stepG.apply,hr1,if_true,GStep.after,Array.append_empty,hq,hkd,Bool.false_eq_true,if_false]
      rfl
   ·have hw':((ops[i]?).map (Region.wanted · (yielded ops tmps))).getD false=false:=by simpa using hw
    have fin:∀x,(∃tmps' fs',(Frame.mk fn tmps (.inRegion ops (i::rest)::(fs++A)) [] .run .normal none).finish x=Frame.mk fn tmps' (fs'++A) [] .run .normal none∧
      (Frame.mk fnR tmps (.inRegion ops (i::rest)::(fs++B)) ds .run kd none).finish x=Frame.mk fnR tmps' (fs'++B) ds .run kd none):=fun x=>⟨_,.inRegion ops rest::fs,rfl,rfl⟩
    obtain⟨t',fs',e1,e2⟩:=fin undef
    exact .inl (quiet (tmps':=t') (fs':=fs') (.inl rfl) (by rw[←e1];simp[G,stepG,stepG.exec,hw']) (fun main Y=>by rw[←e2];simp[G,stepG,stepG.exec,hw']))
theorem op_ok {Od:Old} (F:Fine P L p) {fn:FuncId} {tmps:Array Value} {ops:Array Oper} {i:Nat} {rest:List Nat} {k:List Item} {pre:List Frame} {v w v':World} {g':Goroutine} {es:Array Event} {o:Oper} (T:Twin Od Z v w) (hZ:∀r,Z r→r<v.heap.size)
  (hag:∀j,j<v'.drawn-v.drawn→∀q,w.tape (w.drawn+j) q=v.tape (v.drawn+j) q) (hab:∀f,(Frame.mk fn tmps (.inRegion ops (i::rest)::k) [] .run .normal none).about P v=some f→L f) (hit:(Item.inRegion ops (i::rest)).fine p=true)
  (ho:ops[i]?=some o) (hw:Region.wanted o (yielded ops tmps)=true) (h:stepG P true (G (Frame.mk fn tmps (.inRegion ops (i::rest)::k) [] .run .normal none) pre) v=.go g' v' es) (hnp:∀ch,g'.frame.mode≠.panicking ch):
  ∃n w1 es1,(execOp (Frame.mk fn tmps (.inRegion ops (i::rest)::k) [] .run .normal none).eval o).runT P w #[]=(.ok n w1,es1)∧NextOk L n:=by
 have hpo:p o=true:=by
  simp only[Item.fine,Array.all_eq_true]at hit
  obtain⟨hlt,rfl⟩:=Array.getElem?_eq_some_iff.1 ho
  exact hit i hlt
 rw[about_oper ho]at hab
 have ht:=F.op o hpo _ v T.plain hab
 have hap:stepG P true (G (Frame.mk fn tmps (.inRegion ops (i::rest)::k) [] .run .normal none) pre) v=
   stepG.apply P true (Frame.mk fn tmps (.inRegion ops (i::rest)::k) [] .run .normal none) pre none (execOp (Frame.mk fn tmps (.inRegion ops (i::rest)::k) [] .run .normal none).eval o) v:=by
  simp[G,stepG,stepG.exec,stepG.oper,Frame.oper?,ho,hw]
 rw[hap]at h
 cases hr1:(execOp (Frame.mk fn tmps (.inRegion ops (i::rest)::k) [] .run .normal none).eval o).runT P v #[]with
 | mk r es1=>
  cases r with
  | ok n v1=>
   have hn:NextOk L n:=by
    obtain⟨_,_,hK,_⟩:=twin_at (Od:=noOld) (Z:=Z) ht (v:=v) (w:=v.re v.tape v.drawn) (@Twin.mk noOld _ _ _ rfl (fun _ _ _=>rfl) T.dead T.plain rfl rfl (fun _ h=>False.elim h) (fun _ h=>False.elim h) (fun _ h=>False.elim h)) hZ hr1 (fun _ _ _=>rfl)
    exact hK
   have hv:v'=v1:=by
    cases n<;>first|exact hn.elim|skip
    all_goals
     simp only[stepG.apply,hr1,if_true,GStep.after,Array.append_empty]at h
     injection h with g1 g2 g3
     exact g2.symm
   subst hv
   obtain⟨w',more,_,hw',_⟩:=twin_at ht T hZ hr1 hag
   exact⟨n,w',_,hw',hn⟩
  | halt hh v1=>
   have hd:=hard_at ht T.plain hr1
   exfalso
   cases hh with
   | panic x=>
    simp only[stepG.apply,hr1,if_true,GStep.after]at h
    injection h with g1 g2 g3
    exact hnp _ (by rw[←g1];rfl)
   | stuck x=>simp only[stepG.apply,hr1,if_true,GStep.after,reduceCtorEq]at h
   | unsupported x=>
    cases x with
    | initOrder g=>simp[Halt.hard]at hd
    | _=>simp only[stepG.apply,hr1,if_true,GStep.after,reduceCtorEq]at h
   | _=>simp[Halt.hard]at hd
def Stacked (P:Program) (fnR:FuncId) (kd:CallKind) (k:List Item) (ds:List Deferred) (vs rs:List Frame):Prop:=
 ∃xs fn tmps front m,vs=xs++[Frame.mk fn tmps (front++[stopIt]) [] m .normal none]∧rs=xs++[Frame.mk fnR tmps (front++k) ds m kd none]∧(∀es,seen P fnR es=seen P fn es)∧(xs≠[]→∃ops i rest fs,front=.inRegion ops (i::rest)::fs)
theorem step_real {Od:Old} (F:Fine P L p) {fnR:FuncId} {kd:CallKind} (hkd:(kd==CallKind.early)=false) {k:List Item} {ds:List Deferred} {C:Frame→List Frame→World→Prop} {fr:Frame} {pre:List Frame} {v w:World} {rf:Frame} {rs:List Frame} (St:Stacked P fnR kd k ds (fr::pre) (rf::rs))
  (T:Twin Od Z v w) (hZ:∀r,Z r→r<v.heap.size) (hall:∀τ d,Good P L p fr pre (v.re τ d)∧∃fr' pre' v',OneStep P fr pre (v.re τ d) fr' pre' v'∧C fr' pre' v'):
  ∃fr' pre' v' rf' rs' w' es,C fr' pre' v'∧Stacked P fnR kd k ds (fr'::pre') (rf'::rs')∧Twin Od Z v' w'∧v.heap.size≤v'.heap.size∧(∀r,Z r→w'.heap[r]?=w.heap[r]?)∧(∀e∈es,EvT Z v'.heap.size e)∧
   ∀main cs,stepG P main (G rf (rs++cs)) w=.go (G rf' (rs'++cs)) w' es:=by
 obtain⟨xs,fn,tmps,front,m,hv,hr,hq,hx⟩:=St
 by_cases hd:fr.mode=.run∧∃id ops fs,fr.todo=.code (.region id ops true)::fs
 ·
  obtain⟨hm,id,ops,fs,htd⟩:=hd
  obtain⟨hg,fr',pre',v',⟨es,hst,hnp⟩,hC⟩:=hall (fun i q=>match q with
   | .order _ _=>w.tape w.drawn (.order rf.fn id)
   | _=>w.tape i q) w.drawn
  obtain⟨f0,t0,td0,d0,m0,k0,r0⟩:=fr
  obtain⟨_,h2,h3,h4,_⟩:=hg.ok
  simp only at hm htd h2 h3 h4
  subst hm htd h2 h3 h4
  have hs:∀fnx tx kx dsx kdx main (Y:List Frame) (u:World),stepG P main (G (Frame.mk fnx tx (.code (.region id ops true)::kx) dsx .run kdx none) Y) u=
    .go (G (Frame.mk fnx tx (.inRegion ops (Region.schedule (P.follows .mixedOrders) ops (u.tape u.drawn (.order fnx id)))::kx) dsx .run kdx none) Y) { u with drawn:=u.drawn+1 } #[]:=fun fnx tx kx dsx kdx main Y u=>by
   simp[G,stepG,stepG.exec,choose,Sem.run,Question.forced,Question.cut]
  rw[hs]at hst
  injection hst with g1 g2 g3
  simp only[G,Goroutine.mk.injEq]at g1
  obtain⟨g1,g1',_⟩:=g1
  subst g1 g1' g2 g3
  simp only[World.re]at hC
  have T':∀τ,Twin Od Z { heap:=v.heap,tape:=τ,drawn:=w.drawn+1,os:=v.os,output:=v.output } { w with drawn:=w.drawn+1 }:=fun τ=>⟨T.size,T.same,T.dead,T.plain,T.os,T.output,T.odead,T.kept,T.dis⟩
  cases xs with
  | nil=>
   simp only[List.nil_append,List.cons.injEq]at hv hr
   obtain⟨hv,rfl⟩:=hv
   obtain⟨rfl,rfl⟩:=hr
   simp only[Frame.mk.injEq]at hv
   obtain⟨rfl,rfl,htd,_,rfl,_,_⟩:=hv
   cases front with
   | nil=>simp[stopIt]at htd
   | cons it fs'=>
    simp only[List.cons_append,List.cons.injEq]at htd
    obtain⟨rfl,rfl⟩:=htd
    exact⟨_,_,_,_,[],{ w with drawn:=w.drawn+1 },#[],hC,⟨[],_,_,.inRegion ops _::fs',.run,rfl,rfl,hq,fun h=>(h rfl).elim⟩,T' _,Nat.le_refl _,fun _ _=>rfl,by simp,fun main cs=>hs _ _ _ _ _ main _ w⟩
  | cons x xs=>
   simp only[List.cons_append,List.cons.injEq]at hv hr
   obtain⟨rfl,rfl⟩:=hv
   obtain⟨rfl,rfl⟩:=hr
   exact⟨_,_,_,_,_,{ w with drawn:=w.drawn+1 },#[],hC,⟨_::xs,fn,tmps,front,m,rfl,rfl,hq,fun _=>hx (by simp)⟩,T' _,Nat.le_refl _,fun _ _=>rfl,by simp,fun main cs=>hs _ _ _ _ _ main _ w⟩
 ·obtain⟨hg,fr',pre',v',⟨es,hst,hnp⟩,hC⟩:=hall w.tape w.drawn
  have T1:Twin Od Z (v.re w.tape w.drawn) w:=T.retape w.tape w.tape w.drawn w.drawn
  obtain⟨fr2,pre2,w',e,_,_,_,_,_,g3,T',hkz,_,_,hev,hw⟩:=step_carry F (w:=w) hg.ok hg.below hg.mode hg.about T1 hZ hst hnp (fun _ _ _=>rfl)
  simp only[G,Goroutine.mk.injEq]at e
  obtain⟨rfl,rfl,_⟩:=e
  have E:=hw true []
  rw[List.append_nil,List.append_nil]at E
  obtain⟨f0,t0,td0,d0,m0,k0,r0⟩:=fr
  obtain⟨hfn,h2,h3,h4,h5⟩:=hg.ok
  simp only at hd h2 h3 h4 h5 hfn
  subst h2 h3 h4
  have hmode:=hg.mode
  have habout:=hg.about
  simp only at hmode
  have ops_ok:∀it k',m0=.run→td0=it::k'→∀ops i rest o,it=.inRegion ops (i::rest)→ops[i]?=some o→Region.wanted o (yielded ops t0)=true→∃n w1 es1,(execOp (Frame.mk f0 t0 (it::k') [] .run .normal none).eval o).runT P w #[]=(.ok n w1,es1)∧NextOk L n:=by
   rintro it k' rfl rfl ops i rest o rfl ho hw'
   exact op_ok F T1 hZ (fun _ _ _=>rfl) habout (h5 _ (List.mem_cons_self ..)) ho hw' hst hnp
  cases xs with
  | nil=>
   simp only[List.nil_append,List.cons.injEq]at hv hr
   obtain⟨hv,rfl⟩:=hv
   obtain⟨rfl,rfl⟩:=hr
   simp only[Frame.mk.injEq,true_and,and_true]at hv
   obtain⟨rfl,rfl,rfl,rfl⟩:=hv
   obtain rfl:m0=.run:=hmode.elim id fun x=>(x.2 rfl).elim
   cases front with
   | nil=>simp[G,stepG,stepG.exec,stopIt]at E
   | cons it fs=>
    rcases run_front (L:=L) (p:=p) (B:=k) (ds:=ds) (kd:=kd) (fnR:=fnR) hq hkd (A:=[stopIt]) (fun _=>rfl) (h5 it (by simp)) (fun id ops e=>hd ⟨rfl,id,ops,_,by rw[e];rfl⟩) (ops_ok it (fs++[stopIt]) rfl rfl) E with⟨t',fs',m',hm',e1,e2⟩|⟨f,args,⟨ops,i,rest,rfl⟩,e1,e2⟩
    ·simp only[G,Goroutine.mk.injEq]at e1
     obtain⟨rfl,rfl,_⟩:=e1
     exact⟨_,_,v',_,[],w',es,hC,⟨[],_,t',fs',m',rfl,rfl,hq,fun h=>(h rfl).elim⟩,T',g3,hkz,hev,fun main cs=>e2 main _⟩
    ·simp only[G,Goroutine.mk.injEq]at e1
     obtain⟨rfl,rfl,_⟩:=e1
     exact⟨_,_,v',_,[_],w',es,hC,⟨[_],_,_,_,_,rfl,rfl,hq,fun _=>⟨ops,i,rest,fs,rfl⟩⟩,T',g3,hkz,hev,fun main cs=>e2 main _⟩
  | cons x xs=>
   simp only[List.cons_append,List.cons.injEq]at hv hr
   obtain⟨rfl,rfl⟩:=hv
   obtain⟨rfl,rfl⟩:=hr
   have hx':=hx (by simp)
   rcases hmode with rfl|⟨rfl,_⟩
   ·cases td0 with
    | nil=>
     have hs:∀main (Y:List Frame) (u:World),stepG P main (G (Frame.mk f0 t0 [] [] .run .normal none) Y) u=.go (G (Frame.mk f0 t0 [] [] .returning .normal none) Y) u #[]:=fun main Y u=>by simp[G,stepG,stepG.exec]
     rw[hs]at E
     injection E with a1 a2 a3
     simp only[G,Goroutine.mk.injEq]at a1
     obtain⟨rfl,rfl,_⟩:=a1
     subst a2 a3
     exact⟨_,_,v',_,_,_,_,hC,⟨_::xs,fn,tmps,front,m,rfl,rfl,hq,fun _=>hx'⟩,T',g3,hkz,hev,fun main cs=>hs main _ _⟩
    | cons it fs=>
     have R:=run_front (L:=L) (p:=p) (P:=P) (fn:=f0) (fnR:=f0) (tmps:=t0) (it:=it) (fs:=fs) (A:=[]) (B:=[]) (ds:=[]) (kd:=.normal) (X:=xs++[Frame.mk fn tmps (front++[stopIt]) [] m .normal none]) (w:=w) (w':=w') (es:=es) (fun _=>rfl) rfl (fun _=>rfl) (h5 it (by simp)) (fun id ops e=>hd ⟨rfl,id,ops,_,by rw[e]⟩)
      (by rw[List.append_nil];exact ops_ok it fs rfl rfl) (by rw[List.append_nil];exact E)
     simp only[List.append_nil]at R
     rcases R with⟨t',fs',m',hm',e1,e2⟩|⟨f,args,_,e1,e2⟩
     ·simp only[G,Goroutine.mk.injEq]at e1
      obtain⟨rfl,rfl,_⟩:=e1
      exact⟨_,_,v',_,_,w',es,hC,⟨_::xs,fn,tmps,front,m,rfl,rfl,hq,fun _=>hx'⟩,T',g3,hkz,hev,fun main cs=>e2 main _⟩
     ·simp only[G,Goroutine.mk.injEq]at e1
      obtain⟨rfl,rfl,_⟩:=e1
      exact⟨_,_,v',_,_,w',es,hC,⟨_::_::xs,fn,tmps,front,m,rfl,rfl,hq,fun _=>hx'⟩,T',g3,hkz,hev,fun main cs=>e2 main _⟩
   ·obtain⟨fn0,hf0,_⟩:=hfn
    cases hr1:(results fn0 t0).runT P w #[]with
    | mk r es1=>
     cases r with
     | halt hh w1=>
      exfalso
      cases xs<;>(simp only[G,stepG,unwind,hf0,hr1,List.nil_append,List.cons_append]at E;cases hh<;>simp[GStep.after]at E)
     | ok x w1=>
      have hs:∀main (c:Frame) (Y:List Frame),stepG P main (G (Frame.mk f0 t0 td0 [] .returning .normal none) (c::Y)) w=.go (G (c.finish x) Y) w1 (seen P f0 es1):=fun main c Y=>by
       simp only[G,stepG,unwind,hf0,hr1,doReturn,GStep.after,Array.append_empty]
      cases xs with
      | nil=>
       obtain⟨ops,i,rest,fs,rfl⟩:=hx'
       rw[List.nil_append,hs]at E
       injection E with a1 a2 a3
       simp only[G,Goroutine.mk.injEq]at a1
       obtain⟨rfl,rfl,_⟩:=a1
       subst a2 a3
       exact⟨_,_,v',_,_,_,_,hC,⟨[],fn,_,.inRegion ops rest::fs,m,rfl,rfl,hq,fun h=>(h rfl).elim⟩,T',g3,hkz,hev,fun main cs=>hs main _ _⟩
      | cons c xs=>
       rw[List.cons_append,hs]at E
       injection E with a1 a2 a3
       simp only[G,Goroutine.mk.injEq]at a1
       obtain⟨rfl,rfl,_⟩:=a1
       subst a2 a3
       exact⟨_,_,v',_,_,_,_,hC,⟨_::xs,fn,tmps,front,m,rfl,rfl,hq,fun _=>hx'⟩,T',g3,hkz,hev,fun main cs=>hs main _ _⟩
end
def AtEnd (Q:Exit→Act→World→Prop) (f:FuncId) (fr:Frame) (pre:List Frame) (v:World):Prop:=
 pre=[]∧∃tmps τ d,(fr=Frame.mk f tmps [stopIt] [] .run .normal none∧Q .normal ⟨tmps,[]⟩ (v.re τ d))∨(∃todo,fr=Frame.mk f tmps todo [] .returning .normal none∧Q .ret ⟨tmps,[]⟩ (v.re τ d))
section
variable {P:Program} {L:FuncId→Prop} {p:Oper→Bool} {Z:Nat→Prop}
theorem atEnd_heapy {Q:Exit→Act→World→Prop} {f:FuncId}:Heapy (AtEnd Q f):=by
 rintro fr pre v w h1 h2 h3 ⟨e1,t,τ,d,hx⟩
 have:w.re τ d=v.re τ d:=by
  unfold World.re
  rw[h1,h2,h3]
 exact⟨e1,t,τ,d,by rw[this];exact hx⟩
theorem fin_of_wp (F:Fine P L p) {N:Fence} (hal:N.alive=true) (hdp:N.depth=none) (hro:N.round=none) (hfn:∀f,N.fn f→L f) {f:FuncId} (hf:N.fn f) {n:Nat} {c:Code} (hc:c.allOps p=true) {tmps:Array Value} {v:World}
  (hp:∀(r:Nat) (o:Obj),v.heap[r]?=some o→o.plain=true) {Q:Exit→Act→World→Prop} (hQ:∀e a w,Q e a w→(e=.normal∨e=.ret)∧a.defers=[])
  (H:∀τ d,c.wpIn N n P Q ⟨tmps,[]⟩ (v.re τ d)):Fin P L p (AtEnd Q f) (Frame.mk f tmps [.code c,stopIt] [] .run .normal none) [] v:=by
 refine always_fin F atEnd_heapy fun τ d=>?_
 obtain⟨e,a',w',hq,harr⟩:=H τ d (Frame.mk f tmps [] [] .run .normal none) [stopIt] [] hro.symm hf (fun _ hd=>by rw[hdp]at hd;cases hd)
 obtain⟨fn0,c0,hf0,_,_⟩:=F.body f (hfn f hf)
 have hok:FrameOk P L p (Frame.mk f tmps [.code c,stopIt] [] .run .normal none):=⟨⟨fn0,hf0,F.init f (hfn f hf)⟩,rfl,rfl,rfl,fun it hit=>by
  simp only[List.mem_cons,List.not_mem_nil,or_false]at hit
  rcases hit with rfl|rfl
  ·exact hc
  ·rfl⟩
 obtain⟨he,hd'⟩:=hQ e a' w' hq
 obtain⟨t',ds'⟩:=a'
 simp only at hd'
 subst hd'
 rcases he with rfl|rfl
 ·exact path_of F hal hfn harr rfl rfl (fun ch=>by simp[Frame.atR]) ⟨rfl,t',w'.tape,w'.drawn,.inl ⟨rfl,hq⟩⟩ hok (by simp) (.inl rfl) hp
 ·obtain⟨todo,hs⟩:=harr.1 rfl
  exact path_of F hal hfn hs rfl rfl (fun ch=>by simp) ⟨rfl,t',w'.tape,w'.drawn,.inr ⟨todo,rfl,hq⟩⟩ hok (by simp) (.inl rfl) hp
def Beside (Od:Old) (P:Program) (Shun:Loc→Prop) (Z:Nat→Prop) (B:Nat) (v:World) (gs:Array Goroutine) (w:World) (t:Trace):Prop:=
 ∃q,Twin Od Z v w∧(∀r,Z r→r<v.heap.size)∧Leavers P t gs q∧Past Shun B t∧w.heap.size≤B
theorem real_beside {Od:Old} {Shun:Loc→Prop} (F:Fine P L p) (hu:Under Shun Z) {fnR:FuncId} {kd:CallKind} (hkd:(kd==CallKind.early)=false) {k:List Item} {ds:List Deferred} {S:Frame→List Frame→World→Prop} {fr:Frame} {pre:List Frame} {v:World} (h:Fin P L p S fr pre v):
  ∀(rf:Frame) (rs:List Frame) (gs:Array Goroutine) (w:World) (sl:Option (Nat×Nat)) (t:Trace) (B:Nat) (cs:List Frame),Stacked P fnR kd k ds (fr::pre) (rf::rs)→Beside Od P Shun Z B v gs w t→gs[0]?=some (G rf (rs++cs))→
   ComesTo P gs w sl t fun gs' w' t'=>∃fr' pre' v' rf' rs' B',gs'[0]?=some (G rf' (rs'++cs))∧Stacked P fnR kd k ds (fr'::pre') (rf'::rs')∧S fr' pre' v'∧v.heap.size≤v'.heap.size∧B≤B'∧Beside Od P Shun Z B' v' gs' w' t':=by
 refine h (fun fr pre v=>∀(rf:Frame) (rs:List Frame) (gs:Array Goroutine) (w:World) (sl:Option (Nat×Nat)) (t:Trace) (B:Nat) (cs:List Frame),Stacked P fnR kd k ds (fr::pre) (rf::rs)→Beside Od P Shun Z B v gs w t→gs[0]?=some (G rf (rs++cs))→
   ComesTo P gs w sl t fun gs' w' t'=>∃fr' pre' v' rf' rs' B',gs'[0]?=some (G rf' (rs'++cs))∧Stacked P fnR kd k ds (fr'::pre') (rf'::rs')∧S fr' pre' v'∧v.heap.size≤v'.heap.size∧B≤B'∧Beside Od P Shun Z B' v' gs' w' t') ?_ ?_
 ·intro fr pre v hS rf rs gs w sl t B cs St Bs h0
  exact .now ⟨fr,pre,v,rf,rs,B,h0,St,hS,Nat.le_refl _,Nat.le_refl _,Bs⟩
 ·intro fr pre v hall rf rs gs w sl t B cs St Bs h0
  obtain⟨q,T,hZ,hL,hP,hB⟩:=Bs
  obtain⟨N,gs1,a1,w1,sl1,t1,q1,B1,hr,hs,h1,⟨hb1,fr1,pre1,v1,rf1,rs1,rfl,St1,T1,hZ1,hle,hC⟩,hL1,hP1,hB1⟩:=own_step_beside (P:=P) (Shun:=Shun)
   (K:=fun a' w'=>∃fr' pre' v' rf' rs',a'=G rf' (rs'++cs)∧Stacked P fnR kd k ds (fr'::pre') (rf'::rs')∧Twin Od Z v' w'∧(∀r,Z r→r<v'.heap.size)∧v.heap.size≤v'.heap.size∧
    ∀(rf:Frame) (rs:List Frame) (gs:Array Goroutine) (w:World) (sl:Option (Nat×Nat)) (t:Trace) (B:Nat) (cs:List Frame),Stacked P fnR kd k ds (fr'::pre') (rf::rs)→Beside Od P Shun Z B v' gs w t→gs[0]?=some (G rf (rs++cs))→
   ComesTo P gs w sl t fun gs' w' t'=>∃fr'' pre'' v'' rf' rs' B',gs'[0]?=some (G rf' (rs'++cs))∧Stacked P fnR kd k ds (fr''::pre'') (rf'::rs')∧S fr'' pre'' v''∧v'.heap.size≤v''.heap.size∧B≤B'∧Beside Od P Shun Z B' v'' gs' w' t')
   (sumTo gs.size q) gs (G rf (rs++cs)) w sl t q B (Nat.le_refl _) h0 rfl hL hP (fun d=>by
    obtain⟨fr',pre',v',rf',rs',w',es,hC,St',T',g3,_,hev,hw⟩:=step_real F hkd (w:=w.at d) St (T.retape v.tape w.tape v.drawn d) hZ hall
    refine⟨G rf' (rs'++cs),w',es,max B v'.heap.size,hw true cs,Nat.le_max_left ..,fun x hx=>evT_evL hu (Nat.le_max_right ..) (hev x hx),?_,fr',pre',v',rf',rs',rfl,St',T',fun r hr=>Nat.lt_of_lt_of_le (hZ r hr) g3,g3,hC⟩
    rw[←T'.size];exact Nat.le_max_right ..)
  have hC1:ComesTo P gs w sl t fun gs' w' t'=>gs'[0]?=some (G rf1 (rs1++cs))∧Beside Od P Shun Z B1 v1 gs' w' t':=⟨N,gs1,w1,sl1,t1,hr,hs,h1,q1,T1,hZ1,hL1,hP1,hb1⟩
  refine hC1.bind fun gs2 w2 sl2 t2 _ ⟨k1,k2⟩=>?_
  exact(hC rf1 rs1 gs2 w2 sl2 t2 B1 cs St1 k2 k1).mono fun gs' w' t' ⟨fr',pre',v',rf',rs',B',j1,j2,j3,j4,j5,j6⟩=>⟨fr',pre',v',rf',rs',B',j1,j2,j3,Nat.le_trans hle j4,Nat.le_trans hB1 j5,j6⟩
theorem real_duo {Od:Old} {Shun Still:Loc→Prop} {Mem Loose:Nat→Prop} {h j:Nat} {By:Nat→Goroutine→World→Trace→Prop} (F:Fine P L p) (hu:Under Shun Z) (hst:Under Still Z) (O:ByOk P Z Shun Still (fun B t=>PX Shun Still Mem Loose B h t) j By) {fnR:FuncId} {kd:CallKind} (hkd:(kd==CallKind.early)=false) {k:List Item} {ds:List Deferred}
  {S:Frame→List Frame→World→Prop} {fr:Frame} {pre:List Frame} {v:World} (H:Fin P L p S fr pre v):
  ∀(rf:Frame) (rs:List Frame) (gs:Array Goroutine) (w:World) (sl:Option (Nat×Nat)) (t:Trace) (q:Nat→Nat) (n B:Nat) (cs:List Frame),Stacked P fnR kd k ds (fr::pre) (rf::rs)→Twin Od Z v w→(∀r,Z r→r<v.heap.size)→gs[h]?=some (G rf (rs++cs))→Duo P Shun Still Mem Loose B h j By n gs w t q→
   ComesTo P gs w sl t fun gs' w' t'=>∃q' n' B' fr' pre' v' rf' rs',gs'[h]?=some (G rf' (rs'++cs))∧Stacked P fnR kd k ds (fr'::pre') (rf'::rs')∧S fr' pre' v'∧Twin Od Z v' w'∧(∀r,Z r→r<v'.heap.size)∧v.heap.size≤v'.heap.size∧B≤B'∧Duo P Shun Still Mem Loose B' h j By n' gs' w' t' q':=by
 refine H (fun fr pre v=>∀(rf:Frame) (rs:List Frame) (gs:Array Goroutine) (w:World) (sl:Option (Nat×Nat)) (t:Trace) (q:Nat→Nat) (n B:Nat) (cs:List Frame),Stacked P fnR kd k ds (fr::pre) (rf::rs)→Twin Od Z v w→(∀r,Z r→r<v.heap.size)→gs[h]?=some (G rf (rs++cs))→Duo P Shun Still Mem Loose B h j By n gs w t q→
   ComesTo P gs w sl t fun gs' w' t'=>∃q' n' B' fr' pre' v' rf' rs',gs'[h]?=some (G rf' (rs'++cs))∧Stacked P fnR kd k ds (fr'::pre') (rf'::rs')∧S fr' pre' v'∧Twin Od Z v' w'∧(∀r,Z r→r<v'.heap.size)∧v.heap.size≤v'.heap.size∧B≤B'∧Duo P Shun Still Mem Loose B' h j By n' gs' w' t' q') ?_ ?_
 ·intro fr pre v hS rf rs gs w sl t q n B cs St T hZ h0 D
  exact .now ⟨q,n,B,fr,pre,v,rf,rs,h0,St,hS,T,hZ,Nat.le_refl _,Nat.le_refl _,D⟩
 ·intro fr pre v hall rf rs gs w sl t q n B cs St T hZ h0 D
  obtain⟨N,gs1,a1,w1,sl1,t1,q1,n1,B1,hr,hs,h1,⟨fr1,pre1,v1,rf1,rs1,rfl,St1,T1,hZ1,hle,hC⟩,hB1,D1⟩:=own_step_duo O
   (Kst:=fun a' w'=>∃fr' pre' v' rf' rs',a'=G rf' (rs'++cs)∧Stacked P fnR kd k ds (fr'::pre') (rf'::rs')∧Twin Od Z v' w'∧(∀r,Z r→r<v'.heap.size)∧v.heap.size≤v'.heap.size∧
    ∀(rf:Frame) (rs:List Frame) (gs:Array Goroutine) (w:World) (sl:Option (Nat×Nat)) (t:Trace) (q:Nat→Nat) (n B:Nat) (cs:List Frame),Stacked P fnR kd k ds (fr'::pre') (rf::rs)→Twin Od Z v' w→(∀r,Z r→r<v'.heap.size)→gs[h]?=some (G rf (rs++cs))→Duo P Shun Still Mem Loose B h j By n gs w t q→
   ComesTo P gs w sl t fun gs' w' t'=>∃q' n' B' fr'' pre'' v'' rf' rs',gs'[h]?=some (G rf' (rs'++cs))∧Stacked P fnR kd k ds (fr''::pre'') (rf'::rs')∧S fr'' pre'' v''∧Twin Od Z v'' w'∧(∀r,Z r→r<v''.heap.size)∧v'.heap.size≤v''.heap.size∧B≤B'∧Duo P Shun Still Mem Loose B' h j By n' gs' w' t' q')
   (n+sumTo gs.size q) n gs (G rf (rs++cs)) w sl t q B (Nat.le_refl _) h0 rfl D (fun w1 hw1=>by
    obtain⟨fr',pre',v',rf',rs',w',es,hC,St',T',g3,hkz,hev,hw⟩:=step_real F hkd (w:=w1) St (T.off hw1) hZ hall
    refine⟨G rf' (rs'++cs),w',es,max B v'.heap.size,hw (h==0) cs,Nat.le_max_left ..,fun x hx=>evT_evH hu hst (Nat.le_max_right ..) (hev x hx),hkz,?_,fr',pre',v',rf',rs',rfl,St',T',fun r hr=>Nat.lt_of_lt_of_le (hZ r hr) g3,g3,hC⟩
    rw[←T'.size];exact Nat.le_max_right ..)
  have hC1:ComesTo P gs w sl t fun gs' w' t'=>gs'[h]?=some (G rf1 (rs1++cs))∧Twin Od Z v1 w'∧∃q' n',Duo P Shun Still Mem Loose B1 h j By n' gs' w' t' q':=⟨N,gs1,w1,sl1,t1,hr,hs,h1,T1,q1,n1,D1⟩
  refine hC1.bind fun gs2 w2 sl2 t2 _ ⟨k1,k2,q2,n2,k3⟩=>?_
  exact(hC rf1 rs1 gs2 w2 sl2 t2 q2 n2 B1 cs St1 k2 hZ1 k1 k3).mono fun gs' w' t' ⟨q',n',B',fr',pre',v',rf',rs',j1,j2,j3,j4,j5,j6,j7,j8⟩=>⟨q',n',B',fr',pre',v',rf',rs',j1,j2,j3,j4,j5,Nat.le_trans hle j6,Nat.le_trans hB1 j7,j8⟩
end
end Go.Fxa
namespace Go.Fxa
open Go.Conc
theorem Twin.kill {Od:Old} {Z Z':Nat→Prop} {v w:World} (T:Twin Od Z v w) (hz:∀r,Z r→Z' r) (hno:∀r,Z' r→¬Od.dead r):∃v',Twin Od Z' v' w∧v'.heap.size=v.heap.size∧(∀r,¬Z' r→v'.heap[r]?=v.heap[r]?)∧v'.os=v.os∧v'.output=v.output:=by
 classical
 refine⟨{ v with heap:=Array.ofFn (n:=v.heap.size) fun i=>if Z' i then deadObj else v.heap[i] },⟨?_,fun r hr hod=>?_,fun r hr hl=>?_,fun r o ho=>?_,T.os,T.output,fun r hod=>?_,T.kept,fun r hod hz'=>hno r hz' hod⟩,by simp,fun r hr=>?_,rfl,rfl⟩
 ·simpa using T.size
 ·rw[←T.same r (fun h=>hr (hz r h)) hod]
  by_cases h:r<v.heap.size<;>simp[h,hr]
 ·have:r<v.heap.size:=by simpa using hl
  simp[this,hr]
 ·by_cases h:r<v.heap.size
  ·by_cases h':Z' r
   ·simp[h,h']at ho;subst ho;rfl
   ·simp[h,h']at ho
    exact T.plain r o (by rw[Array.getElem?_eq_getElem h,ho])
  ·simp[h]at ho
 ·have e:=T.odead r hod
  have h:=(Array.getElem?_eq_some_iff.1 e).1
  have hr:¬Z' r:=fun hz'=>hno r hz' hod
  rw[Array.getElem?_eq_getElem h]at e
  simpa [h,hr]using Option.some.inj e
 ·by_cases h:r<v.heap.size<;>simp[h,hr]
theorem Past.shun {Shun Shun':Loc→Prop} {B:Nat} {t:Trace} (h:Past Shun B t) (hs:∀l,Shun l→Shun' l):Past Shun' B t:=
 ⟨h.clean,fun i a ha hm=>(h.known i a ha hm).imp id fun x=>⟨hs _ x.1,x.2⟩,h.over,h.hears,h.seen⟩
end Go.Fxa
namespace Go.Fxa
open Go.Conc
open Go.ConcN (sumTo upd sumTo_upd upd_ne upd_same)
structure Fenced (P:Program) (L:FuncId→Prop) (p:Oper→Bool) (N:Fence):Prop where
 fine:Fine P L p
 alive:N.alive=true
 depth:N.depth=none
 round:N.round=none
 fn:∀f,N.fn f→L f
def Behind (fnR:FuncId) (kd:CallKind) (k:List Item) (ds:List Deferred) (cs:List Frame) (Q:Exit→Act→World→Prop) (g:Goroutine) (v:World):Prop:=
 ∃tmps τ d,(g=G (Frame.mk fnR tmps k ds .run kd none) cs∧Q .normal ⟨tmps,[]⟩ (v.re τ d))∨(∃todo,g=G (Frame.mk fnR tmps todo ds .returning kd none) cs∧Q .ret ⟨tmps,[]⟩ (v.re τ d))
section
variable {P:Program} {L:FuncId→Prop} {p:Oper→Bool} {N:Fence} {Z:Nat→Prop} {Shun Still:Loc→Prop} {f fnR:FuncId} {kd:CallKind} {k:List Item} {ds:List Deferred} {Q:Exit→Act→World→Prop} {c:Code} {tmps:Array Value} {v:World} {m:Nat}
theorem behind_of {fr rf:Frame} {pre rs cs:List Frame} (hS:AtEnd Q f fr pre v) (St:Stacked P fnR kd k ds (fr::pre) (rf::rs)):Behind fnR kd k ds cs Q (G rf (rs++cs)) v:=by
 obtain⟨rfl,t,τ,d,h⟩:=hS
 obtain⟨xs,fn,tm,front,mm,hv,hr,_,_⟩:=St
 cases xs with
 | cons x xs=>simp at hv
 | nil=>
  simp only[List.nil_append,List.cons.injEq,and_true]at hv hr
  obtain⟨hr,rfl⟩:=hr
  subst hr
  rcases h with⟨rfl,hq⟩|⟨todo,rfl,hq⟩
  ·simp only[Frame.mk.injEq]at hv
   obtain⟨_,rfl,e,_,rfl,_⟩:=hv
   have:front=[]:=by
    cases front with
    | nil=>rfl
    | cons a l=>simp at e
   subst this
   exact⟨t,τ,d,.inl ⟨rfl,hq⟩⟩
  ·simp only[Frame.mk.injEq]at hv
   obtain⟨_,rfl,e,_,rfl,_⟩:=hv
   exact⟨t,τ,d,.inr ⟨_,rfl,hq⟩⟩
theorem stacked_start (hq:∀es,seen P fnR es=seen P f es) (c:Code) (tmps:Array Value):Stacked P fnR kd k ds [Frame.mk f tmps [.code c,stopIt] [] .run .normal none] [Frame.mk fnR tmps (.code c::k) ds .run kd none]:=
 ⟨[],f,tmps,[.code c],.run,rfl,rfl,hq,fun h=>(h rfl).elim⟩
theorem piece_beside {Od:Old} (FN:Fenced P L p N) (hu:Under Shun Z) (hf:N.fn f) (hq:∀es,seen P fnR es=seen P f es) (hkd:(kd==CallKind.early)=false) (hc:c.allOps p=true) (hQ:∀e a w,Q e a w→(e=.normal∨e=.ret)∧a.defers=[])
  (H:∀τ d,c.wpIn N m P Q ⟨tmps,[]⟩ (v.re τ d)) {gs:Array Goroutine} {w:World} {sl:Option (Nat×Nat)} {t:Trace} {B:Nat} {cs:List Frame} (Bs:Beside Od P Shun Z B v gs w t) (h0:gs[0]?=some (G (Frame.mk fnR tmps (.code c::k) ds .run kd none) cs)):
  ComesTo P gs w sl t fun gs' w' t'=>∃g v' B',gs'[0]?=some g∧Behind fnR kd k ds cs Q g v'∧v.heap.size≤v'.heap.size∧B≤B'∧Beside Od P Shun Z B' v' gs' w' t':=by
 have T:=Bs.choose_spec.1
 have hfin:=fin_of_wp FN.fine FN.alive FN.depth FN.round FN.fn hf hc T.plain hQ H
 refine(real_beside FN.fine hu hkd hfin _ [] gs w sl t B cs (stacked_start hq c tmps) Bs h0).mono fun gs' w' t' ⟨fr',pre',v',rf',rs',B',j1,j2,j3,j4,j5,j6⟩=>?_
 exact⟨_,v',B',j1,behind_of j3 j2,j4,j5,j6⟩
theorem piece_duo {Od:Old} {Mem Loose:Nat→Prop} {h j:Nat} {By:Nat→Goroutine→World→Trace→Prop} (FN:Fenced P L p N) (hu:Under Shun Z) (hst:Under Still Z) (O:ByOk P Z Shun Still (fun B t=>PX Shun Still Mem Loose B h t) j By) (hf:N.fn f) (hq:∀es,seen P fnR es=seen P f es) (hkd:(kd==CallKind.early)=false) (hc:c.allOps p=true)
  (hQ:∀e a w,Q e a w→(e=.normal∨e=.ret)∧a.defers=[]) (H:∀τ d,c.wpIn N m P Q ⟨tmps,[]⟩ (v.re τ d))
  {gs:Array Goroutine} {w:World} {sl:Option (Nat×Nat)} {t:Trace} {q:Nat→Nat} {n B:Nat} {cs:List Frame} (T:Twin Od Z v w) (hZ:∀r,Z r→r<v.heap.size) (h0:gs[h]?=some (G (Frame.mk fnR tmps (.code c::k) ds .run kd none) cs)) (D:Duo P Shun Still Mem Loose B h j By n gs w t q):
  ComesTo P gs w sl t fun gs' w' t'=>∃q' n' B' g v',gs'[h]?=some g∧Behind fnR kd k ds cs Q g v'∧Twin Od Z v' w'∧(∀r,Z r→r<v'.heap.size)∧v.heap.size≤v'.heap.size∧B≤B'∧Duo P Shun Still Mem Loose B' h j By n' gs' w' t' q':=by
 have hfin:=fin_of_wp FN.fine FN.alive FN.depth FN.round FN.fn hf hc T.plain hQ H
 refine(real_duo FN.fine hu hst O hkd hfin _ [] gs w sl t q n B cs (stacked_start hq c tmps) T hZ h0 D).mono fun gs' w' t' ⟨q',n',B',fr',pre',v',rf',rs',j1,j2,j3,j4,j5,j6,j7,j8⟩=>?_
 exact⟨q',n',B',_,v',j1,behind_of j3 j2,j4,j5,j6,j7,j8⟩
end
def Tapeless (I:World→Prop):Prop:=∀v τ d,I v→I (v.re τ d)
theorem Tapeless.back {I:World→Prop} (h:Tapeless I) {v:World} {τ:Tape} {d:Nat} (hv:I (v.re τ d)):I v:=by
 have:=h (v.re τ d) v.tape v.drawn hv
 exact this
def Holds (Od:Old) (P:Program) (Z:Nat→Prop) (Shun Still:Loc→Prop) (Mem Loose:Nat→Prop) (h j:Nat) (By:Nat→Goroutine→World→Trace→Prop) (C:Goroutine→World→Prop) (gs:Array Goroutine) (w:World) (t:Trace):Prop:=
 ∃q n B g v,gs[h]?=some g∧C g v∧Twin Od Z v w∧(∀r,Z r→r<v.heap.size)∧Duo P Shun Still Mem Loose B h j By n gs w t q
section
variable {P:Program} {L:FuncId→Prop} {p:Oper→Bool} {N:Fence} {Z:Nat→Prop} {Shun Still:Loc→Prop} {Mem Loose:Nat→Prop} {h j:Nat} {By:Nat→Goroutine→World→Trace→Prop} {C C':Goroutine→World→Prop} {gs:Array Goroutine} {w:World} {sl:Option (Nat×Nat)} {t:Trace}
theorem Holds.mono {Od:Old} (H:Holds Od P Z Shun Still Mem Loose h j By C gs w t) (hc:∀g v,C g v→C' g v):Holds Od P Z Shun Still Mem Loose h j By C' gs w t:=by
 obtain⟨q,n,B,g,v,h1,h2,h3⟩:=H
 exact⟨q,n,B,g,v,h1,hc g v h2,h3⟩
theorem Holds.walk {Od:Old} {K:World→Prop} {k:Nat} {a a':Goroutine} {J:World→Prop} (hJ:∀n b w t,By n b w t→∀d,K (w.at d)) (hst:∀w a,K w→Still (.cell a)→a.block<w.heap.size) (hSS:∀l,Still l→¬Shun l) (O:ByOk P Z Shun Still (fun B t=>PX Shun Still Mem Loose B h t) j By)
  (H:Holds Od P Z Shun Still Mem Loose h j By (fun g v=>g=a∧J v) gs w t) (hw:RW P (h==0) K Still k a a'):ComesTo P gs w sl t (Holds Od P Z Shun Still Mem Loose h j By (fun g v=>g=a'∧J v)):=by
 obtain⟨q,n,B,g,v,h1,⟨rfl,h2⟩,h3,h4,h5⟩:=H
 exact(rw_duo hJ hst hSS O k hw h1 h5).mono fun gs' w' t' ⟨q',n',j1,j2,j3⟩=>⟨q',n',B,_,v,j1,⟨rfl,h2⟩,h3.off j2,h4,j3⟩
theorem Holds.sil {Od:Old} {K:World→Prop} {k:Nat} {a a':Goroutine} {J:World→Prop} (hJ:∀n b w t,By n b w t→∀d,K (w.at d)) (O:ByOk P Z Shun Still (fun B t=>PX Shun Still Mem Loose B h t) j By)
  (H:Holds Od P Z Shun Still Mem Loose h j By (fun g v=>g=a∧J v) gs w t) (hw:Sil P K (h==0) k a a'):ComesTo P gs w sl t (Holds Od P Z Shun Still Mem Loose h j By (fun g v=>g=a'∧J v)):=by
 obtain⟨q,n,B,g,v,h1,⟨rfl,h2⟩,h3,h4,h5⟩:=H
 exact(am6 hJ O k hw h1 h5).mono fun gs' w' t' ⟨q',n',B',j1,j2,_,j3⟩=>⟨q',n',B',_,v,j1,⟨rfl,h2⟩,h3.off j2,h4,j3⟩
theorem Holds.piece {Od:Old} {f fnR:FuncId} {kd:CallKind} {k:List Item} {ds:List Deferred} {Q:Exit→Act→World→Prop} {c:Code} {tmps:Array Value} {m:Nat} {cs:List Frame} {J:World→Prop} (FN:Fenced P L p N) (hu:Under Shun Z) (hst:Under Still Z) (O:ByOk P Z Shun Still (fun B t=>PX Shun Still Mem Loose B h t) j By) (hf:N.fn f) (hq:∀es,seen P fnR es=seen P f es) (hkd:(kd==CallKind.early)=false) (hc:c.allOps p=true)
  (hQ:∀e a w,Q e a w→(e=.normal∨e=.ret)∧a.defers=[]) (hw:∀v,J v→∀τ d,c.wpIn N m P Q ⟨tmps,[]⟩ (v.re τ d))
  (H:Holds Od P Z Shun Still Mem Loose h j By (fun g v=>g=G (Frame.mk fnR tmps (.code c::k) ds .run kd none) cs∧J v) gs w t):ComesTo P gs w sl t (Holds Od P Z Shun Still Mem Loose h j By (Behind fnR kd k ds cs Q)):=by
 obtain⟨q,n,B,g,v,h1,⟨rfl,h2⟩,h3,h4,h5⟩:=H
 exact(piece_duo FN hu hst O hf hq hkd hc hQ (hw v h2) h3 h4 h1 h5).mono fun gs' w' t' ⟨q',n',B',g,v',j1,j2,j3,j4,_,_,j5⟩=>⟨q',n',B',g,v',j1,j2,j3,j4,j5⟩
end
section
variable {P:Program} {Z:Nat→Prop} {Shun Still:Loc→Prop} {Mem:Nat→Prop} {h j:Nat} {gs:Array Goroutine} {w:World} {sl:Option (Nat×Nat)} {t:Trace} {K K1:World→Prop} {TT:Trace→Prop} {cJ cH cN:Array CommCase} {shJ shH shN:CommShape} {kh kj c k:Nat} {v z zj:Value} {a gS:Goroutine} {home:Goroutine→Prop} {J:World→Prop}
structure Gives (P:Program) (Z:Nat→Prop) (Shun Still:Loc→Prop) (Mem:Nat→Prop) (h j:Nat) (K K1:World→Prop) (TT:Trace→Prop) (cJ cH:Array CommCase) (kh kj c:Nat) (v z zj:Value):Prop where
 leans:Leans Z Still K1
 weak:∀w,K1 w→K w
 lasts:Lasts Shun Still j TT
 meets:Meets Z cH cJ kh kj c v z zj
 memh:Mem h
 memj:Mem j
 opens:∀w,K1 w→∀(m:Nat) cc,m≠kh→cH[m]?=some cc→OpenIn w cc
 keeps:∀w d k,K1 w→K1 ((w.at d).setChan c 0 #[] false k k false)
theorem Holds.give {Od:Old} (M:Gives P Z Shun Still Mem h j K K1 TT cJ cH kh kj c v z zj) (hoN:∀w,K1 w→∀cc∈cN,OpenIn w cc) (hrun:a.status=.running) (hco:∀w,stepG P (h==0) a w=.comm a cH true shH w #[])
  (hwalk:SeatWalk P (h==0) K Still cN shN home k (Conc.served a (commResult cH shH kh undef false)))
  (H:Holds Od P Z Shun Still Mem (fun g=>g=j) h j (SeatBy P (j==0) K K1 TT Still cJ shJ (·=gS)) (fun g v=>g=a∧J v) gs w t):
  ComesTo P gs w sl t (Holds Od P Z Shun Still Mem (fun g=>g=h) j h (SeatBy P (h==0) K K1 TT Still cN shN home) (fun g v'=>g=Conc.served gS (commResult cJ shJ kj v true)∧J v')):=by
 obtain⟨q,n,B,g,v0,h1,⟨rfl,h2⟩,T,hZ,D⟩:=H
 obtain⟨b,hb,hBy⟩:=D.idle
 have hKw:K1 w:=hBy.1.1
 refine(give_duo (Loose:=fun g=>g=j) M.leans M.weak M.lasts M.meets M.memh M.memj rfl (es:=#[]) (n+sumTo gs.size q+1) n gs g w sl t q B (by omega) h1 hrun D (M.opens w hKw) (fun d=>hco (w.at d)) (by simp)).bind fun gs' w' sl' t' hsz Mt=>?_
 obtain⟨q',g₂,d,k',m1,m2,m3,m4,m5,rfl,m7,m8,m9,m10⟩:=Mt
 have hzc:Z c:=by
  obtain⟨c',z',e',hz'⟩:=M.meets.hrj _ (Array.mem_of_getElem? M.meets.hkj)
  have:c=c':=by simp[rcase]at e';exact e'.1
  rw[this];exact hz'
 have off:OffZ Z w ((w.at d).setChan c 0 #[] false (k'+1) (k'+1) false):=ao5 hzc w d (k'+1) false
 have hK':K1 ((w.at d).setChan c 0 #[] false (k'+1) (k'+1) false):=M.keeps w d (k'+1) hKw
 refine .now ⟨q',k+1,B,_,v0,m2,⟨by rw[m3],h2⟩,T.off off,hZ,⟨D.ne.symm,D.zero.symm,fun g hg=>(D.mem g hg).symm,⟨_,m1,⟨hK',m10⟩,hoN _ hK',.inr ⟨k,rfl,rfl,hwalk⟩⟩,fun i g h1 h2 h3=>m7 i g h2 h1 h3,m8,m9.loosen (fun g hg=>(hg.2 hg.1).elim),?_⟩⟩
 rw[off.size];exact D.size
end
end Go.Fxa
