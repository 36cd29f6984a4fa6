/- Goroutine 0's call of plain code, beside goroutines that only leave: the machine comes to its return, on whatever tape. Steps that look at no memory, reckoned by a function: the kernel runs it. What is held of the trace while one goroutine holds and another is on its way: as the library's token, but that some places are shunned (touched atomically alone, by whoever is deaf). Operations that ask what a block is: tame, for a dead block answers nothing of use. Arithmetic, comparisons, conversions: tame. Numbers that are addresses; binary operations. -/
import Derived.Test.YtmhplpfpcnjekaaGreatK02
import Derived.Conc.Own4
import Derived.KernelRfl
import Derived.Conc.TokenTrace
import Derived.Conc.Token
namespace Go.Fxa
open Go.Conc
open Go.ConcN (sumTo upd sumTo_upd upd_ne upd_same)
section
variable {P:Program} {Shun:Loc→Prop}
theorem own_step_beside {K:Goroutine→World→Prop}:∀(M:Nat) (gs:Array Goroutine) (a:Goroutine) (w:World) (sl:Option (Nat×Nat)) (t:Trace) (q:Nat→Nat) (B:Nat),sumTo gs.size q≤M→gs[0]?=some a→a.status=.running→
  Leavers P t gs q→Past Shun B t→(∀d,∃a' w' es B',stepG P true a (w.at d)=.go a' w' es∧B≤B'∧(∀e∈es,EvL Shun B' e)∧(w'.heap.size≤B'∧K a' w'))→
  ∃(N:Nat) (gs':Array Goroutine) (a':Goroutine) (w':World) (sl':Option (Nat×Nat)) (t':Trace) (q':Nat→Nat) (B':Nat),
   runNT P N (crowd gs w sl) t=(.next (crowd gs' w' sl'),t')∧gs'.size=gs.size∧gs'[0]?=some a'∧(w'.heap.size≤B'∧K a' w')∧Leavers P t' gs' q'∧Past Shun B' t'∧B≤B':=by
 intro M
 induction M with
 | zero=>
  intro gs a w sl t q B hM h0 hrun hL hP hstep
  have haw:∀g∈gs,awake g:=by
   intro g hg
   obtain⟨i,hi,rfl⟩:=Array.mem_iff_getElem.1 hg
   rcases Nat.eq_zero_or_pos i with rfl|hpos
   ·have:gs[0]=a:=by simpa [Array.getElem?_eq_getElem hi]using h0
    rw[this];exact awake_of (.inl hrun)
   ·exact awake_of ((hL.old i _ hpos (Array.getElem?_eq_getElem hi)).status.elim .inl fun x=>.inr (.inr x))
  obtain⟨i,g,d,sl',hi,hg,hst⟩:=crowd_pick (P:=P) (w:=w) (sl:=sl) haw ⟨0,a,h0,hrun⟩
  have hlt:i<gs.size:=(Array.getElem?_eq_some_iff.1 hi).1
  rcases Nat.eq_zero_or_pos i with rfl|hpos
  ·obtain rfl:g=a:=by rw[h0]at hi;exact(Option.some.inj hi).symm
   obtain⟨a',w',es,B',hgo,hB,hev,hK⟩:=hstep d
   have hrunT:=runT_crowd_go (P:=P) (sl:=sl') (i:=0) hi (show stepG P (0==0) g (w.at d)=_ from hgo)
   refine⟨1,(gs.map (woken P g a' w')).setIfInBounds 0 a',a',w',sl',t++MemOp.ofEvents 0 g.frame.fn g.frame.place es,q,B',by simp only[runNT,hst,hrunT],by simp,by simp[hlt],hK,⟨fun j x hj hx=>?_,fun j hj=>?_⟩,(hP.mono hB).own hev,hB⟩
   ·have hne:0≠j:=by omega
    rw[Array.getElem?_setIfInBounds_ne hne,Array.getElem?_map]at hx
    obtain⟨y,hy,rfl⟩:=Option.map_eq_some_iff.1 hx
    have hq:=hL.old j y hj hy
    rw[woken_quitsD hq,Deaf_other t (by omega) _ (fun op hop=>by obtain⟨e,_,rfl⟩:=Go.Conc.mem_ofEvents hop;rfl)]
    exact hq
   ·rw[Deaf_other t (g':=0) (by simp at hj;omega) _ (fun op hop=>by obtain⟨e,_,rfl⟩:=Go.Conc.mem_ofEvents hop;rfl)]
    exact hL.above j (by simpa using hj)
  ·exfalso
   have hq:=hL.old i g hpos hi
   have hz:q i=0:=by
    have hs:sumTo gs.size (upd q i 0)+q i=sumTo gs.size q+0:=by
     have:=sumTo_upd q 0 id hlt
     simpa using this
    omega
   rw[hz]at hq
   rw[hq.1]at hg
   cases hg
 | succ M ih=>
  intro gs a w sl t q B hM h0 hrun hL hP hstep
  have haw:∀g∈gs,awake g:=by
   intro g hg
   obtain⟨i,hi,rfl⟩:=Array.mem_iff_getElem.1 hg
   rcases Nat.eq_zero_or_pos i with rfl|hpos
   ·have:gs[0]=a:=by simpa [Array.getElem?_eq_getElem hi]using h0
    rw[this];exact awake_of (.inl hrun)
   ·exact awake_of ((hL.old i _ hpos (Array.getElem?_eq_getElem hi)).status.elim .inl fun x=>.inr (.inr x))
  obtain⟨i,g,d,sl',hi,hg,hst⟩:=crowd_pick (P:=P) (w:=w) (sl:=sl) haw ⟨0,a,h0,hrun⟩
  have hlt:i<gs.size:=(Array.getElem?_eq_some_iff.1 hi).1
  rcases Nat.eq_zero_or_pos i with rfl|hpos
  ·obtain rfl:g=a:=by rw[h0]at hi;exact(Option.some.inj hi).symm
   obtain⟨a',w',es,B',hgo,hB,hev,hK⟩:=hstep d
   have hrunT:=runT_crowd_go (P:=P) (sl:=sl') (i:=0) hi (show stepG P (0==0) g (w.at d)=_ from hgo)
   refine⟨1,(gs.map (woken P g a' w')).setIfInBounds 0 a',a',w',sl',t++MemOp.ofEvents 0 g.frame.fn g.frame.place es,q,B',by simp only[runNT,hst,hrunT],by simp,by simp[hlt],hK,⟨fun j x hj hx=>?_,fun j hj=>?_⟩,(hP.mono hB).own hev,hB⟩
   ·have hne:0≠j:=by omega
    rw[Array.getElem?_setIfInBounds_ne hne,Array.getElem?_map]at hx
    obtain⟨y,hy,rfl⟩:=Option.map_eq_some_iff.1 hx
    have hq:=hL.old j y hj hy
    rw[woken_quitsD hq,Deaf_other t (by omega) _ (fun op hop=>by obtain⟨e,_,rfl⟩:=Go.Conc.mem_ofEvents hop;rfl)]
    exact hq
   ·rw[Deaf_other t (g':=0) (by simp at hj;omega) _ (fun op hop=>by obtain⟨e,_,rfl⟩:=Go.Conc.mem_ofEvents hop;rfl)]
    exact hL.above j (by simpa using hj)
  ·have hq:=hL.old i g hpos hi
   have hi0:(i==0)=false:=by simp;omega
   cases hqi:q i with
   | zero=>rw[hqi]at hq;rw[hq.1]at hg;cases hg
   | succ k=>
    rw[hqi]at hq
    rcases hq with⟨hf,_⟩|⟨_,g',es,hm,hstp,hq'⟩
    ·rw[hf]at hg;cases hg
    have hrunT:=runT_crowd_go (P:=P) (sl:=sl') (i:=i) hi (by rw[hi0];exact hstp (w.at d))
    have hsz:((gs.map (woken P g g' (w.at d))).setIfInBounds i g').size=gs.size:=by simp
    have hsum:sumTo gs.size (upd q i k)+(k+1)=sumTo gs.size q+k:=by
     have:=sumTo_upd q k id hlt
     simpa [hqi]using this
    obtain⟨N,gs',a'',w'',sl'',t',q',B',hr,hs',h0',hS,hL',hP',hB'⟩:=ih ((gs.map (woken P g g' (w.at d))).setIfInBounds i g') a (w.at d) sl' (t++MemOp.ofEvents i g.frame.fn g.frame.place es) (upd q i k) B (by rw[hsz];omega)
     (by
      have hne:i≠0:=by omega
      rw[Array.getElem?_setIfInBounds_ne hne,Array.getElem?_map,h0]
      simp[woken_run hrun]) hrun
     ⟨fun j x hj hx=>by
      by_cases hji:i=j
      ·subst hji
       rw[Array.getElem?_setIfInBounds_self_of_lt (by simpa using hlt)]at hx
       obtain rfl:=Option.some.inj hx
       rw[upd_same,Deaf_own]
       exact hq'
      ·rw[Array.getElem?_setIfInBounds_ne hji,Array.getElem?_map]at hx
       obtain⟨y,hy,rfl⟩:=Option.map_eq_some_iff.1 hx
       have hqj:=hL.old j y hj hy
       rw[woken_quitsD hqj,upd_ne q k (Ne.symm hji),Deaf_other t hji _ (fun op hop=>by obtain⟨e,_,rfl⟩:=Go.Conc.mem_ofEvents hop;rfl)]
       exact hqj,fun j hj=>by
      rw[Deaf_other t (g':=i) (by simp at hj;omega) _ (fun op hop=>by obtain⟨e,_,rfl⟩:=Go.Conc.mem_ofEvents hop;rfl)]
      exact hL.above j (by simpa using hj)⟩
     (hP.mute (by omega) hm) (fun d'=>hstep d')
    exact⟨N+1,gs',a'',w'',sl'',t',q',B',by simp only[runNT,hst,hrunT];exact hr,hs'.trans hsz,h0',hS,hL',hP',hB'⟩
def Under (Shun:Loc→Prop) (Z:Nat→Prop):Prop:=(∀a:Addr,Shun (.cell a)→Z a.block)∧∀r,Shun (.obj r)→Z r
theorem evT_evL {Z:Nat→Prop} (hu:Under Shun Z) {n B:Nat} (hn:n≤B) {e:Event} (h:EvT Z n e):EvL Shun B e:=by
 obtain⟨loc,wr,sy⟩:=e
 rcases h with⟨a,h1,h2,h3⟩|⟨r,h1,h2,h3⟩|h1
 ·simp only at h1;subst h1
  refine⟨fun x hx hs=>?_,by simp,by simp,?_⟩
  ·exfalso
   simp only[MemAct.ofEvent,MemAct.touch?]at hx
   obtain rfl:=Option.some.inj hx
   exact h2 (hu.1 _ hs)
  ·simp only[MemAct.ofEvent,MemAct.low,Loc.low];omega
 ·simp only at h1;subst h1
  refine⟨fun x hx hs=>?_,by simp,by simp,?_⟩
  ·exfalso
   cases wr<;>cases sy<;>simp only[MemAct.ofEvent,MemAct.touch?]at hx<;>first
    | (obtain rfl:=Option.some.inj hx
       exact h2 (hu.2 _ hs))
    | (cases hx;done)
  ·cases wr<;>cases sy<;>simp only[MemAct.ofEvent,MemAct.low,Loc.low]<;>omega
 ·simp only at h1;subst h1
  refine⟨fun x hx hs=>?_,by simp,by simp,trivial⟩
  simp[MemAct.ofEvent,MemAct.touch?]at hx
end
end Go.Fxa
namespace Go.Fxa
open Go.Conc
end Go.Fxa
namespace Go
open Go.Fxa
open Go.Conc
def Sem.pureRun (P:Program) {α:Type}:Sem α→Option α
 | .pure a=>some a
 | .program k=>(k P).pureRun P
 | _=>none
end Go
namespace Go.Fxa
open Go.Conc
theorem am4 {P:Program} {α:Type} {e:Sem α} {a:α}:∀(_:e.pureRun P=some a) (w:World) (es:Array Event),e.runT P w es=(.ok a w,es):=by
 induction e with
 | pure b=>intro h w es;simp only[Sem.pureRun,Option.some.injEq]at h;subst h;rfl
 | program k ih=>intro h w es;exact ih P h w es
 | _=>intro h;simp[Sem.pureRun]at h
def af5 (fr:Frame) (cs:List Frame) (k:List Item):Option (Frame×List Frame):=some ({ fr with todo:=k },cs)
def ao2 (P:Program) (fr:Frame) (cs:List Frame):Next→Option (Frame×List Frame)
 | .value v=>some (fr.finish v,cs)
 | .skip=>some (fr.finish undef,cs)
 | .enter f args=>some (Frame.enter P f args .normal,fr::cs)
 | .defer d=>some ({ fr with defers:=d::fr.defers }.finish undef,cs)
 | _=>none
def ah4 (fr:Frame) (cs:List Frame) (c:Code) (k:List Item):Option (Frame×List Frame):=
 match c with
 | .ret=>some ({ fr with mode:=.returning },cs)
 | .skip=>af5 fr cs k
 | .label _=>af5 fr cs k
 | .seq a b=>af5 fr cs (.code a::.code b::k)
 | .cond c a b=>match fr.eval c with
  | .bool t=>af5 fr cs (.code (if t then a else b)::k)
  | _=>none
 | .block id b=>af5 fr cs (.code b::.inBlock id::k)
 | .loop b=>af5 fr cs (.code b::.inLoop b::k)
 | .exit id=>match exitTo id k with
  | some k'=>af5 fr cs k'
  | none=>none
 | .region _ ops false=>af5 fr cs (.inRegion ops (List.range ops.size)::k)
 | _=>none
def ad8 (P:Program) (fr:Frame) (cs:List Frame):Option (Frame×List Frame):=
 match fr.todo with
 | []=>some ({ fr with mode:=.returning },cs)
 | .code c::k=>ah4 fr cs c k
 | .inBlock _::k=>af5 fr cs k
 | .inLoop c::k=>af5 fr cs (.code c::.inLoop c::k)
 | .inRegion _ []::k=>af5 fr cs k
 | .inRegion ops (i::_)::_=>
  if((ops[i]?).map (Region.wanted · (yielded ops fr.tmps))).getD false then
   match ops[i]? with
   | some o=>match (execOp fr.eval o).pureRun P with
    | some n=>ao2 P fr cs n
    | none=>none
   | none=>none
  else some (fr.finish undef,cs)
 | _=>none
def quietBack (fr:Frame) (cs:List Frame) (v:Value):Option (Frame×List Frame):=
 match cs with
 | c::rest=>match fr.kind with
  | .normal=>some (c.finish v,rest)
  | .deferred=>match c.mode with
   | .panicking ({ recovered:=true,.. }::_)=>none
   | _=>some (c,rest)
  | _=>none
 | []=>none
def an4 (P:Program) (fr:Frame) (cs:List Frame) (d:Deferred) (ds:List Deferred):Option (Frame×List Frame):=
 match d.target with
 | .fn f cap=>match (invoke (.fn f cap) d.args).pureRun P with
  | some (.enter f args)=>some (Frame.enter P f args .deferred,{ fr with defers:=ds }::cs)
  | _=>none
 | _=>none
def quietStep (P:Program) (x:Frame×List Frame):Option (Frame×List Frame):=
 match x.1.roundOf,x.1.mode with
 | none,.run=>ad8 P x.1 x.2
 | none,.returning=>match x.1.defers with
  | []=>match P.funcs[x.1.fn]? with
   | some fn=>match (results fn x.1.tmps).pureRun P with
    | some v=>quietBack x.1 x.2 v
    | none=>none
   | none=>none
  | d::ds=>an4 P x.1 x.2 d ds
 | none,.panicking _=>match x.1.defers with
  | []=>none
  | d::ds=>an4 P x.1 x.2 d ds
 | _,_=>none
section
variable {P:Program}
theorem quiet_defer {fr:Frame} {cs:List Frame} {d:Deferred} {ds:List Deferred} {y:Frame×List Frame} (h:an4 P fr cs d ds=some y) (w:World):
  callDeferred P { fr with defers:=ds } cs none d w=.go (G y.1 y.2) w #[]:=by
 obtain⟨t,args⟩:=d
 unfold an4 at h
 cases t with
 | fn f cap=>
  simp only at h
  split at h
  ·rename_i f' a' he
   obtain rfl:=Option.some.inj h
   have:=am4 he w #[]
   unfold callDeferred
   simp only[Bool.false_and,Bool.false_eq_true,if_false,this,GStep.after,seen_none,Array.append_empty]
   rfl
  ·cases h
 | _=>simp at h
theorem quiet_step {main:Bool} {x y:Frame×List Frame} (h:quietStep P x=some y) (w:World):stepG P main (G x.1 x.2) w=.go (G y.1 y.2) w #[]:=by
 obtain⟨⟨fn,tmps,todo,defers,mode,kind,ro⟩,cs⟩:=x
 unfold quietStep at h
 cases ro with
 | some r=>cases mode<;>simp at h
 | none=>
  cases mode with
  | run=>
   simp only at h
   cases todo with
   | nil=>simp only[ad8,Option.some.injEq]at h;subst h;simp[G,stepG,stepG.exec]
   | cons it k=>
    cases it with
    | inBlock id=>simp only[ad8,af5,Option.some.injEq]at h;subst h;simp[G,stepG,stepG.exec]
    | inLoop c=>simp only[ad8,af5,Option.some.injEq]at h;subst h;simp[G,stepG,stepG.exec]
    | code c=>
     cases c with
     | cond c a b=>
      simp only[ad8,ah4]at h
      split at h
      ·rename_i t ht
       simp only[af5,Option.some.injEq]at h;subst h
       simp[G,stepG,stepG.exec,ht]
      ·cases h
     | exit id=>
      simp only[ad8,ah4]at h
      split at h
      ·rename_i k' hk
       simp only[af5,Option.some.injEq]at h;subst h
       simp[G,stepG,stepG.exec,hk]
      ·cases h
     | region id ops dr=>
      cases dr with
      | true=>simp[ad8,ah4]at h
      | false=>simp only[ad8,ah4,af5,Option.some.injEq]at h;subst h;simp[G,stepG,stepG.exec]
     | ret=>simp only[ad8,ah4,Option.some.injEq]at h;subst h;simp[G,stepG,stepG.exec]
     | skip=>simp only[ad8,ah4,af5,Option.some.injEq]at h;subst h;simp[G,stepG,stepG.exec]
     | label l=>simp only[ad8,ah4,af5,Option.some.injEq]at h;subst h;simp[G,stepG,stepG.exec]
     | seq a b=>simp only[ad8,ah4,af5,Option.some.injEq]at h;subst h;simp[G,stepG,stepG.exec]
     | block id b=>simp only[ad8,ah4,af5,Option.some.injEq]at h;subst h;simp[G,stepG,stepG.exec]
     | loop b=>simp only[ad8,ah4,af5,Option.some.injEq]at h;subst h;simp[G,stepG,stepG.exec]
     | _=>simp[ad8,ah4]at h
    | inRegion ops l=>
     cases l with
     | nil=>simp only[ad8,af5,Option.some.injEq]at h;subst h;simp[G,stepG,stepG.exec]
     | cons i rest=>
      simp only[ad8]at h
      split at h
      ·rename_i hw
       split at h
       ·rename_i o ho
        split at h
        ·rename_i n hn
         have hr:=am4 hn w #[]
         have hap:stepG P main (G (Frame.mk fn tmps (.inRegion ops (i::rest)::k) defers .run kind none) cs) w=
           stepG.apply P true (Frame.mk fn tmps (.inRegion ops (i::rest)::k) defers .run kind none) cs none (execOp (Frame.mk fn tmps (.inRegion ops (i::rest)::k) defers .run kind none).eval o) w:=by
          simp only[ho,Option.map_some,Option.getD_some]at hw
          simp[G,stepG,stepG.exec,stepG.oper,Frame.oper?,ho,hw]
         rw[hap]
         have hz:(if(kind==CallKind.early)=true then(#[]:Array Event)else #[])=#[]:=by split<;>rfl
         cases n with
         | value v=>simp only[ao2,Option.some.injEq]at h;subst h;simp only[stepG.apply,hr,if_true,hz,seen_none,GStep.after,Array.append_empty];rfl
         | skip=>simp only[ao2,Option.some.injEq]at h;subst h;simp only[stepG.apply,hr,if_true,hz,seen_none,GStep.after,Array.append_empty];rfl
         | enter f args=>simp only[ao2,Option.some.injEq]at h;subst h;simp only[stepG.apply,hr,if_true,hz,seen_none,GStep.after,Array.append_empty];rfl
         | defer d=>simp only[ao2,Option.some.injEq]at h;subst h;simp only[stepG.apply,hr,if_true,hz,seen_none,GStep.after,Array.append_empty];rfl
         | _=>simp[ao2]at h
        ·cases h
       ·cases h
      ·rename_i hw
       obtain rfl:=Option.some.inj h
       have hw':((ops[i]?).map (Region.wanted · (yielded ops tmps))).getD false=false:=by simpa using hw
       simp[G,stepG,stepG.exec,hw']
    | _=>simp[ad8]at h
  | returning=>
   cases defers with
   | nil=>
    simp only at h
    split at h
    ·rename_i f hf
     split at h
     ·rename_i v hv
      have hr:=am4 hv w #[]
      cases cs with
      | nil=>simp[quietBack]at h
      | cons c rest=>
       cases kind with
       | normal=>
        simp only[quietBack,Option.some.injEq]at h;subst h
        simp only[G,stepG,unwind,hf,hr,doReturn,GStep.after,seen_none,Array.append_empty]
       | deferred=>
        simp only[quietBack]at h
        split at h
        ·cases h
        ·rename_i hno
         obtain rfl:=Option.some.inj h
         simp only[G,stepG,unwind,hf,hr,doReturn,GStep.after,seen_none,Array.append_empty]
       | _=>simp[quietBack]at h
     ·cases h
    ·cases h
   | cons d ds=>
    simp only at h
    have:=quiet_defer h w
    have ht:∃f cap args,d={ target:=.fn f cap,args:=args }:=by
     obtain⟨t,args⟩:=d
     cases t<;>first|exact⟨_,_,_,rfl⟩|(simp[an4]at h;done)
    obtain⟨f,cap,args,rfl⟩:=ht
    simp only[G,stepG,unwind]
    exact this
  | panicking ch=>
   cases defers with
   | nil=>simp at h
   | cons d ds=>
    simp only at h
    have:=quiet_defer h w
    have ht:∃f cap args,d={ target:=.fn f cap,args:=args }:=by
     obtain⟨t,args⟩:=d
     cases t<;>first|exact⟨_,_,_,rfl⟩|(simp[an4]at h;done)
    obtain⟨f,cap,args,rfl⟩:=ht
    simp only[G,stepG,unwind]
    exact this
end
structure PX (Shun Still:Loc→Prop) (Mem Loose:Nat→Prop) (B h:Nat) (t:Trace):Prop where
 clean:∀said,¬Race said t
 known:∀i a,touchAt t i=some a→a.loc.isMemory=true→Knows t h i∨(a.write=false∧Still a.loc∧∃g,t.g? i=some g∧Loose g)∨(Shun a.loc∧a.kind=.atomic∧¬t.heard i)
 wrote:∀i a,touchAt t i=some a→a.write=true→Still a.loc→∀g,Mem g→Knows t g i
 hears:∀g,Mem g→Deaf t g=0
 seen:∀op∈t,op.act.low B
theorem heard_old {t u:Trace} {i:Nat} (h:i<t.size):(t++u).heard i ↔ t.heard i:=by
 unfold Trace.heard
 rw[g?_old h]
 constructor
 ·rintro⟨g,h1,h2⟩;exact⟨g,h1,by rw[deaf_old (Nat.le_of_lt h)]at h2;exact h2⟩
 ·rintro⟨g,h1,h2⟩;exact⟨g,h1,by rw[deaf_old (Nat.le_of_lt h)];exact h2⟩
section
variable {Shun Still:Loc→Prop} {Mem Loose:Nat→Prop} {B h:Nat} {t u:Trace}
theorem PX.mono {B':Nat} (H:PX Shun Still Mem Loose B h t) (hB:B≤B'):PX Shun Still Mem Loose B' h t:=⟨H.clean,H.known,H.wrote,H.hears,fun op hop=>MemAct.low_mono hB (H.seen op hop)⟩
theorem PX.fewer {Mem':Nat→Prop} (H:PX Shun Still Mem Loose B h t) (hM:∀g,Mem' g→Mem g):PX Shun Still Mem' Loose B h t:=⟨H.clean,H.known,fun i a ha hw hS g hg=>H.wrote i a ha hw hS g (hM g hg),fun g hg=>H.hears g (hM g hg),H.seen⟩
theorem PX.loosen {Loose':Nat→Prop} (H:PX Shun Still Mem Loose B h t) (hL:∀g,Loose g→Loose' g):PX Shun Still Mem Loose' B h t:=
 ⟨H.clean,fun i a ha hm=>(H.known i a ha hm).imp id (.imp (fun⟨x,y,g,hg,hl⟩=>⟨x,y,g,hg,hL g hl⟩) id),H.wrote,H.hears,H.seen⟩
theorem PX.old (H:PX Shun Still Mem Loose B h t) {i:Nat} {a:Touch} {x:MemOp} (hx':t[i]?=some x) (hxa:x.act.touch?=some a) (hm:a.loc.isMemory=true):
  Knows (t++u) h i∨(a.write=false∧Still a.loc∧∃g,(t++u).g? i=some g∧Loose g)∨(Shun a.loc∧a.kind=.atomic∧¬(t++u).heard i):=by
 have hlt:=lt_size_of_getElem? hx'
 rcases H.known i a (by rw[touchAt_of hx'];exact hxa) hm with hk|⟨p,q,g,hg,hl⟩|⟨p,q,r⟩
 ·exact .inl (hk.app u)
 ·exact .inr (.inl ⟨p,q,g,by rw[g?_old hlt];exact hg,hl⟩)
 ·exact .inr (.inr ⟨p,q,by rw[heard_old hlt];exact r⟩)
theorem PX.oldHears {g:Nat} (H:PX Shun Still Mem Loose B h t) (hu:∀op∈u,op.g=g) (hd:Mem g→Deaf (t++u) g=Deaf t g):∀g',Mem g'→Deaf (t++u) g'=0:=fun g' hg'=>by
 by_cases e:g'=g
 ·subst e;exact(hd hg').trans (H.hears g' hg')
 ·exact(Deaf_other t (fun x=>e x.symm) u hu).trans (H.hears g' hg')
theorem PX.appMute {g:Nat} (H:PX Shun Still Mem Loose B h t) (hu:∀op∈u,op.g=g) (hn:∀op∈u,op.act.touch?=none) (hd:Mem g→Deaf (t++u) g=Deaf t g) (hl:∀op∈u,op.act.low B):PX Shun Still Mem Loose B h (t++u):=by
 refine⟨fun said=>noRace_appendMute (H.clean said) hn,fun i a ha hm=>?_,fun i a ha hw hS g' hg'=>?_,H.oldHears hu hd,seen_app H.seen hl⟩
 ·obtain⟨x,hx,hxa⟩:=touch_of ha
  rcases getElem?_append_cases hx with⟨_,hx'⟩|⟨_,hxu⟩
  ·exact H.old hx' hxa hm
  ·rw[hn x hxu]at hxa;cases hxa
 ·obtain⟨x,hx,hxa⟩:=touch_of ha
  rcases getElem?_append_cases hx with⟨_,hx'⟩|⟨_,hxu⟩
  ·exact(H.wrote i a (by rw[touchAt_of hx'];exact hxa) hw hS g' hg').app u
  ·rw[hn x hxu]at hxa;cases hxa
theorem PX.appRead {g:Nat} (H:PX Shun Still Mem Loose B h t) (hg:Mem g) (hL:Loose g) (hu:∀op∈u,op.g=g) (hr:∀op∈u,∀b,op.act.touch?=some b→b.write=false∧Still b.loc) (hd:Deaf (t++u) g=Deaf t g)
  (hl:∀op∈u,op.act.low B):PX Shun Still Mem Loose B h (t++u):=by
 refine⟨fun said=>noRace_append (H.clean said) hu fun i a ha op hop b hb hc=>?_,fun i a ha hm=>?_,fun i a ha hw hS g' hg'=>?_,H.oldHears hu (fun _=>hd),seen_app H.seen hl⟩
 ·obtain⟨hb0,hbS⟩:=hr op hop b hb
  rcases hc.2.2.1 with x|x
  ·exact H.wrote i a ha x (hc.1 ▸ hbS) g hg
  ·rw[hb0]at x;cases x
 ·obtain⟨x,hx,hxa⟩:=touch_of ha
  rcases getElem?_append_cases hx with⟨_,hx'⟩|⟨_,hxu⟩
  ·exact H.old hx' hxa hm
  ·exact .inr (.inl ⟨(hr x hxu a hxa).1,(hr x hxu a hxa).2,g,by rw[g?_of hx,hu x hxu],hL⟩)
 ·obtain⟨x,hx,hxa⟩:=touch_of ha
  rcases getElem?_append_cases hx with⟨_,hx'⟩|⟨_,hxu⟩
  ·exact(H.wrote i a (by rw[touchAt_of hx'];exact hxa) hw hS g' hg').app u
  ·rw[(hr x hxu a hxa).1]at hw;cases hw
theorem PX.appH (H:PX Shun Still Mem Loose B h t) (hu:∀op∈u,op.g=h) (hs:∀op∈u,∀b,op.act.touch?=some b→(Still b.loc→b.write=false)∧(Shun b.loc→b.kind≠.plain)) (hd:Mem h→Deaf (t++u) h=Deaf t h) (hl:∀op∈u,op.act.low B):
  PX Shun Still Mem Loose B h (t++u):=by
 refine⟨fun said=>noRace_append (H.clean said) hu fun i a ha op hop b hb hc=>?_,fun i a ha hm=>?_,fun i a ha hw hS g hg=>?_,H.oldHears hu hd,seen_app H.seen hl⟩
 ·rcases H.known i a ha hc.2.1 with hk|⟨hw,hS,_⟩|⟨hS,hat,_⟩
  ·exact hk
  ·have hb0:=(hs op hop b hb).1 (hc.1 ▸ hS)
   rcases hc.2.2.1 with x|x
   ·rw[hw]at x;cases x
   ·rw[hb0]at x;cases x
  ·have hkb:=(hs op hop b hb).2 (hc.1 ▸ hS)
   obtain⟨_,_,_,hcase⟩:=hc
   rw[hat]at hcase
   rcases hcase with x|x|⟨_,x,_⟩
   ·cases x
   ·exact absurd x hkb
   ·cases x
 ·obtain⟨x,hx,hxa⟩:=touch_of ha
  rcases getElem?_append_cases hx with⟨_,hx'⟩|⟨_,hxu⟩
  ·exact H.old hx' hxa hm
  ·have:=knows_own hx
   rw[hu x hxu]at this
   exact .inl this
 ·obtain⟨x,hx,hxa⟩:=touch_of ha
  rcases getElem?_append_cases hx with⟨_,hx'⟩|⟨_,hxu⟩
  ·exact(H.wrote i a (by rw[touchAt_of hx'];exact hxa) hw hS g hg).app u
  ·rw[(hs x hxu a hxa).1 hS]at hw;cases hw
theorem PX.appDeaf {W:Loc→Prop} {g:Nat} (H:PX Shun Still Mem Loose B h t) (hW:∀l,W l→Shun l∧¬Still l) (hpl:∀i a,touchAt t i=some a→W a.loc→a.kind=.plain→Knows t g i) (hg:¬Mem g) (hu:∀op∈u,op.g=g)
  (hs:∀op∈u,∀b,op.act.touch?=some b→W b.loc∧b.kind=.atomic) (hd:∀k,k<u.size→(t++u).deaf g (t.size+k)≠0) (hl:∀op∈u,op.act.low B):PX Shun Still Mem Loose B h (t++u):=by
 refine⟨fun said=>noRace_append (H.clean said) hu fun i a ha op hop b hb hc=>?_,fun i a ha hm=>?_,fun i a ha hw hS g' hg'=>?_,H.oldHears hu (fun x=>(hg x).elim),seen_app H.seen hl⟩
 ·obtain⟨hbW,hbk⟩:=hs op hop b hb
  obtain⟨h1,_,_,hcase⟩:=hc
  rw[hbk]at hcase
  rcases hcase with x|x|⟨_,_,x⟩
  ·exact hpl i a ha (h1 ▸ hbW) x
  ·cases x
  ·cases x
 ·obtain⟨x,hx,hxa⟩:=touch_of ha
  rcases getElem?_append_cases hx with⟨_,hx'⟩|⟨hge,hxu⟩
  ·exact H.old hx' hxa hm
  ·obtain⟨h1,h2⟩:=hs x hxu a hxa
   refine .inr (.inr ⟨(hW _ h1).1,h2,?_⟩)
   rintro⟨g',hg',hd'⟩
   have hlt:=lt_size_of_getElem? hx
   rw[Array.size_append]at hlt
   rw[g?_of hx,hu x hxu]at hg'
   obtain rfl:=Option.some.inj hg'
   have:=hd (i-t.size) (by omega)
   rw[show t.size+(i-t.size)=i from by omega]at this
   exact this hd'
 ·obtain⟨x,hx,hxa⟩:=touch_of ha
  rcases getElem?_append_cases hx with⟨_,hx'⟩|⟨_,hxu⟩
  ·exact(H.wrote i a (by rw[touchAt_of hx'];exact hxa) hw hS g' hg').app u
  ·exact((hW _ (hs x hxu a hxa).1).2 hS).elim
theorem PX.give {j:Nat} (H:PX Shun Still Mem Loose B h t) (hh:Mem h) (hj:Mem j) (fh:FuncId) (ph:String) (fj:FuncId) (pj:String) {c:Nat} (k cap:Nat) (hc:c<B):
  PX Shun Still Mem (fun g=>Loose g∧g≠j) B j (t++met h j fh ph fj pj c k cap):=by
 have hn:=met_mute h j fh ph fj pj c k cap
 have hq:=met_quiet h j fh ph fj pj c k cap
 have e0:(t++met h j fh ph fj pj c k cap)[t.size]?=some { g:=h,fn:=fh,pos:=ph,act:=.send c k }:=by simp[met]
 have e3:(t++met h j fh ph fj pj c k cap)[t.size+3]?=some { g:=j,fn:=fj,pos:=pj,act:=.recvDone c k }:=by simp[met]
 have edge:HappensBefore (t++met h j fh ph fj pj c k cap) t.size (t.size+3):=
  Relation.TransGen.single (.inr ⟨.handOver (act?_of e0) (act?_of e3),⟨h,g?_of e0,by rw[deaf_old (Nat.le_refl _)];exact H.hears h hh⟩,⟨j,g?_of e3,by rw[deaf_quiet (hq j) 3 (by simp[met])];exact H.hears j hj⟩⟩)
 refine⟨fun said=>noRace_appendMute (H.clean said) hn,fun i a ha hm=>?_,fun i a ha hw hS g hg=>?_,fun g hg=>(Deaf_quiet (hq g)).trans (H.hears g hg),seen_app H.seen fun op hop=>?_⟩
 ·obtain⟨x,hx,hxa⟩:=touch_of ha
  rcases getElem?_append_cases hx with⟨hi,hx'⟩|⟨_,hxu⟩
  ·rcases H.known i a (by rw[touchAt_of hx'];exact hxa) hm with hk|⟨p,q,g,hg,hl⟩|⟨p,q,r⟩
   ·exact .inl ⟨t.size+3,_,e3,rfl,.inr ((hk.hb_new (Nat.le_refl _) e0 rfl).trans edge)⟩
   ·by_cases e:g=j
    ·subst e
     have:=knows_own hx
     rw[show x.g=g from by have:=g?_of hx';rw[hg]at this;exact(Option.some.inj this).symm]at this
     exact .inl this
    ·exact .inr (.inl ⟨p,q,g,by rw[g?_old hi];exact hg,hl,e⟩)
   ·exact .inr (.inr ⟨p,q,by rw[heard_old hi];exact r⟩)
  ·rw[hn x hxu]at hxa;cases hxa
 ·obtain⟨x,hx,hxa⟩:=touch_of ha
  rcases getElem?_append_cases hx with⟨_,hx'⟩|⟨_,hxu⟩
  ·exact(H.wrote i a (by rw[touchAt_of hx'];exact hxa) hw hS g hg).app _
  ·rw[hn x hxu]at hxa;cases hxa
 ·simp only[met,List.mem_toArray,List.mem_cons,List.not_mem_nil,or_false]at hop
  rcases hop with rfl|rfl|rfl|rfl<;>exact hc
theorem PX.born {c:Nat} (H:PX Shun Still Mem Loose B h t) (hh:Mem h) (hc0:Deaf t c=0) (fh:FuncId) (ph:String) (fc:FuncId):
  PX Shun Still (fun g=>Mem g∨g=c) Loose B c (t++#[{ g:=h,fn:=fh,pos:=ph,act:=.go c },{ g:=c,fn:=fc,pos:=ph,act:=.start }]):=by
 generalize hu:(#[{ g:=h,fn:=fh,pos:=ph,act:=.go c },{ g:=c,fn:=fc,pos:=ph,act:=.start }]:Trace)=u
 have hn:∀op∈u,op.act.touch?=none:=by
  intro op hop;subst hu
  simp only[List.mem_toArray,List.mem_cons,List.not_mem_nil,or_false]at hop
  rcases hop with rfl|rfl<;>rfl
 have hq:∀g,∀op∈u,∀d,deafStep g d op=d:=by
  intro g op hop d;subst hu
  simp only[List.mem_toArray,List.mem_cons,List.not_mem_nil,or_false]at hop
  rcases hop with rfl|rfl<;>rfl
 have e0:(t++u)[t.size]?=some { g:=h,fn:=fh,pos:=ph,act:=.go c }:=by subst hu;simp
 have e1:(t++u)[t.size+1]?=some { g:=c,fn:=fc,pos:=ph,act:=.start }:=by subst hu;simp
 have edge:HappensBefore (t++u) t.size (t.size+1):=
  Relation.TransGen.single (.inr ⟨.spawn (act?_of e0) (act?_of e1) (g?_of e1),⟨h,g?_of e0,by rw[deaf_old (Nat.le_refl _)];exact H.hears h hh⟩,⟨c,g?_of e1,by rw[deaf_quiet (hq c) 1 (by subst hu;simp)];exact hc0⟩⟩)
 refine⟨fun said=>noRace_appendMute (H.clean said) hn,fun i a ha hm=>?_,fun i a ha hw hS g hg=>?_,fun g hg=>(Deaf_quiet (hq g)).trans (hg.elim (H.hears g) fun e=>e ▸ hc0),seen_app H.seen fun op hop=>?_⟩
 ·obtain⟨x,hx,hxa⟩:=touch_of ha
  rcases getElem?_append_cases hx with⟨hi,hx'⟩|⟨_,hxu⟩
  ·rcases H.known i a (by rw[touchAt_of hx'];exact hxa) hm with hk|⟨p,q,g,hg,hl⟩|⟨p,q,r⟩
   ·exact .inl ⟨t.size+1,_,e1,rfl,.inr ((hk.hb_new (Nat.le_refl _) e0 rfl).trans edge)⟩
   ·exact .inr (.inl ⟨p,q,g,by rw[g?_old hi];exact hg,hl⟩)
   ·exact .inr (.inr ⟨p,q,by rw[heard_old hi];exact r⟩)
  ·rw[hn x hxu]at hxa;cases hxa
 ·obtain⟨x,hx,hxa⟩:=touch_of ha
  rcases getElem?_append_cases hx with⟨_,hx'⟩|⟨_,hxu⟩
  ·have hold:=H.wrote i a (by rw[touchAt_of hx'];exact hxa) hw hS
   rcases hg with hg|rfl
   ·exact(hold g hg).app u
   ·exact⟨t.size+1,_,e1,rfl,.inr (((hold h hh).hb_new (Nat.le_refl _) e0 rfl).trans edge)⟩
  ·rw[hn x hxu]at hxa;cases hxa
 ·subst hu
  simp only[List.mem_toArray,List.mem_cons,List.not_mem_nil,or_false]at hop
  rcases hop with rfl|rfl<;>trivial
theorem PX.acquire {c m:Nat} {a:Addr} {op:MemOp} (H:PX Shun Still Mem Loose B h t) (hh:Deaf t h=0) (hm:t[m]?=some op) (hg:op.g=c) (hact:op.act=.mark (.releaseMerge a)) (hd:t.deaf c m=0)
  (hall:∀i b,touchAt t i=some b→t.g? i=some c→b.write=false→Still b.loc→Loose c→i<m∨(Shun b.loc∧b.kind=.atomic∧¬t.heard i)) (hno:∀k,m<k→t.act? k≠some (.mark (.release a)))
  (fn:FuncId) (pos:String) (ha:a.block<B):PX Shun Still Mem (fun g=>Loose g∧g≠c) B h (t++#[{ g:=h,fn:=fn,pos:=pos,act:=.mark (.acquire a) }]):=by
 generalize hu:(#[{ g:=h,fn:=fn,pos:=pos,act:=.mark (.acquire a) }]:Trace)=u
 have hn:∀op∈u,op.act.touch?=none:=by
  intro op hop;subst hu
  simp only[List.mem_toArray,List.mem_cons,List.not_mem_nil,or_false]at hop
  subst hop;rfl
 have hq:∀g,∀op∈u,∀d,deafStep g d op=d:=by
  intro g op hop d;subst hu
  simp only[List.mem_toArray,List.mem_cons,List.not_mem_nil,or_false]at hop
  subst hop;rfl
 have hlt:=lt_size_of_getElem? hm
 have e0:(t++u)[t.size]?=some { g:=h,fn:=fn,pos:=pos,act:=.mark (.acquire a) }:=by subst hu;simp
 have em:(t++u)[m]?=some op:=by rw[getElem?_append_old hlt];exact hm
 have edge:HappensBefore (t++u) m t.size:=by
  refine Relation.TransGen.single (.inr ⟨.marked (a:=a) hlt (.inr (by rw[act?_of em,hact])) (act?_of e0) (fun k h1 h2=>?_),⟨c,by rw[g?_of em,hg],by rw[deaf_old (Nat.le_of_lt hlt)];exact hd⟩,⟨h,g?_of e0,by rw[deaf_old (Nat.le_refl _)];exact hh⟩⟩)
  rw[act?_old h2];exact hno k h1
 refine⟨fun said=>noRace_appendMute (H.clean said) hn,fun i b hi hmem=>?_,fun i b hi hw hS g hg=>?_,fun g hg=>(Deaf_quiet (hq g)).trans (H.hears g hg),seen_app H.seen fun op hop=>?_⟩
 ·obtain⟨x,hx,hxa⟩:=touch_of hi
  rcases getElem?_append_cases hx with⟨hil,hx'⟩|⟨_,hxu⟩
  ·rcases H.known i b (by rw[touchAt_of hx'];exact hxa) hmem with hk|⟨p,q,g,hg',hl⟩|⟨p,q,r⟩
   ·exact .inl (hk.app u)
   ·by_cases e:g=c
    ·subst e
     rcases hall i b (by rw[touchAt_of hx'];exact hxa) hg' p q hl with hlm|⟨p,q,r⟩
     ·refine .inl ⟨t.size,_,e0,rfl,.inr ((hb_po hlm (by rw[getElem?_append_old hil];exact hx') em ?_).trans edge)⟩
      have:=g?_of hx';rw[hg']at this;rw[hg];exact(Option.some.inj this).symm
     ·exact .inr (.inr ⟨p,q,by rw[heard_old hil];exact r⟩)
    ·exact .inr (.inl ⟨p,q,g,by rw[g?_old hil];exact hg',hl,e⟩)
   ·exact .inr (.inr ⟨p,q,by rw[heard_old hil];exact r⟩)
  ·rw[hn x hxu]at hxa;cases hxa
 ·obtain⟨x,hx,hxa⟩:=touch_of hi
  rcases getElem?_append_cases hx with⟨_,hx'⟩|⟨_,hxu⟩
  ·exact(H.wrote i b (by rw[touchAt_of hx'];exact hxa) hw hS g hg).app u
  ·rw[hn x hxu]at hxa;cases hxa
 ·subst hu
  simp only[List.mem_toArray,List.mem_cons,List.not_mem_nil,or_false]at hop
  subst hop;exact ha
theorem PX.ofPast (H:Past Shun B t) (hS:∀l,Still l→l.isMemory=true) (hSS:∀l,Still l→¬Shun l):PX Shun Still (fun g=>g=0) (fun _=>False) B 0 t:=by
 refine⟨H.clean,fun i a ha hm=>?_,fun i a ha _ hs _ hg=>hg ▸ (H.known i a ha (hS _ hs)).elim id (fun x=>(hSS _ hs x.1).elim),fun _ hg=>hg ▸ H.hears,H.seen⟩
 rcases H.known i a ha hm with hk|⟨h1,h2⟩
 ·exact .inl hk
 ·by_cases hh:t.heard i
  ·obtain⟨op,hop,hoa⟩:=touch_of ha
   by_cases h0:op.g=0
   ·have:=knows_own hop
    rw[h0]at this
    exact .inl this
   ·obtain⟨j,hj,hb⟩:=H.over i op.g (g?_of hop) h0 ⟨a,ha,hm,.inr hh⟩
    obtain⟨z,hz,hz0⟩:=Option.map_eq_some_iff.1 (show(t[j]?).map (·.g)=some 0 from hj)
    exact .inl ⟨j,z,hz,hz0,.inr hb⟩
  ·exact .inr (.inr ⟨h1,h2,hh⟩)
theorem PX.toPast (H:PX Shun Still Mem Loose B 0 t) (h0:Deaf t 0=0) (hL:∀g,¬Loose g):Past Shun B t:=by
 have hk:∀i a,touchAt t i=some a→a.loc.isMemory=true→Knows t 0 i∨(Shun a.loc∧a.kind=.atomic∧¬t.heard i):=fun i a ha hm=>
  (H.known i a ha hm).imp id fun x=>x.elim (fun⟨_,_,g,_,hl⟩=>(hL g hl).elim) id
 refine⟨H.clean,fun i a ha hm=>(hk i a ha hm).imp id fun x=>⟨x.1,x.2.1⟩,fun i g hg hne ⟨x,hx,hm,hc⟩=>?_,h0,H.seen⟩
 rcases hk i x hx hm with⟨q,z,hq,hz,hb⟩|⟨_,h2,h3⟩
 ·rcases hb with rfl|hb
  ·rw[g?_of hq,hz]at hg
   exact absurd (Option.some.inj hg).symm hne
  ·exact⟨q,by rw[g?_of hq,hz],hb⟩
 ·rcases hc with hc|hc
  ·exact(hc h2).elim
  ·exact(h3 hc).elim
end
section
variable {P:Program} {α β:Type} {r:Nat} {K:α→Prop}
theorem al3 {s:String}:NoOk P r (stuck s:Sem α):=fun w es a w' es' _ _ h=>by simp[stuck]at h
theorem ad5 {u:Unsupported}:NoOk P r (unsupported u:Sem α):=fun w es a w' es' _ _ h=>by simp[unsupported]at h
theorem noOk_shape {f:Option (TypeId×Nat)→Sem α} (h:NoOk P r (f none)):NoOk P r (shape r>>= f):=fun w es a w' es' hp hd he=>by
 have h1:(f (w.shape? r)).runT P w es=(.ok a w',es'):=he
 have e:w.shape? r=none:=by unfold World.shape?;rw[hd];rfl
 rw[e]at h1
 exact h w es a w' es' hp hd h1
theorem ao6 {f:Obj→Sem α} (h:NoOk P r (f deadObj)):NoOk P r (getObj r>>= f):=fun w es a w' es' hp hd he=>by
 have h1:(f deadObj).runT P w (es.push ⟨.obj r,false,deadObj.isChan⟩)=(.ok a w',es'):=by
  have:(Sem.getObj r f).runT P w es=(.ok a w',es'):=he
  simp only[Sem.runT,hd]at this
  exact this
 exact h w _ a w' es' hp hd h1
theorem noOk_shape' {q:Nat} {f:Option (TypeId×Nat)→Sem α} (h:∀s,NoOk P r (f s)):NoOk P r (shape q>>= f):=fun w es a w' es' hp hd he=>h _ w es a w' es' hp hd he
theorem noOk_getObj' {q:Nat} {f:Obj→Sem α} (h:∀o,NoOk P r (f o)):NoOk P r (getObj q>>= f):=fun w es a w' es' hp hd he=>by
 have:(Sem.getObj q f).runT P w es=(.ok a w',es'):=he
 simp only[Sem.runT]at this
 split at this
 ·simp at this
 ·exact h _ w _ a w' es' hp hd this
 ·simp at this
theorem noOk_then {e:Sem β} {f:β→Sem α} (h:NoOk P r e):NoOk P r (e>>= f):=h.bind
theorem noOk_ite {c:Prop} [Decidable c] {x y:Sem α} (h1:c→NoOk P r x) (h2:¬c→NoOk P r y):NoOk P r (if c then x else y):=by
 split
 ·exact h1 ‹_›
 ·exact h2 ‹_›
theorem ae4 {e:Sem α} (h:e.Tame P fun _=>False):NoOk P r e:=fun w es a w' es' hp _ he=>by
 obtain⟨_,_,hf,_⟩:=twin_run (Od:=noOld) (Z:=fun _=>False) (w:=w) h (@Twin.mk noOld _ _ _ rfl (fun _ _ _=>rfl) (fun _ h=>h.elim) hp rfl rfl (fun _ h=>False.elim h) (fun _ h=>False.elim h) (fun _ h=>False.elim h)) (fun _ h=>h.elim) he (fun _ _ _=>rfl)
 exact hf
theorem ai9 {u:Unsupported} (h:∀g,u≠.initOrder g):(unsupported u:Sem α).Tame P K:=by
 cases u<;>first|rfl|exact(h _ rfl).elim
theorem noOk_viewAt {f:Option (Addr×TypeId)→Sem α} (h:NoOk P r (f (some (⟨0,0,some 0⟩,0)))):NoOk P r (viewAt r>>= f):=
 noOk_shape (f:=fun s=>(if s.isSome then pure none else getObj r>>= fun o=>match o with | .view a t=>pure (some (a,t))|_=>pure none)>>= f) (ao6 (f:=fun o=>(match o with | .view a t=>pure (some (a,t))|_=>pure none)>>= f) h)
theorem noOk_numberAt {f:Option (Addr×Bool)→Sem α} (h:NoOk P r (f none)):NoOk P r (numberAt r>>= f):=
 noOk_shape (f:=fun s=>(if s.isSome then pure none else getObj r>>= fun o=>match o with | .number a l=>pure (some (a,l))|_=>pure none)>>= f) (ao6 (f:=fun o=>(match o with | .number a l=>pure (some (a,l))|_=>pure none)>>= f) h)
theorem tame_viewAt {f:Option (Addr×TypeId)→Sem α} (h:∀x,(f x).Tame P K) (hd:NoOk P r (f (some (⟨0,0,some 0⟩,0)))):(viewAt r>>= f).Tame P K:=by
 refine⟨fun s=>?_,?_⟩
 ·cases s with
  | some x=>exact h none
  | none=>exact⟨fun o _=>by cases o<;>exact h _,hd⟩
 ·exact ao6 (f:=fun o=>(match o with | .view a t=>pure (some (a,t))|_=>pure none)>>= f) hd
theorem tame_numberAt {f:Option (Addr×Bool)→Sem α} (h:∀x,(f x).Tame P K) (hd:NoOk P r (f none)):(numberAt r>>= f).Tame P K:=by
 refine⟨fun s=>?_,?_⟩
 ·cases s with
  | some x=>exact h none
  | none=>exact⟨fun o _=>by cases o<;>exact h _,hd⟩
 ·exact ao6 (f:=fun o=>(match o with | .number a l=>pure (some (a,l))|_=>pure none)>>= f) hd
end
section
variable {P:Program}
theorem tame_floatArith {op:BinOp} {k:FloatKind} {x y:Nat}:(Op.floatArith op k x y).Tame P fun _=>True:=by
 unfold Op.floatArith
 have jp:∀r:Option Nat,(match r with
   | some r=>pure (Value.float k r)
   | none=>do pure (Value.float k (←choose (.nanBits k x y))):Sem Value).Tame P fun _=>True:=fun r=>by
  cases r with
  | none=>exact aa1 ag6 fun _=>trivial
  | some _=>trivial
 cases op<;>first|exact jp _|exact aa7
theorem am8 {op:BinOp} {k:FloatKind} {x y:Nat}:(Op.floatCmp op k x y).Tame P fun _=>True:=by
 unfold Op.floatCmp
 cases op<;>first|trivial|rfl
theorem ak0 {op:BinOp} {k:FloatKind} {x y:Nat}:(Op.Complex.arith op k x y).Tame P fun _=>True:=by
 unfold Op.Complex.arith
 refine aa1 tame_floatArith fun v=>?_
 cases v<;>first|trivial|rfl
theorem tame_cmp {op:BinOp} {k:FloatKind} {x y:Nat}:(Op.Complex.cmp op k x y).Tame P fun _=>True:=aa1 am8 fun _=>tame_asBool
theorem tame_floatToFloat {s d:FloatKind} {b:Nat}:(Conv.floatToFloat s b d).Tame P fun _=>True:=by
 unfold Conv.floatToFloat
 repeat' first|exact trivial|exact rfl|refine aa1 ag6 fun _=>?_|refine ab1 (fun _=>?_) fun _=>?_|split
theorem am2 {s d:FloatKind} {x:Nat}:(Op.Complex.conv s x d).Tame P fun _=>True:=by
 unfold Op.Complex.conv
 refine ab1 (fun _=>trivial) fun _=>aa1 tame_floatToFloat fun v=>?_
 cases v<;>first|trivial|rfl
theorem tame_product {a b c d:Nat}:(Op.Complex.product a b c d).Tame P fun _=>True:=by
 unfold Op.Complex.product
 repeat' first|exact trivial|refine aa1 ak0 fun _=>?_
theorem tame_corrected {s a b c d:Nat}:(Op.Complex.corrected s a b c d).Tame P fun _=>True:=by
 unfold Op.Complex.corrected
 repeat' first|exact trivial|refine aa1 ak0 fun _=>?_
theorem tame_cadd {x y:Nat}:(Op.Complex.add x y).Tame P fun _=>True:=ak0
theorem tame_csub {x y:Nat}:(Op.Complex.sub x y).Tame P fun _=>True:=ak0
theorem am3 {x y:Nat}:(Op.Complex.mul x y).Tame P fun _=>True:=ak0
theorem tame_cquo {x y:Nat}:(Op.Complex.quo x y).Tame P fun _=>True:=ak0
theorem tame_quotient {a b c d:Nat}:(Op.Complex.quotient a b c d).Tame P fun _=>True:=by
 unfold Op.Complex.quotient
 refine aa1 tame_cmp fun t=>?_
 extract_lets jp
 have hj:∀x,(jp x).Tame P fun _=>True:=fun⟨e,f⟩=>by
  refine aa1 tame_cmp fun u=>aa1 tame_cmp fun u'=>?_
  refine ab1 (fun _=>aa5 trivial) fun _=>ab1 (fun _=>aa1 am3 fun _=>aa1 am3 fun _=>aa5 trivial) fun _=>ab1 (fun _=>tame_corrected) fun _=>ab1 (fun _=>tame_corrected) fun _=>aa5 trivial
 clear_value jp
 refine ab1 (fun _=>?_) fun _=>?_
 ·exact aa1 tame_cquo fun _=>aa1 am3 fun _=>aa1 tame_cadd fun _=>aa1 am3 fun _=>aa1 tame_cadd fun _=>aa1 tame_cquo fun _=>aa1 am3 fun _=>aa1 tame_csub fun _=>aa1 tame_cquo fun _=>aa1 (aa5 trivial) fun _=>hj _
 ·exact aa1 tame_cquo fun _=>aa1 am3 fun _=>aa1 tame_cadd fun _=>aa1 am3 fun _=>aa1 tame_cadd fun _=>aa1 tame_cquo fun _=>aa1 am3 fun _=>aa1 tame_csub fun _=>aa1 tame_cquo fun _=>aa1 (aa5 trivial) fun _=>hj _
theorem tame_complexOp {op:BinOp} {k:FloatKind} {a b c d:Nat}:(Op.complexOp op k a b c d).Tame P fun _=>True:=by
 unfold Op.complexOp
 cases op<;>first
  | exact rfl
  | exact aa1 ak0 fun _=>aa1 ak0 fun _=>trivial
  | exact aa1 tame_cmp fun _=>aa1 tame_cmp fun _=>trivial
  | (refine aa1 am2 fun _=>aa1 am2 fun _=>aa1 am2 fun _=>aa1 am2 fun _=>?_
     first
      | exact aa1 tame_product fun _=>aa1 am2 fun _=>aa1 am2 fun _=>trivial
      | exact aa1 tame_quotient fun _=>aa1 am2 fun _=>aa1 am2 fun _=>trivial)
theorem tame_stringOp {op:BinOp} {x y:ByteArray}:(Op.stringOp op x y).Tame P fun _=>True:=by
 unfold Op.stringOp
 cases op<;>first|trivial|rfl|exact ab1 (fun _=>rfl) fun _=>trivial
theorem tame_shift {op:BinOp} {k yk:IntKind} {x y:Int}:(Op.shift op k x yk y).Tame P fun _=>True:=by
 unfold Op.shift
 refine ab1 (fun _=>ab6) fun _=>?_
 cases op<;>first|trivial|rfl
theorem tame_intArith {op:BinOp} {k:IntKind} {x y:Int}:(Op.intArith op k x y).Tame P fun _=>True:=by
 unfold Op.intArith
 cases op<;>first|trivial|rfl
theorem tame_intDiv {op:BinOp} {k:IntKind} {x y:Int}:(Op.intDiv op k x y).Tame P fun _=>True:=by
 unfold Op.intDiv
 refine ab1 (fun _=>ab6) fun _=>?_
 cases op<;>first|trivial|rfl
theorem tame_intBits {op:BinOp} {k:IntKind} {x y:Int}:(Op.intBits op k x y).Tame P fun _=>True:=by
 unfold Op.intBits
 cases op<;>first|trivial|rfl
theorem tame_intCmp {op:BinOp} {x y:Int}:(Op.intCmp op x y).Tame P fun _=>True:=by
 unfold Op.intCmp
 cases op<;>first|trivial|rfl
theorem tame_unary {op:UnOp} {x:Value}:(Op.unary op x).Tame P fun _=>True:=by
 unfold Op.unary
 split<;>first|exact tame_intArith|exact tame_intBits|trivial|rfl
/-! ### pointers where numbers are asked for -/
theorem tame_byteOf {a:Addr}:(byteOf a).Tame P fun _=>True:=by
 unfold byteOf
 cases hs:a.spot with
 | some s=>trivial
 | none=>
  refine aa1 (ab8 ad6) fun p=>?_
  have h1:(noView a).Tame P fun _=>True:=tame_viewAt (r:=a.block) (fun x=>by
   cases x with
   | none=>exact aa5 trivial
   | some y=>exact rfl) ad5
  refine aa1 h1 fun _=>⟨fun s=>?_,al3⟩
  cases s with
  | none=>exact aa7
  | some x=>
   obtain⟨e,n⟩:=x
   refine ab1 (fun _=>aa5 trivial) fun _=>?_
   split
   ·exact aa5 trivial
   ·exact aa7
end
section
variable {P:Program} {α:Type} {r:Nat} {K:α→Prop}
theorem ad3 {n:Addr} {f:Addr×Bool→Sem α} (h:∀x,(f x).Tame P K) (hd:NoOk P n.block (f (n,false))):(behindNumber n>>= f).Tame P K:=by
 refine⟨fun s=>?_,?_⟩
 ·cases s with
  | some x=>exact h _
  | none=>exact⟨fun o _=>by cases o<;>exact h _,hd⟩
 ·exact ao6 (f:=fun o=>((match o with | .number a l=>pure (some (a,l))|_=>pure none)>>= fun x=>pure (x.getD (n,false)))>>= f) hd
theorem ak3 {n:Addr} {f:Addr×Bool→Sem α} (h:∀x,NoOk P r (f x)):NoOk P r (behindNumber n>>= f):=
 noOk_shape' (f:=fun s=>((if s.isSome then pure none else getObj n.block>>= fun o=>match o with | .number a l=>pure (some (a,l))|_=>pure none)>>= fun x=>pure (x.getD (n,false)))>>= f) fun s=>by
  cases s with
  | some x=>exact h _
  | none=>exact noOk_getObj' (f:=fun o=>((match o with | .number a l=>pure (some (a,l))|_=>pure none)>>= fun x=>pure (x.getD (n,false)))>>= f) fun o=>by cases o<;>exact h _
end
section
variable {P:Program}
theorem tame_twoPlaces (hG:P.globals.size=0) {a b:Addr}:(Op.twoPlaces a b).Tame P fun _=>False:=by
 unfold Op.twoPlaces
 refine ae9 ad6 fun p hp=>?_
 subst hp
 have:(a.block !=b.block || decide (a.block≥p.globals.size))=true:=by simp[hG]
 rw[if_pos this]
 exact rfl
theorem tame_addrSub (hG:P.globals.size=0) {k:IntKind} {a b:Addr}:(Op.addrSub k a b).Tame P fun _=>False:=ae9 (tame_twoPlaces hG) fun _ h=>h.elim
theorem ae1 (hG:P.globals.size=0) {op:BinOp} {a b:Addr}:(Op.addrCmp op a b).Tame P fun _=>False:=ae9 (tame_twoPlaces hG) fun _ h=>h.elim
theorem tame_addrMod {k:IntKind} {a:Addr} {n:Int}:(Op.addrMod k a n).Tame P fun _=>True:=by
 refine⟨fun s=>?_,ad5⟩
 cases s with
 | none=>exact rfl
 | some x=>
  obtain⟨e,m⟩:=x
  refine ae9 (e:=Sem.pure (some (e,m))) (K:=fun x=>x=some (e,m)) rfl fun x hx=>?_
  subst hx
  exact aa1 (ab8 ak5) fun i=>ab1 (fun _=>rfl) fun _=>aa1 tame_byteOf fun _=>aa5 trivial
theorem noOk_addrMod {k:IntKind} {a:Addr} {n:Int}:NoOk P a.block (Op.addrMod k a n):=noOk_shape (f:=fun _=>_) ad5
theorem al8 {t:TypeId} {x y:Value}:(Builtin.unsafeAdd_ #[] t #[x,y]).Tame P fun _=>True:=by
 unfold Builtin.unsafeAdd_
 cases x with
 | pointer ptr=>
  refine aa1 tame_asInt fun n=>ab1 (fun _=>?_) fun _=>?_
  ·cases ptr with
   | none=>exact rfl
   | some a=>
    refine tame_viewAt (fun x=>?_) ad5
    cases x with
    | none=>exact aa5 trivial
    | some y=>exact rfl
  ·refine ab1 (fun _=>rfl) fun _=>?_
   cases ptr with
   | none=>exact rfl
   | some a=>
    refine⟨fun s=>?_,ad5⟩
    cases s with
    | none=>exact rfl
    | some x=>
     obtain⟨e,m⟩:=x
     refine ae9 (e:=Sem.pure (some (e,m))) (K:=fun x=>x=some (e,m)) rfl fun x hx=>?_
     subst hx
     refine aa1 (ab8 ad6) fun p=>?_
     split
     ·exact aa5 trivial
     ·exact rfl
 | _=>exact rfl
theorem noOk_unsafeAdd {t:TypeId} {a:Addr} {y:Value}:NoOk P a.block (Builtin.unsafeAdd_ #[] t #[.pointer (some a),y]):=by
 unfold Builtin.unsafeAdd_
 cases y with
 | int k n=>
  refine noOk_ite (fun _=>?_) fun _=>noOk_ite (fun _=>ad5) fun _=>?_
  ·exact noOk_viewAt ad5
  ·exact noOk_shape (f:=fun _=>_) ad5
 | pointer a=>cases a<;>first|exact al3|exact ad5
 | _=>exact al3
theorem tame_asNumber {a:Addr} {l:Bool}:(asNumber a l).Tame P fun _=>True:=aa1 (tame_newObj rfl) fun _=>aa5 trivial
theorem am5 {t:TypeId} {x y:Value}:(movedNumber t x y).Tame P fun _=>True:=by
 unfold movedNumber
 refine aa1 (ab8 ab0) fun d=>?_
 have key:∀(x:Value),(match x with
   | .pointer (some n)=>do
    let (a,lost)←behindNumber n
    match←Builtin.unsafeAdd_ #[] t #[.pointer (some a),y]with
    | .pointer (some b)=>asNumber b lost
    | v=>pure v
   | _=>Builtin.unsafeAdd_ #[] t #[x,y]:Sem Value).Tame P fun _=>True:=fun x=>by
  split
  ·refine ad3 (fun z=>?_) (noOk_then noOk_unsafeAdd)
   refine aa1 al8 fun v=>?_
   split
   ·exact tame_asNumber
   ·exact aa5 trivial
  ·exact al8
 refine ab1 (fun _=>rfl) fun _=>key x
theorem tame_movedPointer {t:TypeId} {x y:Value}:(movedPointer t x y).Tame P fun _=>True:=by
 unfold movedPointer
 split
 ·refine tame_numberAt (fun z=>?_) (noOk_ite (fun h=>by cases h) fun _=>noOk_unsafeAdd)
  refine ab1 (fun _=>rfl) fun _=>al8
 ·exact al8
theorem tame_binOp (hG:P.globals.size=0) {op:BinOp} (h1:op≠.eql) (h2:op≠.neq) {t:TypeId} {x y:Value}:(binOp op t x y).Tame P fun _=>True:=by
 unfold binOp
 split
 ·exact tame_shift
 ·exact tame_shift
 ·refine ab1 (fun _=>rfl) fun _=>?_
  cases op<;>first|exact tame_intArith|exact tame_intDiv|exact tame_intBits|exact tame_intCmp
 ·refine ab1 (fun _=>rfl) fun _=>?_
  cases op<;>first|exact tame_floatArith|exact am8
 ·exact ab1 (fun _=>rfl) fun _=>tame_complexOp
 ·exact tame_stringOp
 ·exact(h1 rfl).elim
 ·exact(h2 rfl).elim
 ·exact aa1 (ab8 ab0) fun d=>ab1 (fun _=>tame_movedPointer) fun _=>am5
 ·exact am5
 ·exact am5
 ·exact ad3 (fun z=>ad3 (fun z=>ab8 (tame_addrSub hG)) (ae4 (tame_addrSub hG))) (ak3 fun z=>ae4 (tame_addrSub hG))
 ·exact ad3 (fun z=>ad3 (fun z=>ab8 (ae1 hG)) (ae4 (ae1 hG))) (ak3 fun z=>ae4 (ae1 hG))
 ·exact ad3 (fun z=>ad3 (fun z=>ab8 (ae1 hG)) (ae4 (ae1 hG))) (ak3 fun z=>ae4 (ae1 hG))
 ·exact ad3 (fun z=>ad3 (fun z=>ab8 (ae1 hG)) (ae4 (ae1 hG))) (ak3 fun z=>ae4 (ae1 hG))
 ·exact ad3 (fun z=>ad3 (fun z=>ab8 (ae1 hG)) (ae4 (ae1 hG))) (ak3 fun z=>ae4 (ae1 hG))
 ·exact ad3 (fun z=>tame_addrMod) noOk_addrMod
 ·exact ad3 (fun z=>tame_addrMod) noOk_addrMod
 ·exact ad3 (fun z=>tame_addrMod) noOk_addrMod
 ·exact rfl
 ·exact rfl
 ·exact rfl
end
end Go.Fxa
