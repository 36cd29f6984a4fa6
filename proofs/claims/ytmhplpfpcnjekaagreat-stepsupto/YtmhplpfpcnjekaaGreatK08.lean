/- Goroutine 0 beside leavers, step by step, whatever is held of the trace; the group's Add ahead of the go statement. Steps that are entries without a body (marks, atomics, the semaphore), at a record that is reckoned. Steps that look at no memory but at the shape of one block, and list nothing that is kept: reckoned by a function. The group's three functions, at this program: their records. Wait, at this program: as the join asks. -/
import Derived.Test.YtmhplpfpcnjekaaGreatK07
import Derived.Test.YtmhplpfpcnjekaaGreatProg
import Derived.Conc.DeferLaws
namespace Go.Fxa
open Go.Conc
open Go.ConcN (sumTo upd sumTo_upd upd_ne upd_same)
def MuteIn (Tr:Trace→Prop):Prop:=∀t i fn pos es,i≠0→(∀e∈es,e.mute=true)→Tr t→Tr (t++MemOp.ofEvents i fn pos es)
section
variable {P:Program} {Z:Nat→Prop} {Shun Still:Loc→Prop} {Mem Loose:Nat→Prop} {Tr:Trace→Prop}
theorem picked_mute (hTr:MuteIn Tr):∀(X:Nat) (gs:Array Goroutine) (a:Goroutine) (w:World) (sl:Option (Nat×Nat)) (t:Trace) (q:Nat→Nat),sumTo gs.size q<X→gs[0]?=some a→a.status=.running→Leavers P t gs q→Tr t→
  ∃(N:Nat) (gs':Array Goroutine) (d0 d:Nat) (sl0 sl':Option (Nat×Nat)) (t':Trace) (q':Nat→Nat),runNT P N (crowd gs w sl) t=(.next (crowd gs' (w.at d0) sl0),t')∧gs'.size=gs.size∧gs'[0]?=some a∧
   stepT P (crowd gs' (w.at d0) sl0)=runT P (crowd gs' (w.at d) sl') 0∧Leavers P t' gs' q'∧Tr t':=by
 intro X
 induction X with
 | zero=>intro gs a w sl t q hX;omega
 | succ X ih=>
  intro gs a w sl t q hX h0 hrun hL hP
  have haw:∀g∈gs,awake g:=by
   intro g hg
   obtain⟨i,hi,rfl⟩:=Array.mem_iff_getElem.1 hg
   rcases Nat.eq_zero_or_pos i with rfl|hpos
   ·have:gs[0]=a:=by simpa [Array.getElem?_eq_getElem hi]using h0
    rw[this];exact awake_of (.inl hrun)
   ·exact awake_of ((hL.old i _ hpos (Array.getElem?_eq_getElem hi)).status.elim .inl fun x=>.inr (.inr x))
  obtain⟨i,g,d,sl',hi,hg,hst⟩:=crowd_pick (P:=P) (w:=w) (sl:=sl) haw ⟨0,a,h0,hrun⟩
  have hlt:i<gs.size:=(Array.getElem?_eq_some_iff.1 hi).1
  rcases Nat.eq_zero_or_pos i with rfl|hpos
  ·exact⟨0,gs,w.drawn,d,sl,sl',t,q,rfl,rfl,h0,hst,hL,hP⟩
  ·have hq:=hL.old i g hpos hi
   have hi0:(i==0)=false:=by simp;omega
   cases hqi:q i with
   | zero=>rw[hqi]at hq;rw[hq.1]at hg;cases hg
   | succ k=>
    rw[hqi]at hq
    rcases hq with⟨hf,_⟩|⟨_,g',es,hm,hstp,hq'⟩
    ·rw[hf]at hg;cases hg
    have hrunT:=runT_crowd_go (P:=P) (sl:=sl') (i:=i) hi (by rw[hi0];exact hstp (w.at d))
    have hsz:((gs.map (woken P g g' (w.at d))).setIfInBounds i g').size=gs.size:=by simp
    have hsum:sumTo gs.size (upd q i k)+(k+1)=sumTo gs.size q+k:=by
     have:=sumTo_upd q k id hlt
     simpa [hqi]using this
    obtain⟨N,gs',d0,d1,sl0,sl1,t',q',hr,hs',h0',hst',hL',hP'⟩:=ih ((gs.map (woken P g g' (w.at d))).setIfInBounds i g') a (w.at d) sl' (t++MemOp.ofEvents i g.frame.fn g.frame.place es) (upd q i k) (by rw[hsz];omega)
     (by
      have hne:i≠0:=by omega
      rw[Array.getElem?_setIfInBounds_ne hne,Array.getElem?_map,h0]
      simp[woken_run hrun]) hrun
     ⟨fun x y hx hy=>by
      by_cases hji:i=x
      ·subst hji
       rw[Array.getElem?_setIfInBounds_self_of_lt (by simpa using hlt)]at hy
       obtain rfl:=Option.some.inj hy
       rw[upd_same,Deaf_own]
       exact hq'
      ·rw[Array.getElem?_setIfInBounds_ne hji,Array.getElem?_map]at hy
       obtain⟨z,hz,rfl⟩:=Option.map_eq_some_iff.1 hy
       have hqj:=hL.old x z hx hz
       rw[woken_quitsD hqj,upd_ne q k (Ne.symm hji),Deaf_other t hji _ aa6]
       exact hqj,fun x hx=>by
      rw[Deaf_other t (g':=i) (by simp at hx;omega) _ aa6]
      exact hL.above x (by simpa using hx)⟩
     (hTr t i _ _ es (by omega) hm hP)
    exact⟨N+1,gs',d0,d1,sl0,sl1,t',q',by simp only[runNT,hst,hrunT];exact hr,hs'.trans hsz,h0',hst',hL',hP'⟩
theorem go_mute (hTr:MuteIn Tr) {gs:Array Goroutine} {a:Goroutine} {w:World} {sl:Option (Nat×Nat)} {t:Trace} {q:Nat→Nat} {Q:Array Goroutine→World→Trace→Prop} (h0:gs[0]?=some a) (hrun:a.status=.running) (hL:Leavers P t gs q) (ht:Tr t)
  (hstep:∀d t1,Tr t1→∃a' w' es,stepG P true a (w.at d)=.go a' w' es∧∀gs' q',gs'.size=gs.size→gs'[0]?=some a'→Leavers P (t1++MemOp.ofEvents 0 a.frame.fn a.frame.place es) gs' q'→
   ∀sl',ComesTo P gs' w' sl' (t1++MemOp.ofEvents 0 a.frame.fn a.frame.place es) Q):ComesTo P gs w sl t Q:=by
 obtain⟨N,gs1,d0,d,sl0,sl1,t1,q1,hr,hs1,h1,hst,hL1,ht1⟩:=picked_mute (P:=P) hTr (sumTo gs.size q+1) gs a w sl t q (by omega) h0 hrun hL ht
 obtain⟨a',w',es,hgo,hk⟩:=hstep d t1 ht1
 have hlt:0<gs1.size:=(Array.getElem?_eq_some_iff.1 h1).1
 have hrunT:=runT_crowd_go (P:=P) (sl:=sl1) (i:=0) h1 hgo
 have hsz1:((gs1.map (woken P a a' w')).setIfInBounds 0 a').size=gs.size:=by simp[hs1]
 obtain⟨N2,gs2,w2,sl2,t2,hr2,hs2,hQ⟩:=hk ((gs1.map (woken P a a' w')).setIfInBounds 0 a') q1 hsz1 (by simp[hlt]) ⟨fun i x hi hx=>by
   rw[Array.getElem?_setIfInBounds_ne (by omega),Array.getElem?_map]at hx
   obtain⟨y,hy,rfl⟩:=Option.map_eq_some_iff.1 hx
   have hq:=hL1.old i y hi hy
   rw[woken_quitsD hq,Deaf_other t1 (g':=0) (by omega) _ aa6]
   exact hq,fun i hi=>by
   rw[hsz1,←hs1]at hi
   rw[Deaf_other t1 (g':=0) (by omega) _ aa6]
   exact hL1.above i hi⟩ sl1
 refine⟨N+1+N2,gs2,w2,sl2,t2,?_,hs2.trans hsz1,hQ⟩
 rw[runNT_add,runNT_succ_of hr (hst.trans hrunT)]
 exact hr2
theorem sil_mute (hTr:MuteIn Tr) {J:World→Prop} {a':Goroutine}:∀(k:Nat) {a:Goroutine} (_:Sil P J true k a a') {gs:Array Goroutine} {w:World} {sl:Option (Nat×Nat)} {t:Trace} {q:Nat→Nat},(∀d,J (w.at d))→gs[0]?=some a→Leavers P t gs q→Tr t→
  ComesTo P gs w sl t fun gs' w' t'=>∃q' d,gs'[0]?=some a'∧w'=w.at d∧Leavers P t' gs' q'∧Tr t'
 | 0,a,hs,gs,w,sl,t,q,_,h0,hL,ht=>.now ⟨q,w.drawn,by rw[h0,show a=a' from hs],rfl,hL,ht⟩
 | k+1,a,hs,gs,w,sl,t,q,hJ,h0,hL,ht=>by
  obtain⟨hrun,a1,hst,hs'⟩:=hs
  refine go_mute hTr h0 hrun hL ht fun d t1 ht1=>⟨a1,w.at d,#[],hst _ (hJ d),fun gs' q' hz h1 hL1 sl'=>?_⟩
  rw[ae3]at hL1 ⊢
  exact(sil_mute hTr k hs' (w:=w.at d) (fun d'=>hJ d') h1 hL1 ht1).mono fun gs'' w'' t'' ⟨q'',d',j1,j2,j3,j4⟩=>⟨q'',d',j1,j2,j3,j4⟩
theorem px_mutes (B:Nat):MuteIn (fun t=>PX Shun Still (fun g=>g=0∧Mem g) (fun _=>False) B 0 t):=by
 intro t i fn pos es hi hes H
 refine H.appMute aa6 (fun op hop=>?_) (fun hm=>(hi hm.1).elim) (fun op hop=>?_)
 ·obtain⟨e,he,rfl⟩:=Go.Conc.mem_ofEvents hop;exact touch_mute (hes e he)
 ·obtain⟨e,he,rfl⟩:=Go.Conc.mem_ofEvents hop;exact low_mute (hes e he) B
structure Adds where
 mD:Goroutine
 mD':Goroutine
 mA:Goroutine
 mA':Goroutine
 mR:Goroutine
 mR':Goroutine
 mE:Goroutine
 mE':Goroutine
 k0:Nat
 k1:Nat
 k2:Nat
 k3:Nat
 k4:Nat
def rdMark (a:Addr):Event:=⟨.mark (.read a),false,true⟩
structure AddOk (P:Program) (r:Nat) (pre:Array Value) (ty:TypeId) (g0 gEnd:Goroutine) (x:Adds):Prop where
 runs:x.mD.status=.running∧x.mA.status=.running∧x.mR.status=.running∧x.mE.status=.running
 s0:Sil P (IsRun r pre ty) true x.k0 g0 x.mD
 dis:∀w,stepG P true x.mD w=.go x.mD' w #[ao8]
 s1:Sil P (IsRun r pre ty) true x.k1 x.mD' x.mA
 add:∀w,w.cell? (stA r pre)=some (.int .u64 0)→w.frozen? (stA r pre)=false→stepG P true x.mA w=.go x.mA' (w.setCell (stA r pre) (.int .u64 KK)) (rwEv (stA r pre))
 s2:Sil P (IsRun r pre ty) true x.k2 x.mA' x.mR
 rd:∀w,stepG P true x.mR w=.go x.mR' w #[rdMark (smA r pre)]
 s3:Sil P (IsRun r pre ty) true x.k3 x.mR' x.mE
 ena:∀w,stepG P true x.mE w=.go x.mE' w #[enaMark]
 s4:Sil P (IsRun r pre ty) true x.k4 x.mE' gEnd
theorem add_beside {r:Nat} {pre:Array Value} {ty:TypeId} {g0 gEnd:Goroutine} {x:Adds} (H:AddOk P r pre ty g0 gEnd x) (hZ:Z r) {B:Nat} {gs:Array Goroutine} {w:World} {sl:Option (Nat×Nat)} {t:Trace} {q:Nat→Nat}
  (h0:gs[0]?=some g0) (hL:Leavers P t gs q) (hP:Past Shun B t) (hB:w.heap.size≤B) (hr:RunAt r pre ty w 0 0):
  ComesTo P gs w sl t fun gs' w' t'=>∃q',gs'[0]?=some gEnd∧OffZ Z w w'∧RunAt r pre ty w' KK 0∧Leavers P t' gs' q'∧Past Shun B t'∧w'.heap.size≤B:=by
 have hrB:r<B:=by have:=hr.lt;omega
 have M1:MuteIn (fun t=>PX Shun (fun _=>False) (fun g=>g=0∧True) (fun _=>False) B 0 t):=px_mutes (Mem:=fun _=>True) B
 have M0:MuteIn (fun t=>PX Shun (fun _=>False) (fun g=>g=0∧False) (fun _=>False) B 0 t∧Deaf t 0=1):=fun t i fn pos es hi hes h=>⟨px_mutes (Mem:=fun _=>False) B t i fn pos es hi hes h.1,by rw[Deaf_other t hi _ aa6];exact h.2⟩
 have P0:PX Shun (fun _=>False) (fun g=>g=0∧True) (fun _=>False) B 0 t:=(PX.ofPast hP (fun _ h=>h.elim) (fun _ h=>h.elim)).fewer fun g hg=>hg.1
 refine(sil_mute M1 x.k0 H.s0 (fun d=>hr.is d) h0 hL P0).bind fun gs1 w1 sl1 t1 _ ⟨q1,d1,h1,e1,L1,X1⟩=>?_
 subst e1
 refine go_mute M1 h1 H.runs.1 L1 X1 fun d2 t2 X2=>⟨_,_,_,H.dis _,fun gs3 q3 _ h3 L3 sl3=>?_⟩
 have X3:PX Shun (fun _=>False) (fun g=>g=0∧False) (fun _=>False) B 0 (t2++MemOp.ofEvents 0 x.mD.frame.fn x.mD.frame.place #[ao8])∧Deaf (t2++MemOp.ofEvents 0 x.mD.frame.fn x.mD.frame.place #[ao8]) 0=1:=by
  refine⟨(X2.fewer (Mem':=fun g=>g=0∧False) fun g hg=>hg.2.elim).appMute aa6 (fun op hop=>?_) (fun hm=>hm.2.elim) (fun op hop=>?_),?_⟩
  ·obtain⟨e,he,rfl⟩:=Go.Conc.mem_ofEvents hop;simp at he;subst he;rfl
  ·obtain⟨e,he,rfl⟩:=Go.Conc.mem_ofEvents hop;simp at he;subst he;trivial
  ·rw[Deaf_own,X2.hears 0 ⟨rfl,trivial⟩];rfl
 refine(sil_mute M0 x.k1 H.s1 (w:=(w.at d1).at d2) (fun d=>hr.is d) h3 L3 X3).bind fun gs4 w4 sl4 t4 _ ⟨q4,d4,h4,e4,L4,X4⟩=>?_
 subst e4
 have rAt:∀d,RunAt r pre ty ((((w.at d1).at d2).at d4).at d) 0 0:=fun d=>hr
 refine go_mute M0 h4 H.runs.2.1 L4 X4 fun d5 t5 X5=>⟨_,_,_,H.add _ (rAt d5).cellSt (rAt d5).thawSt,fun gs6 q6 _ h6 L6 sl6=>?_⟩
 have atom:∀(a:Addr),a.block=r→∀wr:Bool,EvH Shun (fun _=>False) B ⟨.cell a,wr,true⟩:=fun a ha wr=>⟨fun x hx=>by obtain rfl:=Option.some.inj hx;exact⟨fun h=>h.elim,fun _=>by simp⟩,by simp,by simp,by show a.block<B;omega,by simp⟩
 have own:∀{t:Trace} {fn:FuncId} {pos:String} {es:Array Event},(∀e∈es,EvH Shun (fun _=>False) B e)→(PX Shun (fun _=>False) (fun g=>g=0∧False) (fun _=>False) B 0 t∧Deaf t 0=1)→(PX Shun (fun _=>False) (fun g=>g=0∧False) (fun _=>False) B 0 (t++MemOp.ofEvents 0 fn pos es)∧Deaf (t++MemOp.ofEvents 0 fn pos es) 0=1):=fun {t fn pos es} hes h=>by
  refine⟨h.1.own hes,?_⟩
  rw[Deaf_own,deafBehind_still (fun e he=>⟨(hes e he).2.1,(hes e he).2.2.1⟩)]
  exact h.2
 have X6:=own (fn:=x.mA.frame.fn) (pos:=x.mA.frame.place) (es:=rwEv (stA r pre)) (fun e he=>by
  simp only[rwEv,List.mem_toArray,List.mem_cons,List.not_mem_nil,or_false]at he
  rcases he with rfl|rfl
  ·exact atom _ rfl false
  ·exact atom _ rfl true) X5
 refine(sil_mute M0 x.k2 H.s2 (fun d=>((rAt d5).setSt KK).is d) h6 L6 X6).bind fun gs7 w7 sl7 t7 _ ⟨q7,d7,h7,e7,L7,X7⟩=>?_
 refine go_mute M0 h7 H.runs.2.2.1 L7 X7 fun d8 t8 X8=>⟨_,_,_,H.rd _,fun gs9 q9 _ h9 L9 sl9=>?_⟩
 have X9:=own (fn:=x.mR.frame.fn) (pos:=x.mR.frame.place) (es:=#[rdMark (smA r pre)]) (fun e he=>by
  simp at he;subst he
  exact⟨fun x hx=>by obtain rfl:=Option.some.inj hx;exact⟨fun h=>h.elim,fun _=>by simp⟩,by simp[rdMark],by simp[rdMark],hrB,by simp[rdMark]⟩) X8
 refine(sil_mute M0 x.k3 H.s3 (fun d=>by subst e7;exact((rAt d5).setSt KK).is d) h9 L9 X9).bind fun gsa wa sla ta _ ⟨qa,da,ha,ea,La,Xa⟩=>?_
 refine go_mute M0 ha H.runs.2.2.2 La Xa fun db tb Xb=>⟨_,_,_,H.ena _,fun gsc qc _ hc Lc slc=>?_⟩
 have Xc:PX Shun (fun _=>False) (fun g=>g=0∧False) (fun _=>False) B 0 (tb++MemOp.ofEvents 0 x.mE.frame.fn x.mE.frame.place #[enaMark]):=Xb.1.appMute aa6 (fun op hop=>by
  obtain⟨e,he,rfl⟩:=Go.Conc.mem_ofEvents hop;simp at he;subst he;rfl) (fun hm=>hm.2.elim) (fun op hop=>by
  obtain⟨e,he,rfl⟩:=Go.Conc.mem_ofEvents hop;simp at he;subst he;trivial)
 have Pc:Past Shun B (tb++MemOp.ofEvents 0 x.mE.frame.fn x.mE.frame.place #[enaMark]):=Xc.toPast (by rw[Deaf_own,Xb.2];rfl) (fun _ h=>h)
 have Xc':PX Shun (fun _=>False) (fun g=>g=0∧True) (fun _=>False) B 0 (tb++MemOp.ofEvents 0 x.mE.frame.fn x.mE.frame.place #[enaMark]):=(PX.ofPast Pc (fun _ h=>h.elim) (fun _ h=>h.elim)).fewer fun g hg=>hg.1
 refine(sil_mute M1 x.k4 H.s4 (fun d=>by subst ea e7;exact((rAt d5).setSt KK).is d) hc Lc Xc').mono fun gs' w' t' ⟨q',d',j1,j2,j3,j4⟩=>?_
 subst j2 ea e7
 have off:OffZ Z w ((((((((w.at d1).at d2).at d4).at d5).setCell (stA r pre) (.int .u64 KK)).at d7).at d8).at da):=by
  refine⟨by simp[World.setCell,World.at],fun k hk=>?_,rfl,rfl,rfl⟩
  have:r≠k:=fun e=>hk (e ▸ hZ)
  simp[World.setCell,World.at,stA,Array.getElem?_modify,this]
 refine⟨q',j1,⟨off.size,off.same,off.os,off.output,off.tape⟩,(rAt d5).setSt KK,j3,j4.toPast (j4.hears 0 ⟨rfl,trivial⟩) (fun _ h=>h),?_⟩
 have:=off.size
 exact Nat.le_trans (Nat.le_of_eq (show _=w.heap.size from this)) hB
end
end Go.Fxa
namespace Go.Fxa
open Go.Conc
def ab9 (x:Frame×List Frame):Option (FuncId×Array Value):=
 match x.1.roundOf,x.1.mode,x.1.kind==CallKind.early,x.1.todo with
 | none,.run,false,.inRegion ops (i::_)::_=>match ops[i]? with
  | some o=>if Region.wanted o (yielded ops x.1.tmps)then match o.op with
   | .call { callee:=.value (.func f),args:=as1,argTypes:=_ }=>some (f,as1.map x.1.eval)
   | _=>none
   else none
  | none=>none
 | _,_,_,_=>none
def Entry (P:Program) (f:FuncId) (e:Array Value→Sem Value):Prop:=∃fn,P.funcs[f]?=some fn∧(fn.name== "runtime.NumGoroutine")=false∧fn.body.isNone=true∧Extern.findNext fn=none∧Extern.find fn=some e
def did (x:Frame×List Frame) (v:Value):Frame×List Frame:=(x.1.finish v,x.2)
section
variable {P:Program} {main:Bool} {x:Frame×List Frame} {f:FuncId} {args:Array Value} {e:Array Value→Sem Value} {w w':World} {v:Value} {evs:Array Event}
theorem ah9 (h:ab9 x=some (f,args)) (hE:Entry P f e) (hrun:(e args).run P w=.ok v w') (hev:(e args).events P w #[⟨.mark (.extern f),false,true⟩]=#[⟨.mark (.extern f),false,true⟩]++evs) (hs:∀x∈evs,x.sync=true∧∀g,x.loc≠.mark (.extern g)):
  stepG P main (G x.1 x.2) w=.go (G (did x v).1 (did x v).2) w' evs:=by
 obtain⟨⟨fn,tmps,todo,ds,mode,kind,ro⟩,cs⟩:=x
 obtain⟨fn',hf,hname,hb,hn,he⟩:=hE
 unfold ab9 at h
 simp only at h
 split at h
 ·rename_i ops r1 r2 r3 r4
  split at h
  ·rename_i o ho
   split at h
   ·rename_i hw
    split at h
    ·rename_i f' as1 ats hop
     simp only[Option.some.injEq,Prod.mk.injEq]at h
     obtain⟨rfl,rfl⟩:=h
     have hk:kind≠.early:=fun e=>by subst e;simp at r4
     have hm:=Frame.eval_at' (Frame.mk fn tmps [] ds .run kind none) ⟨tmps,ds⟩ (.inRegion ops (r1::r2)::r3)
     have hm':(Frame.mk fn tmps (.inRegion ops (r1::r2)::r3) ds .run kind none).eval=(Act.mk tmps ds).eval:=hm
     rw[hm']at hrun hev
     exact(stepG_entry (b:=Frame.mk fn tmps [] ds .run kind none) (a:=⟨tmps,ds⟩) (kk:=r3) ho hw hk hop hf hname hb hn he hrun hev hs).trans (by unfold did Act.put Frame.at Frame.finish;simp only[ho,Option.bind_some];cases o.dst<;>rfl)
    ·cases h
   ·cases h
  ·cases h
 ·cases h
theorem entry_wait (h:ab9 x=some (f,args)) (hE:Entry P f e) (hrun:(e args).run P w=.halt .blocked w'):stepG P main (G x.1 x.2) w=.go { G x.1 x.2 with status:=.blocked } w' #[]:=by
 obtain⟨⟨fn,tmps,todo,ds,mode,kind,ro⟩,cs⟩:=x
 obtain⟨fn',hf,hname,hb,hn,he⟩:=hE
 unfold ab9 at h
 simp only at h
 split at h
 ·rename_i ops r1 r2 r3 r4
  split at h
  ·rename_i o ho
   split at h
   ·rename_i hw
    split at h
    ·rename_i f' as1 ats hop
     simp only[Option.some.injEq,Prod.mk.injEq]at h
     obtain⟨rfl,rfl⟩:=h
     have hm':(Frame.mk fn tmps (.inRegion ops (r1::r2)::r3) ds .run kind none).eval=(Act.mk tmps ds).eval:=Frame.eval_at' (Frame.mk fn tmps [] ds .run kind none) ⟨tmps,ds⟩ (.inRegion ops (r1::r2)::r3)
     rw[hm']at hrun
     exact stepG_entry_blocked (b:=Frame.mk fn tmps [] ds .run kind none) (a:=⟨tmps,ds⟩) (kk:=r3) ho hw hop hf hname hb hn he hrun
    ·cases h
   ·cases h
  ·cases h
 ·cases h
/-! ### each by itself -/
theorem mark0_at (m:Mark) (hm:∀g,m≠.extern g) (h:ab9 x=some (f,args)) (hE:Entry P f (fun _=>do mark m;pure Extern.Race.none_)):
  stepG P main (G x.1 x.2) w=.go (G (did x (.tuple #[])).1 (did x (.tuple #[])).2) w #[⟨.mark m,false,true⟩]:=
 ah9 h hE (by simp[Extern.Race.none_]) (by simp) (by
  intro y hy
  simp at hy
  subst hy
  exact⟨rfl,fun g h=>hm g (by cases h;rfl)⟩)
theorem markAt_at (mk:Addr→Mark) (hm:∀ad g,mk ad≠.extern g) {ad:Addr} (h:ab9 x=some (f,#[.pointer (some ad)])) (hE:Entry P f (Extern.Race.marked mk)):
  stepG P main (G x.1 x.2) w=.go (G (did x (.tuple #[])).1 (did x (.tuple #[])).2) w #[⟨.mark (mk ad),false,true⟩]:=
 ah9 h hE (by simp[Extern.Race.marked,Extern.Race.at_,Extern.Race.none_]) (by simp[Extern.Race.marked,Extern.Race.at_]) (by
  intro x hx'
  simp at hx'
  subst hx'
  exact⟨rfl,fun g h=>hm ad g (Loc.mark.inj h)⟩)
theorem add_at {k:IntKind} {ad:Addr} {n d:Int} (h:ab9 x=some (f,#[.pointer (some ad),.int k d])) (hE:Entry P f (Extern.Atomic.update (Op.intArith .add) k true)) (hc:w.cell? ad=some (.int k n)) (hz:w.frozen? ad=false):
  stepG P main (G x.1 x.2) w=.go (G (did x (.int k (k.wrap (n+d)))).1 (did x (.int k (k.wrap (n+d)))).2) (w.setCell ad (.int k (k.wrap (n+d)))) (rwEv ad):=
 ah9 h hE (run_add_entry hc hz) (by rw[events_add_entry hc hz];rfl) (sync_rw ad)
theorem cas_hit_at {k:IntKind} {ad:Addr} {n n':Int} (h:ab9 x=some (f,#[.pointer (some ad),.int k n,.int k n'])) (hE:Entry P f (Extern.Atomic.casT (.int k))) (hc:w.cell? ad=some (.int k n)) (hz:w.frozen? ad=false):
  stepG P main (G x.1 x.2) w=.go (G (did x (.bool true)).1 (did x (.bool true)).2) (w.setCell ad (.int k n')) (rwEv ad):=
 ah9 h hE (by rw[casT_eq];exact run_cas_hit_entry hc hz) (by rw[casT_eq,events_cas_hit_entry hc hz];rfl) (sync_rw ad)
theorem cas_miss_at {k:IntKind} {ad:Addr} {m n n':Int} (h:ab9 x=some (f,#[.pointer (some ad),.int k n,.int k n'])) (hE:Entry P f (Extern.Atomic.casT (.int k))) (hc:w.cell? ad=some (.int k m)) (hz:w.frozen? ad=false) (hne:¬m=n):
  stepG P main (G x.1 x.2) w=.go (G (did x (.bool false)).1 (did x (.bool false)).2) w #[⟨.cell ad,false,true⟩]:=
 ah9 h hE (by rw[casT_eq];exact run_cas_miss_entry hc hz hne) (by rw[casT_eq,events_cas_miss_entry hc hz hne];rfl) (sync_r ad)
theorem load_at {k:IntKind} {ad:Addr} {n:Int} (h:ab9 x=some (f,#[.pointer (some ad)])) (hE:Entry P f (Extern.Atomic.loadT (.int k))) (hc:w.cell? ad=some (.int k n)):
  stepG P main (G x.1 x.2) w=.go (G (did x (.int k n)).1 (did x (.int k n)).2) w #[⟨.cell ad,false,true⟩]:=
 ah9 h hE (by
  change (Sem.run P (do Extern.Atomic.read (.int k) (←asAddr (.pointer (some ad)))) w)=_
  simp[Extern.Atomic.read,asAddr,hc]) (by
  change Sem.events P (do Extern.Atomic.read (.int k) (←asAddr (.pointer (some ad)))) w _=_
  simp[Extern.Atomic.read,asAddr,hc,events_load]) (sync_r ad)
theorem store_at {k:IntKind} {ad:Addr} {n:Int} {u:Value} (h:ab9 x=some (f,#[.pointer (some ad),.int k n])) (hE:Entry P f Extern.Atomic.storeT) (hc:w.cell? ad=some u) (hz:w.frozen? ad=false):
  stepG P main (G x.1 x.2) w=.go (G (did x (.tuple #[])).1 (did x (.tuple #[])).2) (w.setCell ad (.int k n)) #[⟨.cell ad,true,true⟩]:=
 ah9 h hE (by
  change (Sem.run P (do
   store (←asAddr (.pointer (some ad))) (.int k n) .atomic
   pure Extern.Atomic.none_) w)=_
  simp[asAddr,hc,hz,run_store P w ad (.int k n) .atomic rfl,Result.andThen,Extern.Atomic.none_]) (by
  change Sem.events P (do
   store (←asAddr (.pointer (some ad))) (.int k n) .atomic
   pure Extern.Atomic.none_) w _=_
  simp[asAddr,hc,hz,events_store P w _ ad (.int k n) .atomic rfl]) (fun x hx=>by
  simp at hx;subst hx;exact⟨rfl,fun g h=>by cases h⟩)
theorem acquire_at {ad:Addr} {n:Int} (h:ab9 x=some (f,args)) (hx:args[0]?=some (.pointer (some ad))) (hE:Entry P f Extern.Sync.semacquire) (hc:w.cell? ad=some (.int .u32 n)) (hn0:n≠0) (hz:w.frozen? ad=false):
  stepG P main (G x.1 x.2) w=.go (G (did x (.tuple #[])).1 (did x (.tuple #[])).2) (w.setCell ad (.int .u32 (n-1))) (semEvents ad):=
 ah9 h hE (by simp[Extern.Sync.semacquire,Extern.Sync.count,hx,hc,hn0,hz,Extern.Sync.none_,run_store P w ad (.int .u32 (n-1)) .atomic rfl,Result.andThen])
  (by simp[Extern.Sync.semacquire,Extern.Sync.count,hx,hc,hn0,hz,semEvents,events_load,events_store P w _ ad (.int .u32 (n-1)) .atomic rfl,run_store P w ad (.int .u32 (n-1)) .atomic rfl,Result.evThen]) (semEvents_sync ad)
theorem acquire_wait_at {ad:Addr} (h:ab9 x=some (f,args)) (hx:args[0]?=some (.pointer (some ad))) (hE:Entry P f Extern.Sync.semacquire) (hc:w.cell? ad=some (.int .u32 0)):
  stepG P main (G x.1 x.2) w=.go { G x.1 x.2 with status:=.blocked } w #[]:=
 entry_wait h hE (by simp[Extern.Sync.semacquire,Extern.Sync.count,hx,hc])
theorem release_at {ad:Addr} {n:Int} (h:ab9 x=some (f,args)) (hx:args[0]?=some (.pointer (some ad))) (hE:Entry P f Extern.Sync.semrelease) (hc:w.cell? ad=some (.int .u32 n)) (hz:w.frozen? ad=false):
  stepG P main (G x.1 x.2) w=.go (G (did x (.tuple #[])).1 (did x (.tuple #[])).2) (w.setCell ad (.int .u32 (IntKind.u32.wrap (n+1)))) (semEvents ad):=
 ah9 h hE (by simp[Extern.Sync.semrelease,Extern.Sync.count,hx,hc,hz,Extern.Sync.none_,Op.intArith,run_store P w ad (.int .u32 (IntKind.u32.wrap (n+1))) .atomic rfl,Result.andThen])
  (by simp[Extern.Sync.semrelease,Extern.Sync.count,hx,hc,hz,semEvents,Op.intArith,events_load,events_store P w _ ad (.int .u32 (IntKind.u32.wrap (n+1))) .atomic rfl,run_store P w ad (.int .u32 (IntKind.u32.wrap (n+1))) .atomic rfl,Result.evThen]) (semEvents_sync ad)
/-! ### operations that only read -/
end
end Go.Fxa
namespace Go
open Go.Fxa
open Go.Conc
section
variable {P:Program} {main:Bool} {x:Frame×List Frame} {f:FuncId} {args:Array Value} {e:Array Value→Sem Value} {w w':World} {v:Value} {evs:Array Event}
def Sem.feed (P:Program) {α:Type}:Sem α→List Value→Option (List Addr×α)
 | .pure a,_=>some ([],a)
 | .program k,vs=>(k P).feed P vs
 | .load m a k,v::vs=>match m,(k v).feed P vs with
  | .plain,some (as1,x)=>some (a::as1,x)
  | _,_=>none
 | _,_=>none
end
end Go
namespace Go.Fxa
open Go.Conc
section
variable {P:Program} {main:Bool} {x:Frame×List Frame} {f:FuncId} {args:Array Value} {e:Array Value→Sem Value} {w w':World} {v:Value} {evs:Array Event}
def Cells (w:World):List Addr→List Value→Prop
 | [],_=>True
 | a::as1,v::vs=>w.cell? a=some v∧Cells w as1 vs
 | _::_,[]=>False
def al2 (as1:List Addr):Array Event:=(as1.map fun a=>⟨.cell a,false,false⟩).toArray
theorem feed_runT {α:Type} {e:Sem α} {a:α}:∀{vs:List Value} {as1:List Addr} (_:e.feed P vs=some (as1,a)) (_:Cells w as1 vs) (es:Array Event),e.runT P w es=(.ok a w,es++al2 as1):=by
 induction e with
 | pure b=>
  intro vs as1 h _ es
  simp only[Sem.feed,Option.some.injEq,Prod.mk.injEq]at h
  obtain⟨rfl,rfl⟩:=h
  simp[Sem.runT,al2]
 | program k ih=>intro vs as1 h hc es;exact ih P h hc es
 | load m ad k ih=>
  intro vs as1 h hc es
  cases vs with
  | nil=>simp[Sem.feed]at h
  | cons v vs=>
   simp only[Sem.feed]at h
   split at h
   ·rename_i as' y hf
    simp only[Option.some.injEq,Prod.mk.injEq]at h
    obtain⟨rfl,rfl⟩:=h
    obtain⟨h1,h2⟩:=hc
    simp only[Sem.runT,h1]
    rw[ih v hf h2]
    simp only[Prod.mk.injEq,true_and]
    apply Array.ext'
    simp[al2]
   ·cases h
 | _=>intro vs as1 h;cases vs<;>simp[Sem.feed]at h
def opAt (x:Frame×List Frame):Option Oper:=
 match x.1.roundOf,x.1.mode,x.1.kind==CallKind.early,x.1.todo with
 | none,.run,false,.inRegion ops (i::_)::_=>match ops[i]? with
  | some o=>if Region.wanted o (yielded ops x.1.tmps)then some o else none
  | none=>none
 | _,_,_,_=>none
theorem op_apply {o:Oper} (h:opAt x=some o):stepG P main (G x.1 x.2) w=stepG.apply P true x.1 x.2 none (execOp x.1.eval o) w∧(x.1.kind==CallKind.early)=false:=by
 obtain⟨⟨fn,tmps,todo,ds,mode,kind,ro⟩,cs⟩:=x
 unfold opAt at h
 simp only at h
 split at h
 ·rename_i ops r1 r2 r3 r4
  split at h
  ·rename_i o' ho
   split at h
   ·rename_i hw
    obtain rfl:=Option.some.inj h
    refine⟨?_,r4⟩
    simp[G,stepG,stepG.exec,stepG.oper,Frame.oper?,ho,hw]
   ·cases h
  ·cases h
 ·cases h
theorem reads_seen {fn:FuncId} (hq:(P.funcs[fn]?).any (·.norace)=false) (as1:List Addr):seen P fn (#[]++al2 as1)=al2 as1:=by
 rw[Array.empty_append]
 exact seen_eq hq (fun e he f=>by
  simp only[al2,List.mem_toArray,List.mem_map]at he
  obtain⟨a,_,rfl⟩:=he
  simp)
theorem read_at {o:Oper} {vs:List Value} {as1:List Addr} (h:opAt x=some o) (hf:(execOp x.1.eval o).feed P vs=some (as1,.value v)) (hc:Cells w as1 vs) (hq:(P.funcs[x.1.fn]?).any (·.norace)=false):
  stepG P main (G x.1 x.2) w=.go (G (did x v).1 (did x v).2) w (al2 as1):=by
 obtain⟨h1,h2⟩:=op_apply (P:=P) (main:=main) (w:=w) h
 rw[h1]
 simp only[stepG.apply,feed_runT hf hc #[],if_true,GStep.after,Array.append_empty,h2,Bool.false_eq_true,if_false,reads_seen hq]
 rfl
theorem comm_at {o:Oper} {cs:Array CommCase} {bl:Bool} {sh:CommShape} (h:opAt x=some o) (hf:(execOp x.1.eval o).pureRun P=some (.comm cs bl sh)):
  stepG P main (G x.1 x.2) w=.comm (G x.1 x.2) cs bl sh w #[]:=by
 obtain⟨h1,h2⟩:=op_apply (P:=P) (main:=main) (w:=w) h
 rw[h1]
 simp only[stepG.apply,am4 hf w #[],if_true,GStep.after,Array.append_empty,h2,Bool.false_eq_true,if_false,seen_none]
 rfl
end
end Go.Fxa
namespace Go
open Go.Fxa
open Go.Conc
def Sem.hushRun (P:Program) (s:Option (TypeId×Nat)) {α:Type}:Sem α→Option (List Nat×α)
 | .pure a=>some ([],a)
 | .program k=>(k P).hushRun P s
 | .shape b k=>match (k s).hushRun P s with
  | some (l,a)=>some (b::l,a)
  | none=>none
 | _=>none
end Go
namespace Go.Fxa
open Go.Conc
section
variable {P:Program} {s:Option (TypeId×Nat)} {w:World} {main:Bool}
theorem hush_runT {α:Type} {e:Sem α} {a:α}:∀{l:List Nat} (_:e.hushRun P s=some (l,a)) (_:∀b∈l,w.shape? b=s) (es:Array Event),e.runT P w es=(.ok a w,es):=by
 induction e with
 | pure b=>
  intro l h _ es
  simp only[Sem.hushRun,Option.some.injEq,Prod.mk.injEq]at h
  obtain⟨rfl,rfl⟩:=h
  rfl
 | program k ih=>intro l h hl es;exact ih P h hl es
 | shape b k ih=>
  intro l h hl es
  simp only[Sem.hushRun]at h
  split at h
  ·rename_i l' a' hk
   simp only[Option.some.injEq,Prod.mk.injEq]at h
   obtain⟨rfl,rfl⟩:=h
   have hb:=hl b (List.mem_cons_self ..)
   simp only[Sem.runT,hb]
   exact ih s hk (fun x hx=>hl x (List.mem_cons_of_mem _ hx)) es
  ·cases h
 | _=>intro l h;simp[Sem.hushRun]at h
def bare (P:Program) (x:Frame×List Frame):Bool:=
 match ab9 x with
 | some (f,_)=>match P.funcs[f]? with
  | some fn=>fn.body.isNone
  | none=>false
 | none=>false
def hushStep (P:Program) (s:Option (TypeId×Nat)) (x:Frame×List Frame):Option (List Nat×(Frame×List Frame)):=
 if bare P x then none else
 match quietStep P x with
 | some y=>some ([],y)
 | none=>match opAt x with
  | some o=>match (execOp x.1.eval o).hushRun P s with
   | some (l,.value v)=>some (l,did x v)
   | _=>none
  | none=>none
def ah7 (P:Program) (s:Option (TypeId×Nat)):Nat→Frame×List Frame→Option (List Nat×(Frame×List Frame))
 | 0,x=>some ([],x)
 | n+1,x=>match hushStep P s x with
  | some (l,y)=>match ah7 P s n y with
   | some (l',z)=>some (l++l',z)
   | none=>none
  | none=>none
theorem hush_step {x y:Frame×List Frame} {l:List Nat} (h:hushStep P s x=some (l,y)) (hl:∀b∈l,w.shape? b=s):stepG P main (G x.1 x.2) w=.go (G y.1 y.2) w #[]:=by
 unfold hushStep at h
 split at h
 ·cases h
 split at h
 ·rename_i y' hq
  simp only[Option.some.injEq,Prod.mk.injEq]at h
  obtain⟨_,rfl⟩:=h
  exact quiet_step hq w
 ·split at h
  ·rename_i o ho
   split at h
   ·rename_i l' v hr
    simp only[Option.some.injEq,Prod.mk.injEq]at h
    obtain⟨rfl,rfl⟩:=h
    obtain⟨e1,e2⟩:=op_apply (P:=P) (main:=main) (w:=w) ho
    rw[e1]
    simp only[stepG.apply,hush_runT hr hl #[],if_true,GStep.after,Array.append_empty,e2,Bool.false_eq_true,if_false,seen_none]
    rfl
   ·cases h
  ·cases h
theorem aj4 {J:World→Prop} {r:Nat} (hJ:∀w,J w→w.shape? r=s):∀{n:Nat} {x z:Frame×List Frame} {l:List Nat},ah7 P s n x=some (l,z)→(∀b∈l,b=r)→Sil P J main n (G x.1 x.2) (G z.1 z.2)
 | 0,x,z,l,h,_=>by
  simp only[ah7,Option.some.injEq,Prod.mk.injEq]at h
  obtain⟨_,rfl⟩:=h
  exact rfl
 | n+1,x,z,l,h,hl=>by
  simp only[ah7]at h
  split at h
  ·rename_i l1 y hy
   split at h
   ·rename_i l2 z' hz
    simp only[Option.some.injEq,Prod.mk.injEq]at h
    obtain⟨rfl,rfl⟩:=h
    exact⟨rfl,G y.1 y.2,fun w hw=>hush_step hy (fun b hb=>by rw[hl b (List.mem_append_left _ hb)];exact hJ w hw),aj4 hJ hz (fun b hb=>hl b (List.mem_append_right _ hb))⟩
   ·cases h
  ·cases h
theorem Sil.trans {J:World→Prop} {g g' g'':Goroutine}:∀{n m:Nat},Sil P J main n g g'→Sil P J main m g' g''→Sil P J main (n+m) g g''
 | 0,m,h,h'=>by rw[Nat.zero_add,show g=g' from h];exact h'
 | n+1,m,h,h'=>by
  obtain⟨h1,g1,h2,h3⟩:=h
  rw[show n+1+m=(n+m)+1 from by omega]
  exact⟨h1,g1,h2,h3.trans h'⟩
theorem ext_sil {J:World→Prop} {x:Frame×List Frame} {f:FuncId} {args:Array Value} {e:Array Value→Sem Value} {v:Value} (h:ab9 x=some (f,args)) (hE:Entry P f e) (he:e args=.pure v):
  Sil P J main 1 (G x.1 x.2) (G (did x v).1 (did x v).2):=
 ⟨rfl,_,fun w _=>ah9 (evs:=#[]) h hE (by rw[he];rfl) (by rw[he];rfl) (by simp),rfl⟩
end
def run (P:Program) (n:Nat) (x:Frame×List Frame):Frame×List Frame:=
 match ah7 P (some (257,6)) n x with
 | some (_,y)=>y
 | none=>x
def logs (P:Program) (n:Nat) (x:Frame×List Frame):Option (List Nat):=(ah7 P (some (257,6)) n x).map (·.1)
def deferAt (x:Frame×List Frame):Option (FuncId×Array Value):=
 match x.1.roundOf,x.1.mode,x.1.defers with
 | none,.returning,⟨.fn (.func f) cap,args⟩::_=>if cap.size=0 then some (f,args)else none
 | _,_,_=>none
def entryFn (P:Program) (f:FuncId):Func:=(P.funcs[f]?).getD default
theorem ai4 {P:Program} {f:FuncId} {e:Array Value→Sem Value} (h1:(P.funcs[f]?).isSome=true) (h2:((entryFn P f).name== "runtime.NumGoroutine")=false) (h3:(entryFn P f).body.isNone=true) (h4:Extern.findNext (entryFn P f)=none) (h5:Extern.find (entryFn P f)=some e):Entry P f e:=by
 obtain⟨fn,hf⟩:=Option.isSome_iff_exists.1 h1
 have:entryFn P f=fn:=by unfold entryFn;rw[hf];rfl
 rw[this]at h2 h3 h4 h5
 exact⟨fn,hf,h2,h3,h4,h5⟩
def undid (x:Frame×List Frame):Frame×List Frame:=({ x.1 with defers:=x.1.defers.tail },x.2)
def gOf (x:Frame×List Frame):Goroutine:=G x.1 x.2
section
variable {P:Program} {main:Bool} {x:Frame×List Frame} {w:World}
theorem run_sil {J:World→Prop} {r n:Nat} {l:List Nat} (hJ:∀w,J w→w.shape? r=some (257,6)) (h:logs P n x=some l) (hl:∀b∈l,b=r):Sil P J main n (gOf x) (gOf (run P n x)):=by
 unfold logs at h
 obtain⟨⟨l',y⟩,hy,rfl⟩:=Option.map_eq_some_iff.1 h
 have:run P n x=y:=by unfold run;rw[hy]
 rw[this]
 exact aj4 hJ hy hl
theorem unwind_mark_at (m:Mark) (hm:∀g,m≠.extern g) {f:FuncId} {args:Array Value} (h:deferAt x=some (f,args)) (hE:Entry P f (fun _=>do mark m;pure Extern.Race.none_)):
  stepG P main (gOf x) w=.go (gOf (undid x)) w #[⟨.mark m,false,true⟩]:=by
 obtain⟨⟨fn,tmps,todo,ds,mode,kind,ro⟩,cs⟩:=x
 obtain⟨fn',hf,hname,hb,hn,he⟩:=hE
 unfold deferAt at h
 simp only at h
 split at h
 ·rename_i f' cap args' ds'
  by_cases hc:cap.size=0
  ·rw[if_pos hc]at h
   simp only[Option.some.injEq,Prod.mk.injEq]at h
   obtain⟨rfl,rfl⟩:=h
   obtain rfl:=Array.eq_empty_of_size_eq_zero hc
   exact stepG_unwind_entry (v:=.tuple #[]) (b:=Frame.mk fn tmps [] [] .run kind none) (a:=⟨tmps,_⟩) (todo:=todo) rfl hf hname hb hn he (by simp[Extern.Race.none_]) (by simp) (by
    intro y hy
    simp at hy
    subst hy
    exact⟨rfl,fun g h=>hm g (by cases h;rfl)⟩)
  ·rw[if_neg hc]at h;cases h
 ·cases h
theorem al5 {r:Nat} {a b c d:Value} (w:World) (h:IsRun r #[a,b,c,d] 257 w):w.shape? r=some (257,6):=by
 obtain⟨st,sm,h⟩:=h
 unfold RunAt at h
 simp[World.shape?,h]
def tup:Value:=.tuple #[]
section
variable (P:Program) (r:Nat) (Y:List Frame)
def wS:Frame×List Frame:=(Frame.enter P 137 #[.pointer (some ⟨r,4,none⟩)] .normal,Y)
def wD:=run P 3 (wS P r Y)
def wL:=run P 19 (did (wD P r Y) tup)
def wE:=run P 31 (did (wL P r Y) (.int .u64 0))
def wQ:=run P 4 (did (wE P r Y) tup)
def wK:=run P 48 (did (wL P r Y) (.int .u64 4294967296))
def wL2:=run P 25 (did (wK P r Y) (.bool false))
def wEa:=run P 31 (did (wL2 P r Y) (.int .u64 0))
def wQa:=run P 4 (did (wEa P r Y) tup)
def wW:=run P 20 (did (wK P r Y) (.bool true))
def wM:=run P 23 (did (wW P r Y) tup)
def wN:=run P 16 (did (wM P r Y) tup)
def wEb:=run P 11 (did (wN P r Y) (.int .u64 0))
def wQb:=run P 4 (did (wEb P r Y) tup)
end
end
section
variable (r:Nat) (Y:List Frame)
open Go.Proofs
theorem e172:Entry Tryz.prog 172 (Extern.Race.marked .releaseMerge):=ai4 (by kernel_rfl) (by kernel_rfl) (by kernel_rfl) (by kernel_rfl) (by kernel_rfl)
theorem e173:Entry Tryz.prog 173 (fun _=>do mark .disable;pure Extern.Race.none_):=ai4 (by kernel_rfl) (by kernel_rfl) (by kernel_rfl) (by kernel_rfl) (by kernel_rfl)
theorem e174:Entry Tryz.prog 174 (fun _=>do mark .enable;pure Extern.Race.none_):=ai4 (by kernel_rfl) (by kernel_rfl) (by kernel_rfl) (by kernel_rfl) (by kernel_rfl)
theorem e175:Entry Tryz.prog 175 (fun _=>pure (.bool false)):=ai4 (by kernel_rfl) (by kernel_rfl) (by kernel_rfl) (by kernel_rfl) (by kernel_rfl)
theorem e180:Entry Tryz.prog 180 (Extern.Race.marked .read):=ai4 (by kernel_rfl) (by kernel_rfl) (by kernel_rfl) (by kernel_rfl) (by kernel_rfl)
theorem e184:Entry Tryz.prog 184 (Extern.Sync.semrelease):=ai4 (by kernel_rfl) (by kernel_rfl) (by kernel_rfl) (by kernel_rfl) (by kernel_rfl)
theorem e188:Entry Tryz.prog 188 (Extern.Race.marked .acquire):=ai4 (by kernel_rfl) (by kernel_rfl) (by kernel_rfl) (by kernel_rfl) (by kernel_rfl)
theorem e191:Entry Tryz.prog 191 (Extern.Race.marked .write):=ai4 (by kernel_rfl) (by kernel_rfl) (by kernel_rfl) (by kernel_rfl) (by kernel_rfl)
theorem e192:Entry Tryz.prog 192 (Extern.Sync.semacquire):=ai4 (by kernel_rfl) (by kernel_rfl) (by kernel_rfl) (by kernel_rfl) (by kernel_rfl)
theorem e223:Entry Tryz.prog 223 (Extern.Atomic.update (Op.intArith .add) .u64 true):=ai4 (by kernel_rfl) (by kernel_rfl) (by kernel_rfl) (by kernel_rfl) (by kernel_rfl)
theorem e224:Entry Tryz.prog 224 (Extern.Atomic.loadT (.int .u64)):=ai4 (by kernel_rfl) (by kernel_rfl) (by kernel_rfl) (by kernel_rfl) (by kernel_rfl)
theorem e225:Entry Tryz.prog 225 (Extern.Atomic.storeT):=ai4 (by kernel_rfl) (by kernel_rfl) (by kernel_rfl) (by kernel_rfl) (by kernel_rfl)
theorem e228:Entry Tryz.prog 228 (Extern.Atomic.casT (.int .u64)):=ai4 (by kernel_rfl) (by kernel_rfl) (by kernel_rfl) (by kernel_rfl) (by kernel_rfl)
theorem wD_log:logs Tryz.prog 3 (wS Tryz.prog r Y)=some []:=by kernel_rfl
theorem wD_at:ab9 (wD Tryz.prog r Y)=some (173,#[]):=by kernel_rfl
theorem wL_log:logs Tryz.prog 19 (did (wD Tryz.prog r Y) tup)=some []:=by kernel_rfl
theorem wL_at:ab9 (wL Tryz.prog r Y)=some (224,#[.pointer (some ⟨r,4,none⟩)]):=by kernel_rfl
theorem wE_log:logs Tryz.prog 31 (did (wL Tryz.prog r Y) (.int .u64 0))=some []:=by kernel_rfl
theorem wE_at:ab9 (wE Tryz.prog r Y)=some (174,#[]):=by kernel_rfl
theorem wQ_log:logs Tryz.prog 4 (did (wE Tryz.prog r Y) tup)=some [r,r]:=by kernel_rfl
theorem wQ_at:ab9 (wQ Tryz.prog r Y)=some (188,#[.pointer (some ⟨r,4,none⟩)]):=by kernel_rfl
theorem wK_log:logs Tryz.prog 48 (did (wL Tryz.prog r Y) (.int .u64 4294967296))=some []:=by kernel_rfl
theorem wK_at:ab9 (wK Tryz.prog r Y)=some (228,#[.pointer (some ⟨r,4,none⟩),.int .u64 4294967296,.int .u64 4294967297]):=by kernel_rfl
theorem wL2_log:logs Tryz.prog 25 (did (wK Tryz.prog r Y) (.bool false))=some []:=by kernel_rfl
theorem wL2_at:ab9 (wL2 Tryz.prog r Y)=some (224,#[.pointer (some ⟨r,4,none⟩)]):=by kernel_rfl
theorem wEa_log:logs Tryz.prog 31 (did (wL2 Tryz.prog r Y) (.int .u64 0))=some []:=by kernel_rfl
theorem wEa_at:ab9 (wEa Tryz.prog r Y)=some (174,#[]):=by kernel_rfl
theorem wQa_log:logs Tryz.prog 4 (did (wEa Tryz.prog r Y) tup)=some [r,r]:=by kernel_rfl
theorem wQa_at:ab9 (wQa Tryz.prog r Y)=some (188,#[.pointer (some ⟨r,4,none⟩)]):=by kernel_rfl
theorem wW_log:logs Tryz.prog 20 (did (wK Tryz.prog r Y) (.bool true))=some [r,r]:=by kernel_rfl
theorem wW_at:ab9 (wW Tryz.prog r Y)=some (191,#[.pointer (some ⟨r,5,none⟩)]):=by kernel_rfl
theorem wM_log:logs Tryz.prog 23 (did (wW Tryz.prog r Y) tup)=some []:=by kernel_rfl
theorem wM_at:ab9 (wM Tryz.prog r Y)=some (192,#[.pointer (some ⟨r,5,none⟩),.bool false]):=by kernel_rfl
theorem wN_log:logs Tryz.prog 16 (did (wM Tryz.prog r Y) tup)=some []:=by kernel_rfl
theorem wN_at:ab9 (wN Tryz.prog r Y)=some (224,#[.pointer (some ⟨r,4,none⟩)]):=by kernel_rfl
theorem wEb_log:logs Tryz.prog 11 (did (wN Tryz.prog r Y) (.int .u64 0))=some []:=by kernel_rfl
theorem wEb_at:ab9 (wEb Tryz.prog r Y)=some (174,#[]):=by kernel_rfl
theorem wQb_log:logs Tryz.prog 4 (did (wEb Tryz.prog r Y) tup)=some [r,r]:=by kernel_rfl
theorem wQb_at:ab9 (wQb Tryz.prog r Y)=some (188,#[.pointer (some ⟨r,4,none⟩)]):=by kernel_rfl
end
end Go.Fxa
namespace Go.Fxa
open Go.Conc
open Go.Proofs
structure WaitFacts (P:Program) (r:Nat) (c:Frame) (Y:List Frame):Prop where
 e173:Entry P 173 (fun _=>do mark .disable;pure Extern.Race.none_)
 e174:Entry P 174 (fun _=>do mark .enable;pure Extern.Race.none_)
 e188:Entry P 188 (Extern.Race.marked .acquire)
 e191:Entry P 191 (Extern.Race.marked .write)
 e192:Entry P 192 Extern.Sync.semacquire
 e224:Entry P 224 (Extern.Atomic.loadT (.int .u64))
 e228:Entry P 228 (Extern.Atomic.casT (.int .u64))
 wD_log:logs P 3 (wS P r (c::Y))=some []
 wD_at:ab9 (wD P r (c::Y))=some (173,#[])
 wL_log:logs P 19 (did (wD P r (c::Y)) tup)=some []
 wL_at:ab9 (wL P r (c::Y))=some (224,#[.pointer (some ⟨r,4,none⟩)])
 wE_log:logs P 31 (did (wL P r (c::Y)) (.int .u64 0))=some []
 wE_at:ab9 (wE P r (c::Y))=some (174,#[])
 wQ_log:logs P 4 (did (wE P r (c::Y)) tup)=some [r,r]
 wQ_at:ab9 (wQ P r (c::Y))=some (188,#[.pointer (some ⟨r,4,none⟩)])
 wK_log:logs P 48 (did (wL P r (c::Y)) (.int .u64 4294967296))=some []
 wK_at:ab9 (wK P r (c::Y))=some (228,#[.pointer (some ⟨r,4,none⟩),.int .u64 4294967296,.int .u64 4294967297])
 wL2_log:logs P 25 (did (wK P r (c::Y)) (.bool false))=some []
 wL2_at:ab9 (wL2 P r (c::Y))=some (224,#[.pointer (some ⟨r,4,none⟩)])
 wEa_log:logs P 31 (did (wL2 P r (c::Y)) (.int .u64 0))=some []
 wEa_at:ab9 (wEa P r (c::Y))=some (174,#[])
 wQa_log:logs P 4 (did (wEa P r (c::Y)) tup)=some [r,r]
 wQa_at:ab9 (wQa P r (c::Y))=some (188,#[.pointer (some ⟨r,4,none⟩)])
 wW_log:logs P 20 (did (wK P r (c::Y)) (.bool true))=some [r,r]
 wW_at:ab9 (wW P r (c::Y))=some (191,#[.pointer (some ⟨r,5,none⟩)])
 wM_log:logs P 23 (did (wW P r (c::Y)) tup)=some []
 wM_at:ab9 (wM P r (c::Y))=some (192,#[.pointer (some ⟨r,5,none⟩),.bool false])
 wN_log:logs P 16 (did (wM P r (c::Y)) tup)=some []
 wN_at:ab9 (wN P r (c::Y))=some (224,#[.pointer (some ⟨r,4,none⟩)])
 wEb_log:logs P 11 (did (wN P r (c::Y)) (.int .u64 0))=some []
 wEb_at:ab9 (wEb P r (c::Y))=some (174,#[])
 wQb_log:logs P 4 (did (wEb P r (c::Y)) tup)=some [r,r]
 wQb_at:ab9 (wQb P r (c::Y))=some (188,#[.pointer (some ⟨r,4,none⟩)])
 wZ_end:ah7 P (some (257,6)) 20 (did (wQ P r (c::Y)) tup)=some ([],(c.finish (.tuple #[]),Y))
 wZa_end:ah7 P (some (257,6)) 20 (did (wQa P r (c::Y)) tup)=some ([],(c.finish (.tuple #[]),Y))
 wZb_end:ah7 P (some (257,6)) 10 (did (wQb P r (c::Y)) tup)=some ([],(c.finish (.tuple #[]),Y))
section
variable {P:Program} {r:Nat} {c:Frame} {Y:List Frame} {a b e d:Value}
theorem ak1 {x:Frame×List Frame} {n:Nat} {l:List Nat} (h:logs P n x=some l) (hl:∀y∈l,y=r) (main:Bool):Sil P (IsRun r #[a,b,e,d] 257) main n (gOf x) (gOf (run P n x)):=
 run_sil (fun w hw=>al5 w hw) h hl
theorem nil_r:∀y∈([]:List Nat),y=r:=by simp
theorem two_r:∀y∈[r,r],y=r:=by simp
def waits (P:Program) (r:Nat) (Y:List Frame):Wts where
 mD:=gOf (wD P r Y)
 mD':=gOf (did (wD P r Y) tup)
 mL:=gOf (wL P r Y)
 mL0:=gOf (did (wL P r Y) (.int .u64 0))
 mLK:=gOf (did (wL P r Y) (.int .u64 KK))
 mC:=gOf (wK P r Y)
 mC1:=gOf (did (wK P r Y) (.bool true))
 mC0:=gOf (did (wK P r Y) (.bool false))
 mW:=gOf (wW P r Y)
 mW':=gOf (did (wW P r Y) tup)
 fr:=(wM P r Y).1
 cs:=(wM P r Y).2
 mS':=gOf (did (wM P r Y) tup)
 k0:=3
 k1:=19
 k2:=48
 k3:=20
 k4:=23
theorem fin0_of (F:WaitFacts P r c Y) {x y:Frame×List Frame} {k1 k3:Nat} {l1:List Nat} (h1:logs P k1 x=some l1) (hl1:∀z∈l1,z=r) (hE:ab9 (run P k1 x)=some (174,#[])) (h2:logs P 4 (did (run P k1 x) tup)=some [r,r])
  (hQ:ab9 (run P 4 (did (run P k1 x) tup))=some (188,#[.pointer (some ⟨r,4,none⟩)])) (h3:ah7 P (some (257,6)) k3 (did (run P 4 (did (run P k1 x) tup)) tup)=some ([],y)):
  Fin0 P r #[a,b,e,d] 257 (gOf y) (gOf x):=
 ⟨k1,gOf (run P k1 x),gOf (did (run P k1 x) tup),4,gOf (run P 4 (did (run P k1 x) tup)),gOf (did (run P 4 (did (run P k1 x) tup)) tup),k3,
  ak1 h1 hl1 true,rfl,fun w=>mark0_at .enable (by simp) hE F.e174,ak1 h2 two_r true,rfl,fun w=>markAt_at .acquire (by simp) hQ F.e188,aj4 (fun w hw=>al5 w hw) h3 (by simp)⟩
theorem wait_ok (F:WaitFacts P r c Y):WaitOk P r #[a,b,e,d] 257 (gOf (wS P r (c::Y))) (G (c.finish (.tuple #[])) Y) (waits P r (c::Y)) where
 runs:=⟨rfl,rfl,rfl,rfl⟩
 s0:=ak1 F.wD_log nil_r true
 dis w:=mark0_at .disable (by simp) F.wD_at F.e173
 s1:=ak1 F.wL_log nil_r true
 load0 w hw:=load_at F.wL_at F.e224 hw
 fin0:=fin0_of F F.wE_log nil_r F.wE_at F.wQ_log F.wQ_at F.wZ_end
 loadK w hw:=load_at F.wL_at F.e224 hw
 s2:=ak1 F.wK_log nil_r true
 hit w hw hz:=cas_hit_at F.wK_at F.e228 hw hz
 miss w hw hz:=cas_miss_at F.wK_at F.e228 hw hz (by decide)
 lo0:=⟨25,gOf (wL2 P r (c::Y)),_,ak1 F.wL2_log nil_r true,rfl,fun w hw=>load_at F.wL2_at F.e224 hw,fin0_of F F.wEa_log nil_r F.wEa_at F.wQa_log F.wQa_at F.wZa_end⟩
 s3:=ak1 F.wW_log two_r true
 wr w:=markAt_at .write (by simp) F.wW_at F.e191
 s4:=ak1 F.wM_log nil_r true
 shit w hw hz:=acquire_at F.wM_at rfl F.e192 hw (by decide) hz
 smiss w hw:=acquire_wait_at F.wM_at rfl F.e192 hw
 lo1:=⟨16,gOf (wN P r (c::Y)),_,ak1 F.wN_log nil_r true,rfl,fun w hw=>load_at F.wN_at F.e224 hw,fin0_of F F.wEb_log nil_r F.wEb_at F.wQb_log F.wQb_at F.wZb_end⟩
end
section
variable (r:Nat) (c:Frame) (Y:List Frame)
theorem wZ_end:ah7 Tryz.prog (some (257,6)) 20 (did (wQ Tryz.prog r (c::Y)) tup)=some ([],(c.finish (.tuple #[]),Y)):=by kernel_rfl
theorem wZa_end:ah7 Tryz.prog (some (257,6)) 20 (did (wQa Tryz.prog r (c::Y)) tup)=some ([],(c.finish (.tuple #[]),Y)):=by kernel_rfl
theorem wZb_end:ah7 Tryz.prog (some (257,6)) 10 (did (wQb Tryz.prog r (c::Y)) tup)=some ([],(c.finish (.tuple #[]),Y)):=by kernel_rfl
theorem wait_facts:WaitFacts Tryz.prog r c Y:=
 ⟨e173,e174,e188,e191,e192,e224,e228,wD_log r _,wD_at r _,wL_log r _,wL_at r _,wE_log r _,wE_at r _,wQ_log r _,wQ_at r _,wK_log r _,wK_at r _,wL2_log r _,wL2_at r _,wEa_log r _,wEa_at r _,wQa_log r _,wQa_at r _,
  wW_log r _,wW_at r _,wM_log r _,wM_at r _,wN_log r _,wN_at r _,wEb_log r _,wEb_at r _,wQb_log r _,wQb_at r _,wZ_end r c Y,wZa_end r c Y,wZb_end r c Y⟩
end
end Go.Fxa
