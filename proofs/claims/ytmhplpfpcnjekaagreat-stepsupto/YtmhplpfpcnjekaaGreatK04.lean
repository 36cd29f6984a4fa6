/- Two selects meet. A holder and one bystander, beside leavers: the holder's own step is taken in the end. The holder's calls of plain code beside a bystander; a bystander that is on its way to a select of receives, or parked there. -/
import Derived.Test.YtmhplpfpcnjekaaGreatK03
import Derived.Conc.CrowdSel
namespace Go.Fxa
open Go.Conc
section
variable {P:Program} {gs:Array Goroutine} {w w₁:World} {sl:Option (Nat×Nat)} {i j:Nat} {g g₂ gj:Goroutine} {es:Array Event} {cases cj:Array CommCase} {shape shj:CommShape} {k kj c cap s r:Nat} {buf:Array Value} {tm:Bool} {v z zj:Value} {blocking:Bool}
theorem sel_send_meets (hi:gs[i]?=some g) (h:stepG P (i==0) g w=.comm g₂ cases blocking shape w₁ es) (hk:cases[k]?=some (scase c v z))
  (ho:∀(m:Nat) (c':CommCase),m≠k→cases[m]?=some c'→NoWays w₁ (gs.setIfInBounds i ph) c')
  (hc:w₁.heap[c]?=some (.chan cap buf false s r tm)) (hij:j≠i) (hj:gs[j]?=some (parked gj cj shj)) (hkj:cj[kj]?=some (rcase c zj)) (hp:partners (gs.setIfInBounds i ph) c false=[(j,kj)]):
  runT P (crowd gs w sl) i=(.next (crowd ((gs.setIfInBounds j (Conc.served gj (commResult cj shj kj v true))).setIfInBounds i (Conc.served g₂ (commResult cases shape k undef false))) (w₁.setChan c cap buf false (s+1) (r+1) tm) sl),
   MemOp.ofEvents i g.frame.fn g.frame.place es++#[{ g:=i,fn:=g₂.frame.fn,pos:=g₂.frame.place,act:=.send c s },{ g:=j,fn:=gj.frame.fn,pos:=gj.frame.place,act:=.recv c r cap },
    { g:=i,fn:=g₂.frame.fn,pos:=g₂.frame.place,act:=.sendDone c s },{ g:=j,fn:=gj.frame.fn,pos:=gj.frame.place,act:=.recvDone c r }]):=by
 have hw:ways w₁ (gs.setIfInBounds i ph) (scase c v z)=[.partner j kj]:=by simp[ways,scase,hc,hp]
 have hj':=stand_get (i:=i) hij hj
 have hfp:=finishPartner_at P (gs.setIfInBounds i ph) hj' (cs:=cj) (sh:=shj) rfl kj v
 have hgd:(gs.setIfInBounds i ph).getD j default=parked gj cj shj:=by rw[Array.getD_eq_getD_getElem?,hj'];rfl
 rw[runT_crowd_comm hi h]
 unfold communicate
 simp only[ready_one hk (by rw[hw];simp) ho,hw]
 rw[if_neg]
 ·simp[choose,Sem.run,Question.forced,bind,Sem.bind,pure,scase,crowd,hc,hfp,hgd,set_stand2,hkj,rcase,parked,World.setChan]
  rfl
 ·rw[Bool.not_eq_true];exact any_ill (made_of_one hk (made_send v z hc) ho)
theorem sel_recv_meets (hi:gs[i]?=some g) (h:stepG P (i==0) g w=.comm g₂ cases blocking shape w₁ es) (hk:cases[k]?=some (rcase c z))
  (ho:∀(m:Nat) (c':CommCase),m≠k→cases[m]?=some c'→NoWays w₁ (gs.setIfInBounds i ph) c')
  (hc:w₁.heap[c]?=some (.chan cap #[] false s r tm)) (hij:j≠i) (hj:gs[j]?=some (parked gj cj shj)) (hkj:cj[kj]?=some (scase c v zj)) (hp:partners (gs.setIfInBounds i ph) c true=[(j,kj)]):
  runT P (crowd gs w sl) i=(.next (crowd ((gs.setIfInBounds j (Conc.served gj (commResult cj shj kj undef false))).setIfInBounds i (Conc.served g₂ (commResult cases shape k v true))) (w₁.setChan c cap #[] false (s+1) (r+1) tm) sl),
   MemOp.ofEvents i g.frame.fn g.frame.place es++#[{ g:=j,fn:=gj.frame.fn,pos:=gj.frame.place,act:=.send c s },{ g:=i,fn:=g₂.frame.fn,pos:=g₂.frame.place,act:=.recv c r cap },
    { g:=j,fn:=gj.frame.fn,pos:=gj.frame.place,act:=.sendDone c s },{ g:=i,fn:=g₂.frame.fn,pos:=g₂.frame.place,act:=.recvDone c r }]):=by
 have hw:ways w₁ (gs.setIfInBounds i ph) (rcase c z)=[.partner j kj]:=by simp[ways,rcase,hc,hp]
 have hj':=stand_get (i:=i) hij hj
 have hfp:=finishPartner_at P (gs.setIfInBounds i ph) hj' (cs:=cj) (sh:=shj) rfl kj undef
 have hgd:(gs.setIfInBounds i ph).getD j default=parked gj cj shj:=by rw[Array.getD_eq_getD_getElem?,hj'];rfl
 have hov:offeredValue (gs.setIfInBounds i ph) j kj=v:=by simp[offeredValue,hj',parked,hkj,scase]
 rw[runT_crowd_comm hi h]
 unfold communicate
 simp only[ready_one hk (by rw[hw];simp) ho,hw]
 rw[if_neg]
 ·simp[choose,Sem.run,Question.forced,bind,Sem.bind,pure,rcase,crowd,hc,hfp,hgd,hov,set_stand2,hkj,scase,parked,World.setChan]
  rfl
 ·rw[Bool.not_eq_true];exact any_ill (made_of_one hk (made_recv z hc) ho)
end
end Go.Fxa
namespace Go.Fxa
open Go.Conc
open Go.ConcN (sumTo upd sumTo_upd upd_ne upd_same)
structure OffZ (Z:Nat→Prop) (w w1:World):Prop where
 size:w1.heap.size=w.heap.size
 same:∀r,¬Z r→w1.heap[r]?=w.heap[r]?
 os:w1.os=w.os
 output:w1.output=w.output
 tape:w1.tape=w.tape
def KeepZ (Z:Nat→Prop) (w w1:World):Prop:=∀r,Z r→w1.heap[r]?=w.heap[r]?
def EvH (Shun Still:Loc→Prop) (B:Nat) (e:Event):Prop:=
 (∀x,(MemAct.ofEvent e).touch?=some x→(Still x.loc→x.write=false)∧(Shun x.loc→x.kind≠.plain))∧e.loc≠.mark .disable∧e.loc≠.mark .enable∧(MemAct.ofEvent e).low B∧∀a,e.loc≠.mark (.release a)
def OpenIn (w:World) (cc:CommCase):Prop:=∃c z k,cc=rcase c z∧w.heap[c]?=some (.chan 0 #[] false k k false)
def Meek (Shun Still:Loc→Prop) (j:Nat) (u:Trace):Prop:=∀op∈u,op.g≠j∧(∀b,op.act.touch?=some b→(Still b.loc→b.write=false)∧(Shun b.loc→b.kind≠.plain))∧(∀a,op.act≠.mark (.release a))∧(op.act=.mark .disable∨op.act=.mark .enable→op.g≠0)
structure ByOk (P:Program) (Z:Nat→Prop) (Shun Still:Loc→Prop) (Tr:Nat→Trace→Prop) (j:Nat) (By:Nat→Goroutine→World→Trace→Prop):Prop where
 status:∀{n g w t},By n g w t→(g.status=.running∧0<n)∨g.status=.blocked∨g.status=.finished
 again:∀{n g w t},By n g w t→∀w',KeepZ Z w w'→g.again w'=g
 calm:∀{n g w t} (w':World) (u:Trace),By n g w t→KeepZ Z w w'→Meek Shun Still j u→By n g w' (t++u)
 step:∀{n g w t B},By n g w t→g.status=.running→Tr B t→w.heap.size≤B→∀d,
  (∃n' g' w' es,n'<n∧stepG P (j==0) g (w.at d)=.go g' w' es∧OffZ Z w w'∧Tr B (t++MemOp.ofEvents j g.frame.fn g.frame.place es)∧By n' g' w' (t++MemOp.ofEvents j g.frame.fn g.frame.place es))∨
  (∃n' g₂ cases shape es,n'<n∧stepG P (j==0) g (w.at d)=.comm g₂ cases true shape (w.at d) es∧(∀cc∈cases,OpenIn w cc)∧Tr B (t++MemOp.ofEvents j g.frame.fn g.frame.place es)∧
   By n' (parked g₂ cases shape) (w.at d) (t++MemOp.ofEvents j g.frame.fn g.frame.place es))∨
  (∃n' g₂ cases shape es k c z cap s r tm,n'<n∧stepG P (j==0) g (w.at d)=.comm g₂ cases true shape (w.at d) es∧cases[k]?=some (rcase c z)∧w.heap[c]?=some (.chan cap #[] true s r tm)∧(∀(m:Nat) cc,m≠k→cases[m]?=some cc→OpenIn w cc)∧
   Tr B (t++(MemOp.ofEvents j g.frame.fn g.frame.place es++#[{ g:=j,fn:=g₂.frame.fn,pos:=g₂.frame.place,act:=.recvClosed c }]))∧
   By n' (Conc.served g₂ (commResult cases shape k z false)) (w.at d) (t++(MemOp.ofEvents j g.frame.fn g.frame.place es++#[{ g:=j,fn:=g₂.frame.fn,pos:=g₂.frame.place,act:=.recvClosed c }])))
structure Duo (P:Program) (Shun Still:Loc→Prop) (Mem Loose:Nat→Prop) (B h j:Nat) (By:Nat→Goroutine→World→Trace→Prop) (n:Nat) (gs:Array Goroutine) (w:World) (t:Trace) (q:Nat→Nat):Prop where
 ne:h≠j
 zero:h=0∨j=0
 mem:∀g,Mem g→g=h∨g=j
 idle:∃b,gs[j]?=some b∧By n b w t
 leav:∀i g,i≠h→i≠j→gs[i]?=some g→QuitsD P (q i) (Deaf t i) g
 above:∀i,gs.size≤i→Deaf t i=0
 tr:PX Shun Still Mem Loose B h t
 size:w.heap.size≤B
section
variable {P:Program} {Z:Nat→Prop} {Shun Still:Loc→Prop} {Mem Loose:Nat→Prop} {h j:Nat} {By:Nat→Goroutine→World→Trace→Prop}
theorem OffZ.refl (w:World):OffZ Z w w:=⟨rfl,fun _ _=>rfl,rfl,rfl,rfl⟩
theorem OffZ.at (w:World) (d:Nat):OffZ Z w (w.at d):=⟨rfl,fun _ _=>rfl,rfl,rfl,rfl⟩
theorem OffZ.trans {w w1 w2:World} (h:OffZ Z w w1) (h':OffZ Z w1 w2):OffZ Z w w2:=
 ⟨h'.size.trans h.size,fun r hr=>(h'.same r hr).trans (h.same r hr),h'.os.trans h.os,h'.output.trans h.output,h'.tape.trans h.tape⟩
theorem Twin.off {Od:Old} {v w w1:World} (T:Twin Od Z v w) (h:OffZ Z w w1):Twin Od Z v w1:=
 ⟨T.size.trans h.size.symm,fun r hr ho=>(T.same r hr ho).trans (h.same r hr).symm,T.dead,T.plain,T.os.trans h.os.symm,T.output.trans h.output.symm,T.odead,fun r ho=>(h.same r (T.dis r ho)).trans (T.kept r ho),T.dis⟩
theorem aa6 {i:Nat} {fn:FuncId} {pos:String} {es:Array Event}:∀op∈MemOp.ofEvents i fn pos es,op.g=i:=fun op hop=>by
 obtain⟨e,_,rfl⟩:=Go.Conc.mem_ofEvents hop;rfl
theorem PX.own {B:Nat} {t:Trace} (H:PX Shun Still Mem Loose B h t) {fn:FuncId} {pos:String} {es:Array Event} (hes:∀e∈es,EvH Shun Still B e):PX Shun Still Mem Loose B h (t++MemOp.ofEvents h fn pos es):=by
 refine H.appH aa6 (fun op hop b hb=>by obtain⟨e,he,rfl⟩:=Go.Conc.mem_ofEvents hop;exact(hes e he).1 b hb) (fun _=>?_) (fun op hop=>by obtain⟨e,he,rfl⟩:=Go.Conc.mem_ofEvents hop;exact(hes e he).2.2.2.1)
 rw[Deaf_own]
 exact deafBehind_still (fun e he=>⟨(hes e he).2.1,(hes e he).2.2.1⟩) _
theorem ai1 {B i:Nat} {fn:FuncId} {pos:String} {es:Array Event} (hne:i≠j) (hes:∀e∈es,EvH Shun Still B e):Meek Shun Still j (MemOp.ofEvents i fn pos es):=by
 intro op hop
 refine⟨by rw[aa6 op hop];exact hne,?_⟩
 obtain⟨e,he,rfl⟩:=Go.Conc.mem_ofEvents hop
 refine⟨fun b hb=>(hes e he).1 b hb,fun a ha=>?_,fun ha=>?_⟩
 ·have:=(hes e he).2.2.2.2 a
  obtain⟨loc,wr,sy⟩:=e
  cases loc with
  | obj r=>cases wr<;>cases sy<;>simp[MemAct.ofEvent]at ha
  | mark m=>simp[MemAct.ofEvent]at ha;subst ha;exact this rfl
  | _=>simp[MemAct.ofEvent]at ha
 ·exfalso
  have h1:=(hes e he).2.1
  have h2:=(hes e he).2.2.1
  obtain⟨loc,wr,sy⟩:=e
  cases loc with
  | obj r=>cases wr<;>cases sy<;>simp[MemAct.ofEvent]at ha
  | mark m=>simp[MemAct.ofEvent]at ha;rcases ha with rfl|rfl;exact h1 rfl;exact h2 rfl
  | _=>simp[MemAct.ofEvent]at ha
theorem meek_mute {i:Nat} {fn:FuncId} {pos:String} {es:Array Event} (hne:i≠j) (hi:i≠0) (hes:∀e∈es,e.mute=true):Meek Shun Still j (MemOp.ofEvents i fn pos es):=by
 intro op hop
 refine⟨by rw[aa6 op hop];exact hne,?_⟩
 obtain⟨e,he,rfl⟩:=Go.Conc.mem_ofEvents hop
 refine⟨fun b hb=>(by rw[touch_mute (hes e he)]at hb;cases hb),fun a ha=>?_,fun _=>hi⟩
 have:=hes e he
 obtain⟨loc,wr,sy⟩:=e
 cases loc with
 | obj r=>simp[Event.mute]at this
 | mark m=>simp[MemAct.ofEvent]at ha;subst ha;simp[Event.mute]at this
 | _=>simp[Event.mute]at this
theorem ag8 {gs:Array Goroutine} {i c:Nat} {send:Bool} (hb:∀k g,k≠i→gs[k]?=some g→g.status≠.blocked):partners (gs.setIfInBounds i ph) c send=[]:=by
 refine partners_nil fun k g hk=>?_
 rcases getElem?_stand gs i k g hk with⟨rfl,rfl⟩|⟨hne,hk'⟩
 ·exact offersAt_ph _ _
 ·exact offersAt_of_not_blocked (hb k g hne hk') _ _
theorem own_step_duo (O:ByOk P Z Shun Still (fun B t=>PX Shun Still Mem Loose B h t) j By) {Kst:Goroutine→World→Prop}:∀(M n:Nat) (gs:Array Goroutine) (a:Goroutine) (w:World) (sl:Option (Nat×Nat)) (t:Trace) (q:Nat→Nat) (B:Nat),
  n+sumTo gs.size q≤M→gs[h]?=some a→a.status=.running→Duo P Shun Still Mem Loose B h j By n gs w t q→
  (∀w1,OffZ Z w w1→∃a' w' es B',stepG P (h==0) a w1=.go a' w' es∧B≤B'∧(∀e∈es,EvH Shun Still B' e)∧KeepZ Z w1 w'∧w'.heap.size≤B'∧Kst a' w')→
  ∃(N:Nat) (gs':Array Goroutine) (a':Goroutine) (w':World) (sl':Option (Nat×Nat)) (t':Trace) (q':Nat→Nat) (n' B':Nat),
   runNT P N (crowd gs w sl) t=(.next (crowd gs' w' sl'),t')∧gs'.size=gs.size∧gs'[h]?=some a'∧Kst a' w'∧B≤B'∧Duo P Shun Still Mem Loose B' h j By n' gs' w' t' q':=by
 intro M
 induction M with
 | zero=>
  intro n gs a w sl t q B hM h0 hrun D hstep
  obtain⟨b,hb,hB⟩:=D.idle
  have haw:∀g∈gs,awake g:=by
   intro g hg
   obtain⟨i,hi,rfl⟩:=Array.mem_iff_getElem.1 hg
   have hi':=Array.getElem?_eq_getElem hi
   by_cases e1:i=h
   ·subst e1
    rw[h0]at hi';rw[←Option.some.inj hi'];exact awake_of (.inl hrun)
   ·by_cases e2:i=j
    ·subst e2
     rw[hb]at hi';rw[←Option.some.inj hi'];exact awake_of ((O.status hB).elim (fun x=>.inl x.1) .inr)
    ·exact awake_of ((D.leav i _ e1 e2 hi').status.elim .inl fun x=>.inr (.inr x))
  obtain⟨i,g,d,sl',hi,hg,hst⟩:=crowd_pick (P:=P) (w:=w) (sl:=sl) haw ⟨h,a,h0,hrun⟩
  have hlt:i<gs.size:=(Array.getElem?_eq_some_iff.1 hi).1
  by_cases e1:i=h
  ·subst e1
   obtain rfl:g=a:=by rw[h0]at hi;exact(Option.some.inj hi).symm
   obtain⟨a',w',es,B',hgo,hBB,hev,hkz,hsz,hK⟩:=hstep (w.at d) (OffZ.at w d)
   have hrunT:=runT_crowd_go (P:=P) (sl:=sl') (i:=i) hi hgo
   have hjl:j<gs.size:=(Array.getElem?_eq_some_iff.1 hb).1
   refine⟨1,(gs.map (woken P g a' w')).setIfInBounds i a',a',w',sl',t++MemOp.ofEvents i g.frame.fn g.frame.place es,q,n,B',by simp only[runNT,hst,hrunT],by simp,by simp[hlt],hK,hBB,⟨D.ne,D.zero,D.mem,⟨b,?_,O.calm w' _ hB hkz (ai1 D.ne hev)⟩,fun k x hk1 hk2 hx=>?_,fun k hk=>?_,(D.tr.mono hBB).own hev,hsz⟩⟩
   ·rw[Array.getElem?_setIfInBounds_ne D.ne,Array.getElem?_map,hb]
    simp only[Option.map_some,Option.some.injEq]
    exact woken_of_again (O.again hB w' hkz)
   ·rw[Array.getElem?_setIfInBounds_ne (Ne.symm hk1),Array.getElem?_map]at hx
    obtain⟨y,hy,rfl⟩:=Option.map_eq_some_iff.1 hx
    have hq:=D.leav k y hk1 hk2 hy
    rw[woken_quitsD hq,Deaf_other t (Ne.symm hk1) _ aa6]
    exact hq
   ·rw[Deaf_other t (g':=i) (by simp at hk;omega) _ aa6]
    exact D.above k (by simpa using hk)
  ·exfalso
   by_cases e2:i=j
   ·subst e2
    obtain rfl:g=b:=by rw[hb]at hi;exact(Option.some.inj hi).symm
    rcases O.status hB with⟨_,hn⟩|h1|h1
    ·omega
    ·rw[h1]at hg;cases hg
    ·rw[h1]at hg;cases hg
   ·have hq:=D.leav i g e1 e2 hi
    have hz:q i=0:=by
     have hs:sumTo gs.size (upd q i 0)+q i=sumTo gs.size q+0:=by
      have:=sumTo_upd q 0 id hlt
      simpa using this
     omega
    rw[hz]at hq
    rw[hq.1]at hg
    cases hg
 | succ M ih=>
  intro n gs a w sl t q B hM h0 hrun D hstep
  obtain⟨b,hb,hB⟩:=D.idle
  have haw:∀g∈gs,awake g:=by
   intro g hg
   obtain⟨i,hi,rfl⟩:=Array.mem_iff_getElem.1 hg
   have hi':=Array.getElem?_eq_getElem hi
   by_cases e1:i=h
   ·subst e1
    rw[h0]at hi';rw[←Option.some.inj hi'];exact awake_of (.inl hrun)
   ·by_cases e2:i=j
    ·subst e2
     rw[hb]at hi';rw[←Option.some.inj hi'];exact awake_of ((O.status hB).elim (fun x=>.inl x.1) .inr)
    ·exact awake_of ((D.leav i _ e1 e2 hi').status.elim .inl fun x=>.inr (.inr x))
  obtain⟨i,g,d,sl',hi,hg,hst⟩:=crowd_pick (P:=P) (w:=w) (sl:=sl) haw ⟨h,a,h0,hrun⟩
  have hlt:i<gs.size:=(Array.getElem?_eq_some_iff.1 hi).1
  by_cases e1:i=h
  ·subst e1
   obtain rfl:g=a:=by rw[h0]at hi;exact(Option.some.inj hi).symm
   obtain⟨a',w',es,B',hgo,hBB,hev,hkz,hsz,hK⟩:=hstep (w.at d) (OffZ.at w d)
   have hrunT:=runT_crowd_go (P:=P) (sl:=sl') (i:=i) hi hgo
   refine⟨1,(gs.map (woken P g a' w')).setIfInBounds i a',a',w',sl',t++MemOp.ofEvents i g.frame.fn g.frame.place es,q,n,B',by simp only[runNT,hst,hrunT],by simp,by simp[hlt],hK,hBB,⟨D.ne,D.zero,D.mem,⟨b,?_,O.calm w' _ hB hkz (ai1 D.ne hev)⟩,fun k x hk1 hk2 hx=>?_,fun k hk=>?_,(D.tr.mono hBB).own hev,hsz⟩⟩
   ·rw[Array.getElem?_setIfInBounds_ne D.ne,Array.getElem?_map,hb]
    simp only[Option.map_some,Option.some.injEq]
    exact woken_of_again (O.again hB w' hkz)
   ·rw[Array.getElem?_setIfInBounds_ne (Ne.symm hk1),Array.getElem?_map]at hx
    obtain⟨y,hy,rfl⟩:=Option.map_eq_some_iff.1 hx
    have hq:=D.leav k y hk1 hk2 hy
    rw[woken_quitsD hq,Deaf_other t (Ne.symm hk1) _ aa6]
    exact hq
   ·rw[Deaf_other t (g':=i) (by simp at hk;omega) _ aa6]
    exact D.above k (by simpa using hk)
  ·by_cases e2:i=j
   ·subst e2
    obtain rfl:g=b:=by rw[hb]at hi;exact(Option.some.inj hi).symm
    have nob:∀k y,k≠i→gs[k]?=some y→y.status≠.blocked:=by
     intro k y hk hy
     by_cases e3:k=h
     ·subst e3;rw[h0]at hy;rw[←Option.some.inj hy,hrun];simp
     ·have:=(D.leav k y e3 hk hy).status
      rcases this with h1|h1<;>rw[h1]<;>simp
    rcases O.step hB hg D.tr D.size d with⟨n',g',w',es,hn,hgo,hoff,htr,hB'⟩|⟨n',g₂,cases,shape,es,hn,hco,hop,htr,hB'⟩|⟨n',g₂,cases,shape,es,k,c,z,cap,s,r,tm,hn,hco,hk,hcl,hop,htr,hB'⟩
    ·have hrunT:=runT_crowd_go (P:=P) (sl:=sl') (i:=i) hi hgo
     have hsz:((gs.map (woken P g g' w')).setIfInBounds i g').size=gs.size:=by simp
     obtain⟨N,gs',a'',w'',sl'',t',q',n'',B',hr,hs',h0',hS,hB2,D'⟩:=ih n' ((gs.map (woken P g g' w')).setIfInBounds i g') a w' sl' (t++MemOp.ofEvents i g.frame.fn g.frame.place es) q B (by rw[hsz];omega)
      (by rw[Array.getElem?_setIfInBounds_ne e1,Array.getElem?_map,h0];simp[woken_run hrun]) hrun
      ⟨D.ne,D.zero,D.mem,⟨g',by simp[hlt],hB'⟩,fun k x hk1 hk2 hx=>by
       rw[Array.getElem?_setIfInBounds_ne (Ne.symm hk2),Array.getElem?_map]at hx
       obtain⟨y,hy,rfl⟩:=Option.map_eq_some_iff.1 hx
       have hq:=D.leav k y hk1 hk2 hy
       rw[woken_quitsD hq,Deaf_other t (Ne.symm hk2) _ aa6]
       exact hq,fun k hk=>by
       rw[Deaf_other t (g':=i) (by simp at hk;omega) _ aa6]
       exact D.above k (by simpa using hk),htr,by rw[hoff.size];exact D.size⟩
      (fun w1 hw1=>hstep w1 (hoff.trans hw1))
     exact⟨N+1,gs',a'',w'',sl'',t',q',n'',B',by simp only[runNT,hst,hrunT];exact hr,hs'.trans hsz,h0',hS,hB2,D'⟩
    ·have hrunT:=crowd_waits (P:=P) (sl:=sl') (i:=i) hi hco (fun cc hcc=>by
      obtain⟨c,z,k,rfl,hc⟩:=hop cc hcc
      exact ways_recv_none (show(w.at d).heap[c]?=_ from hc) (ag8 nob))
     have hsz:(gs.setIfInBounds i (parked g₂ cases shape)).size=gs.size:=by simp
     obtain⟨N,gs',a'',w'',sl'',t',q',n'',B',hr,hs',h0',hS,hB2,D'⟩:=ih n' (gs.setIfInBounds i (parked g₂ cases shape)) a (w.at d) sl' (t++MemOp.ofEvents i g.frame.fn g.frame.place es) q B (by rw[hsz];omega)
      (by rw[Array.getElem?_setIfInBounds_ne e1];exact h0) hrun
      ⟨D.ne,D.zero,D.mem,⟨_,by simp[hlt],hB'⟩,fun k x hk1 hk2 hx=>by
       rw[Array.getElem?_setIfInBounds_ne (Ne.symm hk2)]at hx
       rw[Deaf_other t (Ne.symm hk2) _ aa6]
       exact D.leav k x hk1 hk2 hx,fun k hk=>by
       rw[Deaf_other t (g':=i) (by simp at hk;omega) _ aa6]
       exact D.above k (by simpa using hk),htr,D.size⟩
      (fun w1 hw1=>hstep w1 ((OffZ.at w d).trans hw1))
     exact⟨N+1,gs',a'',w'',sl'',t',q',n'',B',by simp only[runNT,hst,hrunT];exact hr,hs'.trans hsz,h0',hS,hB2,D'⟩
    ·have hrunT:=crowd_sel_recv_closed (P:=P) (sl:=sl') (i:=i) hi hco hk (fun m cc hm hcc=>by
      obtain⟨c',z',k',rfl,hc⟩:=hop m cc hm hcc
      exact ways_recv_none (show(w.at d).heap[c']?=_ from hc) (ag8 nob)) (show(w.at d).heap[c]?=_ from hcl) (ag8 nob)
     have hsz:(gs.setIfInBounds i (Conc.served g₂ (commResult cases shape k z false))).size=gs.size:=by simp
     have hg1:∀op∈MemOp.ofEvents i g.frame.fn g.frame.place es++#[{ g:=i,fn:=g₂.frame.fn,pos:=g₂.frame.place,act:=.recvClosed c }],op.g=i:=by
      intro op hop
      rcases Array.mem_append.1 hop with hop|hop
      ·exact aa6 op hop
      ·simp at hop;subst hop;rfl
     obtain⟨N,gs',a'',w'',sl'',t',q',n'',B',hr,hs',h0',hS,hB2,D'⟩:=ih n' (gs.setIfInBounds i (Conc.served g₂ (commResult cases shape k z false))) a (w.at d) sl' (t++(MemOp.ofEvents i g.frame.fn g.frame.place es++#[{ g:=i,fn:=g₂.frame.fn,pos:=g₂.frame.place,act:=.recvClosed c }])) q B (by rw[hsz];omega)
      (by rw[Array.getElem?_setIfInBounds_ne e1];exact h0) hrun
      ⟨D.ne,D.zero,D.mem,⟨_,by simp[hlt],hB'⟩,fun k x hk1 hk2 hx=>by
       rw[Array.getElem?_setIfInBounds_ne (Ne.symm hk2)]at hx
       rw[Deaf_other t (Ne.symm hk2) _ hg1]
       exact D.leav k x hk1 hk2 hx,fun k hk=>by
       rw[Deaf_other t (g':=i) (by simp at hk;omega) _ hg1]
       exact D.above k (by simpa using hk),htr,D.size⟩
      (fun w1 hw1=>hstep w1 ((OffZ.at w d).trans hw1))
     exact⟨N+1,gs',a'',w'',sl'',t',q',n'',B',by simp only[runNT,hst,hrunT];exact hr,hs'.trans hsz,h0',hS,hB2,D'⟩
   ·have hpos:i≠0:=by rcases D.zero with e|e<;>omega
    have hq:=D.leav i g e1 e2 hi
    have hi0:(i==0)=false:=by simp;omega
    cases hqi:q i with
    | zero=>rw[hqi]at hq;rw[hq.1]at hg;cases hg
    | succ k=>
     rw[hqi]at hq
     rcases hq with⟨hf,_⟩|⟨_,g',es,hm,hstp,hq'⟩
     ·rw[hf]at hg;cases hg
     have hrunT:=runT_crowd_go (P:=P) (sl:=sl') (i:=i) hi (by rw[hi0];exact hstp (w.at d))
     have hsz:((gs.map (woken P g g' (w.at d))).setIfInBounds i g').size=gs.size:=by simp
     have hsum:sumTo gs.size (upd q i k)+(k+1)=sumTo gs.size q+k:=by
      have:=sumTo_upd q k id hlt
      simpa [hqi]using this
     have hmute:∀op∈MemOp.ofEvents i g.frame.fn g.frame.place es,op.act.touch?=none:=fun op hop=>by obtain⟨e,he,rfl⟩:=Go.Conc.mem_ofEvents hop;exact touch_mute (hm e he)
     have htr:PX Shun Still Mem Loose B h (t++MemOp.ofEvents i g.frame.fn g.frame.place es):=by
      refine(D.tr.fewer (Mem':=fun g=>Mem g∧g≠i) fun g hg=>hg.1).appMute aa6 hmute (fun x=>(x.2 rfl).elim) (fun op hop=>by obtain⟨e,he,rfl⟩:=Go.Conc.mem_ofEvents hop;exact low_mute (hm e he) B) |> fun H=>⟨H.clean,H.known,fun x y hx hw hS g hg=>?_,fun g hg=>?_,H.seen⟩
      ·obtain⟨op,hop,hopa⟩:=touch_of hx
       rcases getElem?_append_cases hop with⟨_,hx'⟩|⟨_,hxu⟩
       ·exact(D.tr.wrote x y (by rw[touchAt_of hx'];exact hopa) hw hS g hg).app _
       ·rw[hmute op hxu]at hopa;cases hopa
      ·by_cases e3:g=i
       ·subst e3;exact((D.mem g hg).elim e1 e2).elim
       ·rw[Deaf_other t (Ne.symm e3) _ aa6];exact D.tr.hears g hg
     obtain⟨N,gs',a'',w'',sl'',t',q',n'',B',hr,hs',h0',hS,hB2,D'⟩:=ih n ((gs.map (woken P g g' (w.at d))).setIfInBounds i g') a (w.at d) sl' (t++MemOp.ofEvents i g.frame.fn g.frame.place es) (upd q i k) B (by rw[hsz];omega)
      (by rw[Array.getElem?_setIfInBounds_ne e1,Array.getElem?_map,h0];simp[woken_run hrun]) hrun
      ⟨D.ne,D.zero,D.mem,⟨b,by
       rw[Array.getElem?_setIfInBounds_ne e2,Array.getElem?_map,hb]
       simp only[Option.map_some,Option.some.injEq]
       exact woken_of_again (O.again hB (w.at d) fun _ _=>rfl),O.calm (w.at d) _ hB (fun _ _=>rfl) (meek_mute e2 hpos hm)⟩,fun x y hx1 hx2 hx=>by
       by_cases e3:i=x
       ·subst e3
        rw[Array.getElem?_setIfInBounds_self_of_lt (by simpa using hlt)]at hx
        obtain rfl:=Option.some.inj hx
        rw[upd_same,Deaf_own]
        exact hq'
       ·rw[Array.getElem?_setIfInBounds_ne e3,Array.getElem?_map]at hx
        obtain⟨z,hz,rfl⟩:=Option.map_eq_some_iff.1 hx
        have hqj:=D.leav x z hx1 hx2 hz
        rw[woken_quitsD hqj,upd_ne q k (Ne.symm e3),Deaf_other t e3 _ aa6]
        exact hqj,fun x hx=>by
       rw[Deaf_other t (g':=i) (by simp at hx;omega) _ aa6]
       exact D.above x (by simpa using hx),htr,D.size⟩
      (fun w1 hw1=>hstep w1 ((OffZ.at w d).trans hw1))
     exact⟨N+1,gs',a'',w'',sl'',t',q',n'',B',by simp only[runNT,hst,hrunT];exact hr,hs'.trans hsz,h0',hS,hB2,D'⟩
end
section
variable {P:Program} {Z:Nat→Prop} {Shun Still:Loc→Prop} {Mem Loose:Nat→Prop} {h j:Nat} {By:Nat→Goroutine→World→Trace→Prop}
theorem evT_evH (hu:Under Shun Z) (hs:Under Still Z) {n B:Nat} (hn:n≤B) {e:Event} (he:EvT Z n e):EvH Shun Still B e:=by
 have h1:=evT_evL hu hn he
 have h2:=evT_evL hs hn he
 refine⟨fun x hx=>⟨fun hst=>?_,fun hsh=>h1.1 x hx hsh⟩,h1.2.1,h1.2.2.1,h1.2.2.2,fun a ha=>?_⟩
 case refine_2=>
  rcases he with⟨a,e1,_⟩|⟨r,e1,_⟩|e1<;>rw[e1]at ha<;>cases ha
 exfalso
 obtain⟨loc,wr,sy⟩:=e
 rcases he with⟨a,e1,e2,_⟩|⟨r,e1,e2,_⟩|e1
 ·simp only at e1;subst e1
  simp only[MemAct.ofEvent,MemAct.touch?]at hx
  obtain rfl:=Option.some.inj hx
  exact e2 (hs.1 _ hst)
 ·simp only at e1;subst e1
  cases wr<;>cases sy<;>simp only[MemAct.ofEvent,MemAct.touch?]at hx<;>first
   | (obtain rfl:=Option.some.inj hx
      exact e2 (hs.2 _ hst))
   | (cases hx;done)
 ·simp only at e1;subst e1
  simp[MemAct.ofEvent,MemAct.touch?]at hx
def ComesTo (P:Program) (gs:Array Goroutine) (w:World) (sl:Option (Nat×Nat)) (t:Trace) (Q:Array Goroutine→World→Trace→Prop):Prop:=
 ∃N gs' w' sl' t',runNT P N (crowd gs w sl) t=(.next (crowd gs' w' sl'),t')∧gs'.size=gs.size∧Q gs' w' t'
theorem ComesTo.now {gs:Array Goroutine} {w:World} {sl:Option (Nat×Nat)} {t:Trace} {Q:Array Goroutine→World→Trace→Prop} (hq:Q gs w t):ComesTo P gs w sl t Q:=⟨0,gs,w,sl,t,rfl,rfl,hq⟩
theorem ComesTo.bind {gs:Array Goroutine} {w:World} {sl:Option (Nat×Nat)} {t:Trace} {Q Q':Array Goroutine→World→Trace→Prop} (hq:ComesTo P gs w sl t Q) (hk:∀gs' w' sl' t',gs'.size=gs.size→Q gs' w' t'→ComesTo P gs' w' sl' t' Q'):ComesTo P gs w sl t Q':=by
 obtain⟨N,gs1,w1,sl1,t1,hr,hs,h1⟩:=hq
 obtain⟨N2,gs2,w2,sl2,t2,hr2,hs2,h2⟩:=hk gs1 w1 sl1 t1 hs h1
 refine⟨N+N2,gs2,w2,sl2,t2,?_,hs2.trans hs,h2⟩
 rw[runNT_add,hr];exact hr2
theorem ComesTo.mono {gs:Array Goroutine} {w:World} {sl:Option (Nat×Nat)} {t:Trace} {Q Q':Array Goroutine→World→Trace→Prop} (hq:ComesTo P gs w sl t Q) (hk:∀gs' w' t',Q gs' w' t'→Q' gs' w' t'):ComesTo P gs w sl t Q':=by
 obtain⟨N,gs1,w1,sl1,t1,hr,hs,h1⟩:=hq
 exact⟨N,gs1,w1,sl1,t1,hr,hs,hk _ _ _ h1⟩
end
/-! ### a seat -/
def EvR (Still:Loc→Prop) (e:Event):Prop:=∃a,e=⟨.cell a,false,false⟩∧Still (.cell a)
def SeatWalk (P:Program) (main:Bool) (K:World→Prop) (Still:Loc→Prop) (cases:Array CommCase) (shape:CommShape) (home:Goroutine→Prop):Nat→Goroutine→Prop
 | 0,g=>∃g₂ es,home g₂∧g₂.status=.running∧(∀e∈es,EvR Still e)∧∀w,K w→stepG P main g w=.comm g₂ cases true shape w es
 | k+1,g=>∃g' es,(g'.status=.running)∧(∀e∈es,EvR Still e)∧(∀w,K w→stepG P main g w=.go g' w es)∧SeatWalk P main K Still cases shape home k g'
structure Leans (Z:Nat→Prop) (Still:Loc→Prop) (K:World→Prop):Prop where
 keep:∀w w',KeepZ Z w w'→K w→K w'
 still:∀w a,K w→Still (.cell a)→a.block<w.heap.size
structure Lasts (Shun Still:Loc→Prop) (j:Nat) (TT:Trace→Prop):Prop where
 calm:∀t u,TT t→Meek Shun Still j u→TT (t++u)
 reads:∀t u,TT t→(∀op∈u,∀b,op.act.touch?=some b→b.write=false∧Still b.loc)→TT (t++u)
def SeatBy (P:Program) (main:Bool) (K K1:World→Prop) (TT:Trace→Prop) (Still:Loc→Prop) (cases:Array CommCase) (shape:CommShape) (home:Goroutine→Prop) (n:Nat) (g:Goroutine) (w:World) (t:Trace):Prop:=
 (K1 w∧TT t)∧(∀cc∈cases,OpenIn w cc)∧((n=0∧∃g₂,g=parked g₂ cases shape∧home g₂∧g₂.status=.running)∨(∃k,n=k+1∧g.status=.running∧SeatWalk P main K Still cases shape home k g))
section
variable {P:Program} {Z:Nat→Prop} {Shun Still:Loc→Prop} {Mem Loose:Nat→Prop} {h j:Nat} {K K1:World→Prop} {TT:Trace→Prop} {cases:Array CommCase} {shape:CommShape} {home:Goroutine→Prop}
theorem openIn_keep {w w':World} (hz:∀cc∈cases,∀c z,cc=rcase c z→Z c) (hk:KeepZ Z w w') (ho:∀cc∈cases,OpenIn w cc):∀cc∈cases,OpenIn w' cc:=fun cc hcc=>by
 obtain⟨c,z,k,e,hc⟩:=ho cc hcc
 exact⟨c,z,k,e,by rw[hk c (hz cc hcc c z e)];exact hc⟩
theorem ak8 {B i:Nat} {fn:FuncId} {pos:String} {es:Array Event} {w:World} (L:Leans Z Still K) (hK:K w) (hB:w.heap.size≤B) (hes:∀e∈es,EvR Still e):
  (∀op∈MemOp.ofEvents i fn pos es,∀b,op.act.touch?=some b→b.write=false∧Still b.loc)∧(∀t,Deaf (t++MemOp.ofEvents i fn pos es) i=Deaf t i)∧(∀op∈MemOp.ofEvents i fn pos es,op.act.low B):=by
 refine⟨fun op hop b hb=>?_,fun t=>?_,fun op hop=>?_⟩
 ·obtain⟨e,he,rfl⟩:=Go.Conc.mem_ofEvents hop
  obtain⟨a,rfl,hs⟩:=hes e he
  simp only[MemAct.ofEvent,MemAct.touch?]at hb
  obtain rfl:=Option.some.inj hb
  exact⟨rfl,hs⟩
 ·rw[Deaf_own]
  exact deafBehind_still (fun e he=>by obtain⟨a,rfl,_⟩:=hes e he;exact⟨by simp,by simp⟩) _
 ·obtain⟨e,he,rfl⟩:=Go.Conc.mem_ofEvents hop
  obtain⟨a,rfl,hs⟩:=hes e he
  have:=L.still w a hK hs
  simp only[MemAct.ofEvent,MemAct.low,Loc.low];omega
theorem seat_by (L:Leans Z Still K1) (hK1:∀w,K1 w→K w) (hT:Lasts Shun Still j TT) (hz:∀cc∈cases,∀c z,cc=rcase c z→Z c) (hM:Mem j) (hL:Loose j):
  ByOk P Z Shun Still (fun B t=>PX Shun Still Mem Loose B h t) j (SeatBy P (j==0) K K1 TT Still cases shape home) where
 status:=by
  rintro n g w t ⟨_,_,⟨rfl,g₂,rfl,_⟩|⟨k,rfl,hs,_⟩⟩
  ·exact .inr (.inl rfl)
  ·exact .inl ⟨hs,by omega⟩
 again:=by
  rintro n g w t ⟨_,ho,⟨rfl,g₂,rfl,_⟩|⟨k,rfl,hs,_⟩⟩ w' hk
  ·refine again_all_open fun cc hcc=>?_
   obtain⟨c,z,k,e,hc⟩:=openIn_keep hz hk ho cc hcc
   exact⟨c,z,0,#[],k,k,false,e,hc⟩
  ·exact again_running _ (.inl hs)
 calm:=by
  rintro n g w t w' u ⟨⟨hK,hTt⟩,ho,hs⟩ hk hu
  exact⟨⟨L.keep w w' hk hK,hT.calm t u hTt hu⟩,openIn_keep hz hk ho,hs⟩
 step:=by
  rintro n g w t B ⟨⟨hK,hTt⟩,ho,⟨rfl,g₂,rfl,_⟩|⟨k,rfl,hs,hw⟩⟩ hrun htr hB d
  ·cases hrun
  ·have hKd:K1 (w.at d):=L.keep w (w.at d) (fun _ _=>rfl) hK
   cases k with
   | zero=>
    obtain⟨g₂,es,hh,hr,hes,hst⟩:=hw
    obtain⟨r1,r2,r3⟩:=ak8 (B:=B) (i:=j) (fn:=g.frame.fn) (pos:=g.frame.place) L hK hB hes
    exact .inr (.inl ⟨0,g₂,cases,shape,es,by omega,hst _ (hK1 _ hKd),ho,htr.appRead hM hL aa6 r1 (r2 t) r3,⟨hKd,hT.reads t _ hTt r1⟩,ho,.inl ⟨rfl,g₂,rfl,hh,hr⟩⟩)
   | succ k=>
    obtain⟨g',es,hr,hes,hst,hw'⟩:=hw
    obtain⟨r1,r2,r3⟩:=ak8 (B:=B) (i:=j) (fn:=g.frame.fn) (pos:=g.frame.place) L hK hB hes
    exact .inl ⟨k+1,g',w.at d,es,by omega,hst _ (hK1 _ hKd),OffZ.at w d,htr.appRead hM hL aa6 r1 (r2 t) r3,⟨hKd,hT.reads t _ hTt r1⟩,ho,.inr ⟨k,rfl,hr,hw'⟩⟩
end
end Go.Fxa
