/- The group's Wait against the child's way out: ac6 it goroutine 0 is beside leavers, and knows all. The slow way of Wait: goroutine 0 sleeps at the semaphore till the child has released it. The join: goroutine 0 waits for the child that it has told to leave. -/
import Derived.Test.YtmhplpfpcnjekaaGreatK06
namespace Go.Fxa
open Go.Conc
open Go.ConcN (sumTo upd sumTo_upd upd_ne upd_same)
def DoneBy (P:Program) (c r:Nat) (pre:Array Value) (ty:TypeId) (sm:Int) (n:Nat) (g:Goroutine) (w:World) (t:Trace):Prop:=
 NoPl c r pre t∧∃m,QuitsD P n (Deaf t c) g∧RunAt r pre ty w 0 sm∧RelM c r pre m t
def Fin0 (P:Program) (r:Nat) (pre:Array Value) (ty:TypeId) (gEnd g:Goroutine):Prop:=
 ∃k1 gE gE' k2 gQ gQ' k3,Sil P (IsRun r pre ty) true k1 g gE∧gE.status=.running∧(∀w,stepG P true gE w=.go gE' w #[enaMark])∧Sil P (IsRun r pre ty) true k2 gE' gQ∧gQ.status=.running∧(∀w,stepG P true gQ w=.go gQ' w #[acqMark (stA r pre)])∧Sil P (IsRun r pre ty) true k3 gQ' gEnd
def Load0 (P:Program) (r:Nat) (pre:Array Value) (ty:TypeId) (gEnd g:Goroutine):Prop:=
 ∃k gL gL0,Sil P (IsRun r pre ty) true k g gL∧gL.status=.running∧(∀w,w.cell? (stA r pre)=some (.int .u64 0)→stepG P true gL w=.go gL0 w #[⟨.cell (stA r pre),false,true⟩])∧Fin0 P r pre ty gEnd gL0
section
variable {P:Program} {Z:Nat→Prop} {Shun Still:Loc→Prop} {Mem Loose:Nat→Prop} {r:Nat} {pre:Array Value} {ty:TypeId} {c:Nat} {o:Outs} {w0:Bool} {sm:Int} {gEnd:Goroutine}
theorem done_by (hZ:Z r) (hW:∀l,OfW r pre l→Shun l∧¬Still l) (hc:c≠0) (hM:¬Mem c):ByOk P Z Shun Still (fun B t=>PX Shun Still Mem Loose B 0 t) c (DoneBy P c r pre ty sm) where
 status:=by
  rintro n g w t ⟨_,m,hq,_⟩
  cases n with
  | zero=>exact .inr (.inr hq.1)
  | succ n=>exact hq.status.elim (fun x=>.inl ⟨x,by omega⟩) fun x=>.inr (.inr x)
 again:=by
  rintro n g w t ⟨_,m,hq,_⟩ w' _
  exact again_running _ hq.status
 calm:=by
  rintro n g w t w' u ⟨hN,m,hq,hr,hm⟩ hk hu
  have hd:Deaf (t++u) c=Deaf t c:=Deaf_quiet fun op hop d=>by
   have hne:=(hu op hop).1
   obtain⟨g,fn,pos,act⟩:=op
   simp only at hne
   cases act with
   | mark mm=>cases mm<;>simp[deafStep,hne]
   | _=>rfl
  exact⟨hN.calm (fun l hl=>(hW l hl).1) hu,m,by rw[hd];exact hq,hr.keep hZ hk,hm.calm hu⟩
 step:=by
  rintro n g w t B ⟨hN,m,hq,hr,hm⟩ hrun htr hB d
  have hc0:(c==0)=false:=by simpa using hc
  rw[hc0]
  cases n with
  | zero=>rw[hq.1]at hrun;cases hrun
  | succ n=>
   rcases hq with⟨hf,_⟩|⟨_,g',es,hmu,hst,hq'⟩
   ·rw[hf]at hrun;cases hrun
   ·refine .inl ⟨n,g',w.at d,es,by omega,hst _,OffZ.at w d,px_mark htr hM (fun e he=>⟨touch_mute (hmu e he),low_mute (hmu e he) B⟩),ah6 hN (fun e he b hb=>by rw[touch_mute (hmu e he)]at hb;cases hb),m,?_,hr.keep hZ (fun _ _=>rfl),relM_mark hm (mute_mark hmu _)⟩
    rw[Deaf_own];exact hq'
def Joined (P:Program) (Z:Nat→Prop) (Shun:Loc→Prop) (B:Nat) (gEnd:Goroutine) (w:World) (gs':Array Goroutine) (w':World) (t':Trace):Prop:=
 ∃(q':Nat→Nat) (B':Nat),gs'[0]?=some gEnd∧OffZ Z w w'∧B≤B'∧Leavers P t' gs' q'∧Past Shun B' t'∧w'.heap.size≤B'
theorem fin0_join (hZ:Z r) (hW:∀l,OfW r pre l→Shun l∧¬Still l) (hc:c≠0) {g:Goroutine} (hF:Fin0 P r pre ty gEnd g) {n B:Nat} {gs:Array Goroutine} {w:World} {sl:Option (Nat×Nat)} {t:Trace} {q:Nat→Nat}
  (h0:gs[0]?=some g) (D:Duo P Shun Still (fun _=>False) (fun g=>g=c) B 0 c (DeafBy 1 (DoneBy P c r pre ty 0)) n gs w t q):ComesTo P gs w sl t (Joined P Z Shun B gEnd w):=by
 obtain⟨k1,gE,gE',k2,gQ,gQ',k3,s1,hE,hena,s2,hQ,hacq,s3⟩:=hF
 have JB:∀δ n b w t,DeafBy δ (DoneBy P c r pre ty 0) n b w t→∀d,IsRun r pre ty (w.at d):=fun δ n b w t h d=>h.1.2.choose_spec.2.1.is d
 have OB:∀δ L,ByOk P Z Shun Still (fun B t=>PX Shun Still (fun _=>False) L B 0 t) c (DeafBy δ (DoneBy P c r pre ty 0)):=fun δ L=>deaf_by hc (done_by hZ hW hc id)
 refine(am6 (JB 1) (OB 1 _) k1 s1 h0 D).bind fun gs1 w1 sl1 t1 hz1 ⟨q1,n1,B1,h1,o1,b1,D1⟩=>?_
 refine go_duo (Mem':=fun _=>False) (Loose':=fun g=>g=c) (OB 1 _) h1 hE D1 (fun _ hg=>hg.elim) fun w2 n2 x2 t2 o2 hB2 hp2 d=>?_
 have hd2:Deaf (t2++MemOp.ofEvents 0 gE.frame.fn gE.frame.place #[enaMark]) 0=0:=by rw[Deaf_own,hB2.2];rfl
 have hsz2:w2.heap.size≤B1:=by rw[o2.size];exact D1.size
 have hby:DoneBy P c r pre ty 0 n2 x2 (w2.at d) (t2++MemOp.ofEvents 0 gE.frame.fn gE.frame.place #[enaMark]):=by
  obtain⟨hN,m,hq,hr,hm⟩:=hB2.1
  refine⟨ah6 hN (fun e he b hb=>by simp at he;subst he;cases hb),m,?_,hr.keep hZ (fun _ _=>rfl),hm.app (fun op hop=>?_) (fun k op b hk hg _=>?_)⟩
  ·rw[Deaf_other t2 (g':=0) (Ne.symm hc) _ aa6];exact hq
  ·obtain⟨e,he,rfl⟩:=Go.Conc.mem_ofEvents hop;simp at he;subst he;simp[enaMark,MemAct.ofEvent]
  ·have:=aa6 op (Array.mem_of_getElem? hk);omega
 refine⟨gE',w2.at d,#[enaMark],B1,hena _,Nat.le_refl _,hsz2,hp2.appMute aa6 (fun op hop=>by obtain⟨e,he,rfl⟩:=Go.Conc.mem_ofEvents hop;simp at he;subst he;rfl) (fun x=>x.elim) (fun op hop=>by obtain⟨e,he,rfl⟩:=Go.Conc.mem_ofEvents hop;simp at he;subst he;trivial),
  DeafBy 0 (DoneBy P c r pre ty 0),n2,⟨?_,hd2⟩,fun gs3 q3 n3 hz3 h3 D3 sl3=>?_⟩
 ·have hst:=(done_by (P:=P) (Z:=Z) (Shun:=Shun) (Still:=Still) (Mem:=fun _=>False) (Loose:=fun g=>g=c) (ty:=ty) (sm:=0) hZ hW hc id).again hB2.1 (w2.at d) (fun _ _=>rfl)
  rw[woken_of_again hst];exact hby
 refine(am6 (JB 0) (OB 0 _) k2 s2 h3 D3).bind fun gs4 w4 sl4 t4 hz4 ⟨q4,n4,B4,h4,o4,b4,D4⟩=>?_
 refine go_duo (Mem':=fun _=>False) (Loose':=fun g=>g=c∧g≠c) (OB 0 _) h4 hQ D4 (fun _ hg=>hg.elim) fun w5 n5 x5 t5 o5 hB5 hp5 d5=>?_
 obtain⟨⟨hN5,m,hq5,hr5,hm5⟩,hd5⟩:=hB5
 have hsz5:w5.heap.size≤B4:=by rw[o5.size];exact D4.size
 have hrB:(stA r pre).block<B4:=by have:=hr5.lt;show r<B4;omega
 have hops:MemOp.ofEvents 0 gQ.frame.fn gQ.frame.place #[acqMark (stA r pre)]=#[{ g:=0,fn:=gQ.frame.fn,pos:=gQ.frame.place,act:=.mark (.acquire (stA r pre)) }]:=by
  rw[ofEvents_eq];simp[acqMark,MemAct.ofEvent]
 obtain⟨op,hop,hog,hoa⟩:=hm5.at_
 have hpx:=hp5.acquire (a:=stA r pre) hd5 hop hog hoa hm5.heard (fun i b hi hgi _ _ _=>by
  rcases Nat.lt_or_ge i m with hlt|hge
  ·exact .inl hlt
  ·obtain⟨x1,x2,x3⟩:=hm5.after i b hge hi hgi
   exact .inr ⟨(hW _ x1).1,x2,x3⟩) hm5.norel gQ.frame.fn gQ.frame.place hrB
 have hby5:DoneBy P c r pre ty 0 n5 x5 (w5.at d5) (t5++MemOp.ofEvents 0 gQ.frame.fn gQ.frame.place #[acqMark (stA r pre)]):=by
  refine⟨ah6 hN5 (fun e he b hb=>by simp at he;subst he;cases hb),m,?_,hr5.keep hZ (fun _ _=>rfl),hm5.app (fun op hop=>?_) (fun k op b hk hg _=>?_)⟩
  ·rw[Deaf_other t5 (g':=0) (Ne.symm hc) _ aa6];exact hq5
  ·obtain⟨e,he,rfl⟩:=Go.Conc.mem_ofEvents hop;simp at he;subst he;simp[acqMark,MemAct.ofEvent]
  ·have:=aa6 op (Array.mem_of_getElem? hk);omega
 have hst5:=(done_by (P:=P) (Z:=Z) (Shun:=Shun) (Still:=Still) (Mem:=fun _=>False) (Loose:=fun g=>g=c) (ty:=ty) (sm:=0) hZ hW hc id).again ⟨hN5,m,hq5,hr5,hm5⟩ (w5.at d5) (fun _ _=>rfl)
 refine⟨gQ',w5.at d5,#[acqMark (stA r pre)],B4,hacq _,Nat.le_refl _,hsz5,by rw[hops];exact hpx,DeafBy 0 (DoneBy P c r pre ty 0),n5,⟨by rw[woken_of_again hst5];exact hby5,by rw[Deaf_own,hd5];rfl⟩,fun gs6 q6 n6 hz6 h6 D6 sl6=>?_⟩
 refine(am6 (JB 0) (OB 0 _) k3 s3 h6 D6).mono fun gs7 w7 t7 ⟨q7,n7,B7,h7,o7,b7,D7⟩=>?_
 obtain⟨b,hb,⟨hN7,m7,hq7,hr7,hm7⟩,hd7⟩:=D7.idle
 refine⟨upd q7 c n7,B7,h7,o1.trans (o2.trans ((OffZ.at w2 d).trans (o4.trans (o5.trans ((OffZ.at w5 d5).trans o7))))),by omega,⟨fun i g hi hg=>?_,D7.above⟩,D7.tr.toPast hd7 (fun g hg=>hg.2 hg.1),D7.size⟩
 by_cases e:i=c
 ·subst e
  rw[hb]at hg
  obtain rfl:=Option.some.inj hg
  rw[upd_same];exact hq7
 ·rw[upd_ne q7 n7 e];exact D7.leav i g (by omega) e hg
theorem atom_evH {B:Nat} (hW:∀l,OfW r pre l→Shun l∧¬Still l) (hr:r<B) {a:Addr} (ha:OfW r pre (.cell a)) (hb:a.block=r) (wr:Bool):EvH Shun Still B ⟨.cell a,wr,true⟩:=by
 refine⟨fun x hx=>?_,by simp,by simp,?_,by simp⟩
 ·obtain rfl:=Option.some.inj hx
  exact⟨fun hs=>((hW _ ha).2 hs).elim,fun _=>by simp⟩
 ·show a.block<B;omega
theorem load0_join (hZ:Z r) (hW:∀l,OfW r pre l→Shun l∧¬Still l) (hc:c≠0) {g:Goroutine} (hF:Load0 P r pre ty gEnd g) {n B:Nat} {gs:Array Goroutine} {w:World} {sl:Option (Nat×Nat)} {t:Trace} {q:Nat→Nat}
  (h0:gs[0]?=some g) (D:Duo P Shun Still (fun _=>False) (fun g=>g=c) B 0 c (DeafBy 1 (DoneBy P c r pre ty 0)) n gs w t q):ComesTo P gs w sl t (Joined P Z Shun B gEnd w):=by
 obtain⟨k,gL,gL0,s1,hL,hload,hF0⟩:=hF
 have JB:∀δ n b w t,DeafBy δ (DoneBy P c r pre ty 0) n b w t→∀d,IsRun r pre ty (w.at d):=fun δ n b w t h d=>h.1.2.choose_spec.2.1.is d
 have OB:∀δ,ByOk P Z Shun Still (fun B t=>PX Shun Still (fun _=>False) (fun g=>g=c) B 0 t) c (DeafBy δ (DoneBy P c r pre ty 0)):=fun δ=>deaf_by hc (done_by hZ hW hc id)
 refine(am6 (JB 1) (OB 1) k s1 h0 D).bind fun gs1 w1 sl1 t1 hz1 ⟨q1,n1,B1,h1,o1,b1,D1⟩=>?_
 refine go_duo (Mem':=fun _=>False) (Loose':=fun g=>g=c) (OB 1) h1 hL D1 (fun _ hg=>hg.elim) fun w2 n2 x2 t2 o2 hB2 hp2 d=>?_
 have hr2:RunAt r pre ty w2 0 0:=hB2.1.2.choose_spec.2.1
 have hsz2:w2.heap.size≤B1:=by rw[o2.size];exact D1.size
 have hrB:r<B1:=by have:=hr2.lt;omega
 have hev:∀e∈#[(⟨.cell (stA r pre),false,true⟩:Event)],EvH Shun Still B1 e:=by
  intro e he
  simp at he;subst he
  exact atom_evH hW hrB (.inl rfl) rfl false
 refine⟨gL0,w2.at d,_,B1,hload _ (hr2.keep hZ (fun _ _=>rfl)).cellSt,Nat.le_refl _,hsz2,hp2.own hev,DeafBy 1 (DoneBy P c r pre ty 0),n2,?_,fun gs3 q3 n3 hz3 h3 D3 sl3=>?_⟩
 ·rw[woken_of_again ((OB 1).again hB2 (w2.at d) (fun _ _=>rfl))]
  exact(OB 1).calm (w2.at d) _ hB2 (fun _ _=>rfl) (ai1 (Ne.symm hc) hev)
 ·refine(fin0_join hZ hW hc hF0 h3 D3).mono fun gs' w' t' ⟨q',B',j1,j2,j3,j4⟩=>⟨q',B',j1,o1.trans (o2.trans ((OffZ.at w2 d).trans j2)),by omega,j4⟩
end
def wrMark (a:Addr):Event:=⟨.mark (.write a),false,true⟩
section
variable {P:Program} {Z:Nat→Prop} {Shun Still:Loc→Prop} {Mem Loose:Nat→Prop} {r:Nat} {pre:Array Value} {ty:TypeId} {c:Nat} {o:Outs} {K:World→Prop} {cC:Array CommCase} {home:Goroutine→Prop} {kq cq kR:Nat} {zq:Value}
theorem offersAt_none {g:Goroutine} (h:g.status≠.blocked∨g.offers=none) (x:Nat) (b:Bool):offersAt g x b=[]:=by
 rcases h with h|h
 ·exact offersAt_of_not_blocked h _ _
 ·unfold offersAt;rw[h];cases g.status<;>rfl
theorem partners_free' {gs:Array Goroutine} {i x:Nat} {send:Bool} (hb:∀k g,k≠i→gs[k]?=some g→g.status≠.blocked∨g.offers=none):partners (gs.setIfInBounds i ph) x send=[]:=by
 refine partners_nil fun k g hk=>?_
 rcases getElem?_stand gs i k g hk with⟨rfl,rfl⟩|⟨hne,hk'⟩
 ·exact offersAt_ph _ _
 ·exact offersAt_none (hb k g hne hk') _ _
theorem sil_step {g g':Goroutine} {k:Nat} (h:Sil P (IsRun r pre ty) false (k+1) g g') {w:World} (hJ:IsRun r pre ty w):∃g1,stepG P false g w=.go g1 w #[]:=by
 obtain⟨_,g1,h1,_⟩:=h
 exact⟨g1,h1 w hJ⟩
theorem raised_by (O:OutsOk P r pre ty o) (hZ:Z r) {n:Nat} {g g':Goroutine} {w w':World} {t:Trace} {d:Nat} {es:Array Event} {st st':Int} (L:Leans Z Still K) (h:CloseBy P c r pre ty o K Still cC home kq cq zq kR true n g w t)
  (h0:RunAt r pre ty w st 0) (hs:stepG P false g (w.at d)=.go g' w' es) (h1:RunAt r pre ty w' st' 1):mayWake P g=true∧g'.status=.running:=by
 have keep0:KeepZ Z w (w.at d):=fun _ _=>rfl
 have same:∀{es':Array Event} {g1:Goroutine},stepG P false g (w.at d)=.go g1 (w.at d) es'→False:=by
  intro es' g1 he
  rw[he]at hs
  injection hs with _ hw _
  subst hw
  exact absurd ((h0.keep hZ keep0).eq h1).2 (by decide)
 have setst:∀{es':Array Event} {g1:Goroutine} {x:Int},stepG P false g (w.at d)=.go g1 ((w.at d).setCell (stA r pre) (.int .u64 x)) es'→False:=by
  intro es' g1 x he
  rw[he]at hs
  injection hs with _ hw _
  subst hw
  exact absurd (((h0.keep hZ keep0).setSt x).eq h1).2 (by decide)
 rcases h with⟨k,_,_,h3,_,_,_,_,_,h9⟩|⟨_,⟨k,rfl,hsl,hr,_⟩|⟨m,k,rfl,hsl,hr,_,_⟩|⟨m,k,rfl,hsl,hr,_,_⟩|⟨hw,_⟩|⟨_,m,k,rfl,hsl,hr,_,_⟩|⟨_,m,k,rfl,hsl,hr,_,_⟩|⟨_,m,_,hr,_⟩⟩
 ·have hKd:K (w.at d):=L.keep w (w.at d) keep0 h3
  cases k with
  | zero=>obtain⟨g₂,es',_,_,_,hco⟩:=h9;rw[hco _ hKd]at hs;cases hs
  | succ k=>obtain⟨g1,es',_,_,hgo,_⟩:=h9;exact(same (hgo _ hKd)).elim
 ·cases k with
  | zero=>obtain rfl:g=o.gR:=hsl;exact(same (O.rel _)).elim
  | succ k=>obtain⟨g1,e⟩:=sil_step hsl (hr.is d);exact(same e).elim
 ·cases k with
  | zero=>obtain rfl:g=o.gD:=hsl;exact(same (O.dis _)).elim
  | succ k=>obtain⟨g1,e⟩:=sil_step hsl (hr.is d);exact(same e).elim
 ·cases k with
  | zero=>
   obtain rfl:g=o.gA:=hsl
   have hrd:=hr.keep hZ keep0
   simp only[if_true]at hrd
   exact(setst (O.add1 _ hrd.cellSt hrd.thawSt)).elim
  | succ k=>obtain⟨g1,e⟩:=sil_step hsl (hr.is d);exact(same e).elim
 ·cases hw
 ·cases k with
  | zero=>
   obtain rfl:g=o.gS:=hsl
   have hrd:=hr.keep hZ keep0
   exact(setst (O.sto _ hrd.cellSt hrd.thawSt)).elim
  | succ k=>obtain⟨_,g1,l,_,e,_⟩:=hsl;exact(same (e _ (hr.keep hZ keep0))).elim
 ·cases k with
  | zero=>
   obtain rfl:g=o.gP:=hsl
   have hrd:=hr.keep hZ keep0
   have he:=O.sem _ hrd.cellSm hrd.thawSm
   rw[he]at hs
   injection hs with hg _ _
   subst hg
   exact O.wake
  | succ k=>obtain⟨g1,e⟩:=sil_step hsl (hr.is d);exact(same e).elim
 ·exact absurd (h0.eq hr).2 (by decide)
theorem child_runs (O:OutsOk P r pre ty o) {n:Nat} {g:Goroutine} {w:World} {t:Trace} {st:Int} (h:CloseBy P c r pre ty o K Still cC home kq cq zq kR true n g w t) (h0:RunAt r pre ty w st 0):g.status=.running:=by
 rcases h with⟨k,_,_,_,_,_,_,_,h8,_⟩|⟨_,⟨k,rfl,hs,_⟩|⟨m,k,rfl,hs,_⟩|⟨m,k,rfl,hs,_⟩|⟨hw,_⟩|⟨_,m,k,rfl,hs,_⟩|⟨_,m,k,rfl,hs,_⟩|⟨_,m,_,hr,_⟩⟩
 ·exact h8
 ·exact hs.status O.runs.1
 ·exact hs.status O.runs.2.1
 ·exact hs.status O.runs.2.2.1
 ·cases hw
 ·exact hs.status O.runs.2.2.2.1
 ·exact hs.status O.runs.2.2.2.2
 ·exact absurd (h0.eq hr).2 (by decide)
theorem sema_is {n:Nat} {g:Goroutine} {w:World} {t:Trace} (h:CloseBy P c r pre ty o K Still cC home kq cq zq kR true n g w t):(∃st,RunAt r pre ty w st 0)∨DoneBy P c r pre ty 1 n g w t:=by
 rcases h with⟨k,_,_,_,_,h5,_⟩|⟨hN,⟨k,rfl,hs,hr,_⟩|⟨m,k,rfl,hs,hr,_⟩|⟨m,k,rfl,hs,hr,_⟩|⟨hw,_⟩|⟨_,m,k,rfl,hs,hr,_⟩|⟨_,m,k,rfl,hs,hr,_⟩|⟨_,m,hq,hr,hm⟩⟩
 ·exact .inl ⟨_,h5⟩
 ·exact .inl ⟨_,hr⟩
 ·exact .inl ⟨_,hr⟩
 ·exact .inl ⟨_,hr⟩
 ·cases hw
 ·exact .inl ⟨_,hr⟩
 ·exact .inl ⟨_,hr⟩
 ·exact .inr ⟨hN,m,hq,hr,hm⟩
theorem sem_evs {B:Nat} (hW:∀l,OfW r pre l→Shun l∧¬Still l) (hr:r<B) {t:Trace} (H:PX Shun Still (fun _=>False) Loose B 0 t) (fn:FuncId) (pos:String):PX Shun Still (fun _=>False) Loose B 0 (t++MemOp.ofEvents 0 fn pos (semEvents (smA r pre))):=by
 refine H.appH aa6 (fun op hop b hb=>?_) (fun x=>x.elim) (fun op hop=>?_)
 ·obtain⟨e,he,rfl⟩:=Go.Conc.mem_ofEvents hop
  simp only[semEvents,List.mem_toArray,List.mem_cons,List.not_mem_nil,or_false]at he
  rcases he with rfl|rfl|rfl|rfl
  ·cases hb
  ·obtain rfl:=Option.some.inj hb;exact⟨fun _=>rfl,fun _=>by simp⟩
  ·obtain rfl:=Option.some.inj hb;exact⟨fun hs=>((hW _ (.inr rfl)).2 hs).elim,fun _=>by simp⟩
  ·cases hb
 ·obtain⟨e,he,rfl⟩:=Go.Conc.mem_ofEvents hop
  simp only[semEvents,List.mem_toArray,List.mem_cons,List.not_mem_nil,or_false]at he
  rcases he with rfl|rfl|rfl|rfl
  ·trivial
  ·exact hr
  ·exact hr
  ·trivial
set_option maxHeartbeats 2000000 in
theorem sem_wait (O:OutsOk P r pre ty o) (hZ:Z r) (hW:∀l,OfW r pre l→Shun l∧¬Still l) (hc:c≠0) (L:Leans Z Still K) (OC:ByOk P Z Shun Still (fun B t=>PX Shun Still (fun _=>False) (fun g=>g=c) B 0 t) c (CloseBy P c r pre ty o K Still cC home kq cq zq kR true))
  {fr:Frame} {cs:List Frame} {mS':Goroutine} (hhit:∀w,w.cell? (smA r pre)=some (.int .u32 1)→w.frozen? (smA r pre)=false→stepG P true (G fr cs) w=.go mS' (w.setCell (smA r pre) (.int .u32 0)) (semEvents (smA r pre)))
  (hmiss:∀w,w.cell? (smA r pre)=some (.int .u32 0)→stepG P true (G fr cs) w=.go { G fr cs with status:=.blocked } w #[]):
  ∀(X n:Nat) (gs:Array Goroutine) (a:Goroutine) (w:World) (sl:Option (Nat×Nat)) (t:Trace) (q:Nat→Nat) (B:Nat),2*(n+sumTo gs.size q)+(if a.status=.running then 1 else 0)<X→gs[0]?=some a→(a=G fr cs∨(a={ G fr cs with status:=.blocked }∧∃st,RunAt r pre ty w st 0))→
   Duo P Shun Still (fun _=>False) (fun g=>g=c) B 0 c (DeafBy 1 (CloseBy P c r pre ty o K Still cC home kq cq zq kR true)) n gs w t q→
   ComesTo P gs w sl t fun gs' w' t'=>∃q' n',gs'[0]?=some mS'∧OffZ Z w w'∧Duo P Shun Still (fun _=>False) (fun g=>g=c) B 0 c (DeafBy 1 (DoneBy P c r pre ty 0)) n' gs' w' t' q':=by
 have OD:=deaf_by (δ:=1) hc OC
 intro X
 induction X with
 | zero=>intro n gs a w sl t q B hX;omega
 | succ X ih=>
  intro n gs a w sl t q B hX h0 ha D
  obtain⟨b,hb,hB⟩:=D.idle
  have hcl:c<gs.size:=(Array.getElem?_eq_some_iff.1 hb).1
  have h0l:0<gs.size:=(Array.getElem?_eq_some_iff.1 h0).1
  have hast:a.status=.running∨a.status=.blocked:=by rcases ha with rfl|⟨rfl,_⟩<;>simp[G]
  have haoff:a.offers=none:=by rcases ha with rfl|⟨rfl,_⟩<;>rfl
  have haw:∀g∈gs,awake g:=by
   intro g hg
   obtain⟨i,hi,rfl⟩:=Array.mem_iff_getElem.1 hg
   have hi':=Array.getElem?_eq_getElem hi
   by_cases e1:i=0
   ·subst e1
    rw[h0]at hi';rw[←Option.some.inj hi'];exact awake_of (hast.imp id .inl)
   ·by_cases e2:i=c
    ·subst e2
     rw[hb]at hi';rw[←Option.some.inj hi'];exact awake_of ((OD.status hB).elim (fun x=>.inl x.1) .inr)
    ·exact awake_of ((D.leav i _ e1 e2 hi').status.elim .inl fun x=>.inr (.inr x))
  have hsome:∃(i:Nat) (g:Goroutine),gs[i]?=some g∧g.status=.running:=by
   rcases ha with rfl|⟨rfl,st,hr⟩
   ·exact⟨0,_,h0,rfl⟩
   ·exact⟨c,b,hb,child_runs O hB.1 hr⟩
  obtain⟨i,g,d,sl',hi,hg,hst⟩:=crowd_pick (P:=P) (w:=w) (sl:=sl) haw hsome
  have hlt:i<gs.size:=(Array.getElem?_eq_some_iff.1 hi).1
  have keep0:KeepZ Z w (w.at d):=fun _ _=>rfl
  by_cases e1:i=0
  ·
   subst e1
   obtain rfl:g=a:=by rw[h0]at hi;exact(Option.some.inj hi).symm
   obtain rfl:g=G fr cs:=by
    rcases ha with h|⟨rfl,_⟩
    ·exact h
    ·cases hg
   rcases sema_is hB.1 with⟨st,hr⟩|hdone
   ·
    have hrunT:=runT_crowd_go (P:=P) (sl:=sl') (i:=0) hi (show stepG P (0==0) (G fr cs) (w.at d)=_ from hmiss _ (hr.keep hZ keep0).cellSm)
    have hnw:∀x,woken P (G fr cs) { G fr cs with status:=.blocked } (w.at d) x=x:=fun x=>by unfold woken;simp
    have hmap:(gs.map (woken P (G fr cs) { G fr cs with status:=.blocked } (w.at d)))=gs:=by
     have:woken P (G fr cs) { G fr cs with status:=.blocked } (w.at d)=id:=funext hnw
     rw[this];simp
    rw[hmap]at hrunT
    have hsz:(gs.setIfInBounds 0 { G fr cs with status:=.blocked }).size=gs.size:=by simp
    obtain⟨N,gs',w',sl'',t',hr',hs',q',n',j1,j2,j3⟩:=ih n (gs.setIfInBounds 0 { G fr cs with status:=.blocked }) { G fr cs with status:=.blocked } (w.at d) sl' t q B (by rw[hsz];simp[G]at hX ⊢;omega) (by simp[h0l]) (.inr ⟨rfl,st,hr.keep hZ keep0⟩)
     ⟨D.ne,D.zero,D.mem,⟨b,by rw[Array.getElem?_setIfInBounds_ne (Ne.symm hc)];exact hb,by have:=OD.calm (w.at d) #[] hB keep0 (fun op hop=>by simp at hop);simpa using this⟩,fun x y hx1 hx2 hx=>by
      rw[Array.getElem?_setIfInBounds_ne (Ne.symm hx1)]at hx
      exact D.leav x y hx1 hx2 hx,fun x hx=>D.above x (by simpa using hx),D.tr,D.size⟩
    refine⟨N+1,gs',w',sl'',t',?_,hs'.trans hsz,q',n',j1,(OffZ.at w d).trans j2,j3⟩
    simp only[runNT,hst,hrunT]
    rw[ae3];exact hr'
   ·
    obtain⟨hN,m,hq,hr,hm⟩:=hdone
    have hrd:=hr.keep hZ keep0
    have hrunT:=runT_crowd_go (P:=P) (sl:=sl') (i:=0) hi (show stepG P (0==0) (G fr cs) (w.at d)=_ from hhit _ hrd.cellSm hrd.thawSm)
    have hbw:woken P (G fr cs) mS' ((w.at d).setCell (smA r pre) (.int .u32 0)) b=b:=woken_of_again (again_running _ hq.status)
    have hlow:r<B:=by have:=hr.lt;have:=D.size;omega
    have hoff:=offZ_set (w:=w) (a:=smA r pre) hZ (.int .u32 0) d
    refine⟨1,(gs.map (woken P (G fr cs) mS' ((w.at d).setCell (smA r pre) (.int .u32 0)))).setIfInBounds 0 mS',(w.at d).setCell (smA r pre) (.int .u32 0),sl',t++MemOp.ofEvents 0 (G fr cs).frame.fn (G fr cs).frame.place (semEvents (smA r pre)),by simp only[runNT,hst,hrunT],by simp,q,n,by simp[h0l],hoff,⟨D.ne,D.zero,D.mem,⟨b,by rw[Array.getElem?_setIfInBounds_ne (Ne.symm hc),Array.getElem?_map,hb];simp[hbw],?_,?_⟩,fun x y hx1 hx2 hx=>?_,fun x hx=>?_,sem_evs hW hlow D.tr _ _,by rw[hoff.size];exact D.size⟩⟩
    ·refine⟨hN.app fun op hop x hx hw=>?_,m,?_,hrd.setSm 0,hm.app (fun op hop=>?_) (fun k op x hk hg' _=>?_)⟩
     ·obtain⟨e,he,rfl⟩:=Go.Conc.mem_ofEvents hop
      simp only[semEvents,List.mem_toArray,List.mem_cons,List.not_mem_nil,or_false]at he
      rcases he with rfl|rfl|rfl|rfl
      ·cases hx
      ·obtain rfl:=Option.some.inj hx;simp
      ·obtain rfl:=Option.some.inj hx;simp
      ·cases hx
     ·rw[Deaf_other t (g':=0) (Ne.symm hc) _ aa6];exact hq
     ·obtain⟨e,he,rfl⟩:=Go.Conc.mem_ofEvents hop
      simp only[semEvents,List.mem_toArray,List.mem_cons,List.not_mem_nil,or_false]at he
      rcases he with rfl|rfl|rfl|rfl<;>simp[MemAct.ofEvent]
     ·have:=aa6 op (Array.mem_of_getElem? hk);omega
    ·rw[Deaf_own,hB.2];rfl
    ·rw[Array.getElem?_setIfInBounds_ne (Ne.symm hx1),Array.getElem?_map]at hx
     obtain⟨z,hz,rfl⟩:=Option.map_eq_some_iff.1 hx
     have hqx:=D.leav x z hx1 hx2 hz
     rw[woken_quitsD hqx,Deaf_other t (g':=0) (Ne.symm hx1) _ aa6];exact hqx
    ·rw[Deaf_other t (g':=0) (by simp at hx;omega) _ aa6];exact D.above x (by simpa using hx)
  ·
   have wok:∀(x x':Goroutine) (w':World),woken P x x' w' a=a∨woken P x x' w' a=G fr cs:=by
    intro x x' w'
    rcases ha with rfl|⟨rfl,_⟩
    ·exact .inl (woken_run rfl)
    ·unfold woken
     split
     ·right;rfl
     ·left;rfl
   have hcost:(if a.status=.running then 1 else 0)≤1:=by split<;>omega
   have hcost':∀x:Goroutine,(if x.status=.running then 1 else 0)≤1:=fun x=>by split<;>omega
   by_cases e2:i=c
   ·subst e2
    obtain rfl:g=b:=by rw[hb]at hi;exact(Option.some.inj hi).symm
    have nob:∀k y,k≠i→gs[k]?=some y→y.status≠.blocked∨y.offers=none:=by
     intro k y hk hy
     by_cases e3:k=0
     ·subst e3;rw[h0]at hy;rw[←Option.some.inj hy];exact .inr haoff
     ·have:=(D.leav k y e3 hk hy).status
      rcases this with h1|h1<;>exact .inl (by rw[h1];simp)
    have hi0:(i==0)=false:=by simpa using hc
    rcases OD.step hB hg D.tr D.size d with⟨n',g',w',es,hn,hgo,hoff,htr,hB'⟩|⟨n',g₂,cases,shape,es,hn,hco,hop,htr,hB'⟩|⟨n',g₂,cases,shape,es,k,cx,z,cap,s,rr,tm,hn,hco,hk,hcl',hop,htr,hB'⟩
    ·have hrunT:=runT_crowd_go (P:=P) (sl:=sl') (i:=i) hi hgo
     have hsz:((gs.map (woken P g g' w')).setIfInBounds i g').size=gs.size:=by simp
     obtain⟨N,gs',w'',sl'',t',hr',hs',q',n'',j1,j2,j3⟩:=ih n' ((gs.map (woken P g g' w')).setIfInBounds i g') (woken P g g' w' a) w' sl' (t++MemOp.ofEvents i g.frame.fn g.frame.place es) q B (by rw[hsz];have:=hcost' (woken P g g' w' a);omega)
      (by rw[Array.getElem?_setIfInBounds_ne hc,Array.getElem?_map,h0];rfl) (by
       rcases ha with rfl|⟨rfl,st,hr⟩
       ·exact .inl (woken_run rfl)
       ·rcases sema_is hB'.1 with hr0|hdone
        ·rcases wok g g' w' with e|e
         ·exact .inr ⟨e,hr0⟩
         ·exact .inl e
        ·obtain⟨_,m,_,hr1,_⟩:=hdone
         rw[hi0]at hgo
         obtain⟨hwk,hgr⟩:=raised_by O hZ L hB.1 hr hgo hr1
         refine .inl ?_
         unfold woken
         simp only[hwk,hgr,Bool.true_and]
         rw[if_pos (by decide)]
         rfl)
      ⟨D.ne,D.zero,D.mem,⟨g',by simp[hlt],hB'⟩,fun x y hx1 hx2 hx=>by
       rw[Array.getElem?_setIfInBounds_ne (Ne.symm hx2),Array.getElem?_map]at hx
       obtain⟨z,hz,rfl⟩:=Option.map_eq_some_iff.1 hx
       have hq:=D.leav x z hx1 hx2 hz
       rw[woken_quitsD hq,Deaf_other t (Ne.symm hx2) _ aa6];exact hq,fun x hx=>by
       rw[Deaf_other t (g':=i) (by simp at hx;omega) _ aa6];exact D.above x (by simpa using hx),htr,by rw[hoff.size];exact D.size⟩
     exact⟨N+1,gs',w'',sl'',t',by simp only[runNT,hst,hrunT];exact hr',hs'.trans hsz,q',n'',j1,hoff.trans j2,j3⟩
    ·have hrunT:=crowd_waits (P:=P) (sl:=sl') (i:=i) hi hco (fun cc hcc=>by
      obtain⟨c',z,k,rfl,hc'⟩:=hop cc hcc
      exact ways_recv_none (show(w.at d).heap[c']?=_ from hc') (partners_free' nob))
     have hsz:(gs.setIfInBounds i (parked g₂ cases shape)).size=gs.size:=by simp
     obtain⟨N,gs',w'',sl'',t',hr',hs',q',n'',j1,j2,j3⟩:=ih n' (gs.setIfInBounds i (parked g₂ cases shape)) a (w.at d) sl' (t++MemOp.ofEvents i g.frame.fn g.frame.place es) q B (by rw[hsz];omega)
      (by rw[Array.getElem?_setIfInBounds_ne hc];exact h0) (ha.imp id fun⟨e,st,hr⟩=>⟨e,st,hr.keep hZ keep0⟩)
      ⟨D.ne,D.zero,D.mem,⟨_,by simp[hlt],hB'⟩,fun x y hx1 hx2 hx=>by
       rw[Array.getElem?_setIfInBounds_ne (Ne.symm hx2)]at hx
       rw[Deaf_other t (Ne.symm hx2) _ aa6];exact D.leav x y hx1 hx2 hx,fun x hx=>by
       rw[Deaf_other t (g':=i) (by simp at hx;omega) _ aa6];exact D.above x (by simpa using hx),htr,D.size⟩
     exact⟨N+1,gs',w'',sl'',t',by simp only[runNT,hst,hrunT];exact hr',hs'.trans hsz,q',n'',j1,(OffZ.at w d).trans j2,j3⟩
    ·have hrunT:=crowd_sel_recv_closed (P:=P) (sl:=sl') (i:=i) hi hco hk (fun m cc hm hcc=>by
      obtain⟨c',z',k',rfl,hc'⟩:=hop m cc hm hcc
      exact ways_recv_none (show(w.at d).heap[c']?=_ from hc') (partners_free' nob)) (show(w.at d).heap[cx]?=_ from hcl') (partners_free' nob)
     have hsz:(gs.setIfInBounds i (Conc.served g₂ (commResult cases shape k z false))).size=gs.size:=by simp
     have hg1:∀op∈MemOp.ofEvents i g.frame.fn g.frame.place es++#[{ g:=i,fn:=g₂.frame.fn,pos:=g₂.frame.place,act:=.recvClosed cx }],op.g=i:=by
      intro op hop
      rcases Array.mem_append.1 hop with hop|hop
      ·exact aa6 op hop
      ·simp at hop;subst hop;rfl
     obtain⟨N,gs',w'',sl'',t',hr',hs',q',n'',j1,j2,j3⟩:=ih n' (gs.setIfInBounds i (Conc.served g₂ (commResult cases shape k z false))) a (w.at d) sl' (t++(MemOp.ofEvents i g.frame.fn g.frame.place es++#[{ g:=i,fn:=g₂.frame.fn,pos:=g₂.frame.place,act:=.recvClosed cx }])) q B (by rw[hsz];omega)
      (by rw[Array.getElem?_setIfInBounds_ne hc];exact h0) (ha.imp id fun⟨e,st,hr⟩=>⟨e,st,hr.keep hZ keep0⟩)
      ⟨D.ne,D.zero,D.mem,⟨_,by simp[hlt],hB'⟩,fun x y hx1 hx2 hx=>by
       rw[Array.getElem?_setIfInBounds_ne (Ne.symm hx2)]at hx
       rw[Deaf_other t (Ne.symm hx2) _ hg1];exact D.leav x y hx1 hx2 hx,fun x hx=>by
       rw[Deaf_other t (g':=i) (by simp at hx;omega) _ hg1];exact D.above x (by simpa using hx),htr,D.size⟩
     exact⟨N+1,gs',w'',sl'',t',by simp only[runNT,hst,hrunT];exact hr',hs'.trans hsz,q',n'',j1,(OffZ.at w d).trans j2,j3⟩
   ·have hq:=D.leav i g e1 e2 hi
    have hi0:(i==0)=false:=by simp;omega
    cases hqi:q i with
    | zero=>rw[hqi]at hq;rw[hq.1]at hg;cases hg
    | succ k=>
     rw[hqi]at hq
     rcases hq with⟨hf,_⟩|⟨_,g',es,hm,hstp,hq'⟩
     ·rw[hf]at hg;cases hg
     have hrunT:=runT_crowd_go (P:=P) (sl:=sl') (i:=i) hi (by rw[hi0];exact hstp (w.at d))
     have hsz:((gs.map (woken P g g' (w.at d))).setIfInBounds i g').size=gs.size:=by simp
     have hsum:sumTo gs.size (upd q i k)+(k+1)=sumTo gs.size q+k:=by
      have:=sumTo_upd q k id hlt
      simpa [hqi]using this
     have hmute:∀op∈MemOp.ofEvents i g.frame.fn g.frame.place es,op.act.touch?=none:=fun op hop=>by obtain⟨e,he,rfl⟩:=Go.Conc.mem_ofEvents hop;exact touch_mute (hm e he)
     obtain⟨N,gs',w'',sl'',t',hr',hs',q',n'',j1,j2,j3⟩:=ih n ((gs.map (woken P g g' (w.at d))).setIfInBounds i g') (woken P g g' (w.at d) a) (w.at d) sl' (t++MemOp.ofEvents i g.frame.fn g.frame.place es) (upd q i k) B (by rw[hsz];have:=hcost' (woken P g g' (w.at d) a);omega)
      (by rw[Array.getElem?_setIfInBounds_ne e1,Array.getElem?_map,h0];rfl) (by
       rcases ha with rfl|⟨rfl,st,hr⟩
       ·exact .inl (woken_run rfl)
       ·rcases wok g g' (w.at d)with e|e
        ·exact .inr ⟨e,st,hr.keep hZ keep0⟩
        ·exact .inl e)
      ⟨D.ne,D.zero,D.mem,⟨b,by
       rw[Array.getElem?_setIfInBounds_ne e2,Array.getElem?_map,hb]
       simp only[Option.map_some,Option.some.injEq]
       exact woken_of_again (OD.again hB (w.at d) keep0),OD.calm (w.at d) _ hB keep0 (meek_mute e2 e1 hm)⟩,fun x y hx1 hx2 hx=>by
       by_cases e3:i=x
       ·subst e3
        rw[Array.getElem?_setIfInBounds_self_of_lt (by simpa using hlt)]at hx
        obtain rfl:=Option.some.inj hx
        rw[upd_same,Deaf_own]
        exact hq'
       ·rw[Array.getElem?_setIfInBounds_ne e3,Array.getElem?_map]at hx
        obtain⟨z,hz,rfl⟩:=Option.map_eq_some_iff.1 hx
        have hqj:=D.leav x z hx1 hx2 hz
        rw[woken_quitsD hqj,upd_ne q k (Ne.symm e3),Deaf_other t e3 _ aa6]
        exact hqj,fun x hx=>by
       rw[Deaf_other t (g':=i) (by simp at hx;omega) _ aa6]
       exact D.above x (by simpa using hx),D.tr.appMute aa6 hmute (fun x=>x.elim) (fun op hop=>by obtain⟨e,he,rfl⟩:=Go.Conc.mem_ofEvents hop;exact low_mute (hm e he) B),D.size⟩
     exact⟨N+1,gs',w'',sl'',t',by simp only[runNT,hst,hrunT];exact hr',hs'.trans hsz,q',n'',j1,(OffZ.at w d).trans j2,j3⟩
end
structure Wts where
 mD:Goroutine
 mD':Goroutine
 mL:Goroutine
 mL0:Goroutine
 mLK:Goroutine
 mC:Goroutine
 mC1:Goroutine
 mC0:Goroutine
 mW:Goroutine
 mW':Goroutine
 fr:Frame
 cs:List Frame
 mS':Goroutine
 k0:Nat
 k1:Nat
 k2:Nat
 k3:Nat
 k4:Nat
structure WaitOk (P:Program) (r:Nat) (pre:Array Value) (ty:TypeId) (g0 gEnd:Goroutine) (x:Wts):Prop where
 runs:x.mD.status=.running∧x.mL.status=.running∧x.mC.status=.running∧x.mW.status=.running
 s0:Sil P (IsRun r pre ty) true x.k0 g0 x.mD
 dis:∀w,stepG P true x.mD w=.go x.mD' w #[ao8]
 s1:Sil P (IsRun r pre ty) true x.k1 x.mD' x.mL
 load0:∀w,w.cell? (stA r pre)=some (.int .u64 0)→stepG P true x.mL w=.go x.mL0 w #[⟨.cell (stA r pre),false,true⟩]
 fin0:Fin0 P r pre ty gEnd x.mL0
 loadK:∀w,w.cell? (stA r pre)=some (.int .u64 KK)→stepG P true x.mL w=.go x.mLK w #[⟨.cell (stA r pre),false,true⟩]
 s2:Sil P (IsRun r pre ty) true x.k2 x.mLK x.mC
 hit:∀w,w.cell? (stA r pre)=some (.int .u64 KK)→w.frozen? (stA r pre)=false→stepG P true x.mC w=.go x.mC1 (w.setCell (stA r pre) (.int .u64 (KK+1))) (rwEv (stA r pre))
 miss:∀w,w.cell? (stA r pre)=some (.int .u64 0)→w.frozen? (stA r pre)=false→stepG P true x.mC w=.go x.mC0 w #[⟨.cell (stA r pre),false,true⟩]
 lo0:Load0 P r pre ty gEnd x.mC0
 s3:Sil P (IsRun r pre ty) true x.k3 x.mC1 x.mW
 wr:∀w,stepG P true x.mW w=.go x.mW' w #[wrMark (smA r pre)]
 s4:Sil P (IsRun r pre ty) true x.k4 x.mW' (G x.fr x.cs)
 shit:∀w,w.cell? (smA r pre)=some (.int .u32 1)→w.frozen? (smA r pre)=false→stepG P true (G x.fr x.cs) w=.go x.mS' (w.setCell (smA r pre) (.int .u32 0)) (semEvents (smA r pre))
 smiss:∀w,w.cell? (smA r pre)=some (.int .u32 0)→stepG P true (G x.fr x.cs) w=.go { G x.fr x.cs with status:=.blocked } w #[]
 lo1:Load0 P r pre ty gEnd x.mS'
section
variable {P:Program} {Z:Nat→Prop} {Shun Still:Loc→Prop} {Mem Loose:Nat→Prop} {r:Nat} {pre:Array Value} {ty:TypeId} {c:Nat} {o:Outs} {K:World→Prop} {cC:Array CommCase} {home:Goroutine→Prop} {kq cq kR:Nat} {zq:Value}
theorem closeBy_mark (hZ:Z r) (L:Leans Z Still K) (hc:c≠0) {w0:Bool} {n:Nat} {g:Goroutine} {w:World} {t:Trace} {es:Array Event} {fn:FuncId} {pos:String} (d:Nat) (hes:∀e∈es,(MemAct.ofEvent e).touch?=none∧∀a,MemAct.ofEvent e≠.mark (.release a))
  (h:CloseBy P c r pre ty o K Still cC home kq cq zq kR w0 n g w t):CloseBy P c r pre ty o K Still cC home kq cq zq kR w0 n g (w.at d) (t++MemOp.ofEvents 0 fn pos es):=by
 have keep0:KeepZ Z w (w.at d):=fun _ _=>rfl
 have hdf:Deaf (t++MemOp.ofEvents 0 fn pos es) c=Deaf t c:=Deaf_other t (g':=0) (Ne.symm hc) _ aa6
 have hno:NoPl c r pre t→NoPl c r pre (t++MemOp.ofEvents 0 fn pos es):=fun h=>h.app fun op hop b hb _=>by
  obtain⟨e,he,rfl⟩:=Go.Conc.mem_ofEvents hop
  rw[(hes e he).1]at hb;cases hb
 have hrel:∀{m},RelM c r pre m t→RelM c r pre m (t++MemOp.ofEvents 0 fn pos es):=fun h=>h.app (fun op hop=>by
  obtain⟨e,he,rfl⟩:=Go.Conc.mem_ofEvents hop
  exact(hes e he).2 _) fun k op b hk hg _=>by have:=aa6 op (Array.mem_of_getElem? hk);omega
 rcases h with⟨k,h1,h2,h3,h4,h5,h6,h7,h8,h9⟩|⟨hN,hh⟩
 ·refine .inl ⟨k,h1,hno h2,L.keep w _ keep0 h3,h4,h5.keep hZ keep0,by rw[hdf];exact h6,h7.app fun op hop b hb=>?_,h8,h9⟩
  obtain⟨e,he,rfl⟩:=Go.Conc.mem_ofEvents hop
  rw[(hes e he).1]at hb;cases hb
 ·refine .inr ⟨hno hN,?_⟩
  rcases hh with⟨k,a1,a2,a3,a4⟩|⟨m,k,a1,a2,a3,a4,a5⟩|⟨m,k,a1,a2,a3,a4,a5⟩|⟨a0,m,a1,a2,a3⟩|⟨a0,m,k,a1,a2,a3,a4,a5⟩|⟨a0,m,k,a1,a2,a3,a4,a5⟩|⟨a0,m,a1,a2,a3⟩
  ·exact .inl ⟨k,a1,a2,a3.keep hZ keep0,by rw[hdf];exact a4⟩
  ·exact .inr (.inl ⟨m,k,a1,a2,a3.keep hZ keep0,by rw[hdf];exact a4,hrel a5⟩)
  ·exact .inr (.inr (.inl ⟨m,k,a1,a2,a3.keep hZ keep0,by rw[hdf];exact a4,hrel a5⟩))
  ·exact .inr (.inr (.inr (.inl ⟨a0,m,by rw[hdf];exact a1,a2.keep hZ keep0,hrel a3⟩)))
  ·exact .inr (.inr (.inr (.inr (.inl ⟨a0,m,k,a1,a2,a3.keep hZ keep0,by rw[hdf];exact a4,hrel a5⟩))))
  ·exact .inr (.inr (.inr (.inr (.inr (.inl ⟨a0,m,k,a1,a2,a3.keep hZ keep0,by rw[hdf];exact a4,hrel a5⟩)))))
  ·exact .inr (.inr (.inr (.inr (.inr (.inr ⟨a0,m,by rw[hdf];exact a1,a2.keep hZ keep0,hrel a3⟩)))))
theorem state_is {n:Nat} {g:Goroutine} {w:World} {t:Trace} (h:CloseBy P c r pre ty o K Still cC home kq cq zq kR false n g w t):RunAt r pre ty w KK 0∨DoneBy P c r pre ty 0 n g w t:=by
 rcases h with⟨k,_,_,_,_,h5,_⟩|⟨hN,⟨k,rfl,hs,hr,_⟩|⟨m,k,rfl,hs,hr,_⟩|⟨m,k,rfl,hs,hr,_⟩|⟨_,m,hq,hr,hm⟩|⟨hw,_⟩|⟨hw,_⟩|⟨hw,_⟩⟩
 ·exact .inl h5
 ·exact .inl hr
 ·exact .inl hr
 ·exact .inl hr
 ·exact .inr ⟨hN,m,hq,hr,hm⟩
 ·cases hw
 ·cases hw
 ·cases hw
theorem chan_off {w:World} {st sm:Int} (hr:RunAt r pre ty w st sm) {x:Nat} {ob:Obj} (hx:w.heap[x]?=some ob) (hob:∀cells ty at_,ob≠.cells cells ty at_) (v:Value) (d:Nat):((w.at d).setCell (stA r pre) v).heap[x]?=some ob:=by
 have hne:r≠x:=fun e=>by subst e;unfold RunAt at hr;rw[hr]at hx;exact hob _ _ _ (Option.some.inj hx).symm
 simp[World.setCell,World.at,stA,Array.getElem?_modify,hne,hx]
theorem closeBy_up (hc:c≠0) (hW:∀l,OfW r pre l→Shun l∧¬Still l) (hKs:∀w (n:Int) d,K w→K ((w.at d).setCell (stA r pre) (.int .u64 n))) {n:Nat} {g:Goroutine} {w:World} {t:Trace} {fn:FuncId} {pos:String} (d:Nat) (hK0:RunAt r pre ty w KK 0)
  (h:CloseBy P c r pre ty o K Still cC home kq cq zq kR false n g w t):CloseBy P c r pre ty o K Still cC home kq cq zq kR true n g ((w.at d).setCell (stA r pre) (.int .u64 (KK+1))) (t++MemOp.ofEvents 0 fn pos (rwEv (stA r pre))):=by
 have hr':RunAt r pre ty ((w.at d).setCell (stA r pre) (.int .u64 (KK+1))) (if true=true then KK+1 else KK) 0:=RunAt.setSt (w:=w.at d) hK0 _
 have hev:∀op∈MemOp.ofEvents 0 fn pos (rwEv (stA r pre)),op.act.touch?=some ⟨.cell (stA r pre),false,.atomic⟩∨op.act.touch?=some ⟨.cell (stA r pre),true,.atomic⟩:=by
  intro op hop
  obtain⟨e,he,rfl⟩:=Go.Conc.mem_ofEvents hop
  simp only[rwEv,List.mem_toArray,List.mem_cons,List.not_mem_nil,or_false]at he
  rcases he with rfl|rfl
  ·exact .inl rfl
  ·exact .inr rfl
 have hdf:Deaf (t++MemOp.ofEvents 0 fn pos (rwEv (stA r pre))) c=Deaf t c:=Deaf_other t (g':=0) (Ne.symm hc) _ aa6
 have hno:NoPl c r pre t→NoPl c r pre (t++MemOp.ofEvents 0 fn pos (rwEv (stA r pre))):=fun h=>h.app fun op hop b hb _=>by
  rcases hev op hop with e|e<;>(rw[e]at hb;obtain rfl:=Option.some.inj hb;simp)
 have hrel:∀{m},RelM c r pre m t→RelM c r pre m (t++MemOp.ofEvents 0 fn pos (rwEv (stA r pre))):=fun h=>h.app (fun op hop e=>by
  rcases hev op hop with x|x<;>(rw[e]at x;cases x)) fun k op b hk hg _=>by have:=aa6 op (Array.mem_of_getElem? hk);omega
 rcases h with⟨k,h1,h2,h3,⟨s1,⟨k',s2⟩,s3⟩,h5,h6,h7,h8,h9⟩|⟨hN,hh⟩
 ·refine .inl ⟨k,h1,hno h2,hKs _ _ _ h3,⟨s1,⟨k',chan_off hK0 s2 (by simp) _ d⟩,fun m cc hm hcc=>?_⟩,hr',by rw[hdf];exact h6,h7.app fun op hop b hb hs=>?_,h8,h9⟩
  ·obtain⟨c',z',k2,e,h⟩:=s3 m cc hm hcc
   exact⟨c',z',k2,e,chan_off hK0 h (by simp) _ d⟩
  ·rcases hev op hop with e|e<;>(rw[e]at hb;obtain rfl:=Option.some.inj hb)
   ·rfl
   ·exact((hW _ (.inl rfl)).2 hs).elim
 ·refine .inr ⟨hno hN,?_⟩
  rcases hh with⟨k,a1,a2,a3,a4⟩|⟨m,k,a1,a2,a3,a4,a5⟩|⟨m,k,a1,a2,a3,a4,a5⟩|⟨a0,m,a1,a2,a3⟩|⟨a0,_⟩|⟨a0,_⟩|⟨a0,_⟩
  ·exact .inl ⟨k,a1,a2,hr',by rw[hdf];exact a4⟩
  ·exact .inr (.inl ⟨m,k,a1,a2,hr',by rw[hdf];exact a4,hrel a5⟩)
  ·exact .inr (.inr (.inl ⟨m,k,a1,a2,hr',by rw[hdf];exact a4,hrel a5⟩))
  ·exact absurd (hK0.eq a2).1 (by decide)
  ·cases a0
  ·cases a0
  ·cases a0
theorem af7 {B B1:Nat} {gEnd:Goroutine} {w w1:World} {gs':Array Goroutine} {w':World} {t':Trace} (ho:OffZ Z w w1) (hB:B≤B1) (J:Joined P Z Shun B1 gEnd w1 gs' w' t'):Joined P Z Shun B gEnd w gs' w' t':=by
 obtain⟨q',B',j1,j2,j3,j4⟩:=J
 exact⟨q',B',j1,ho.trans j2,Nat.le_trans hB j3,j4⟩
theorem join (O:OutsOk P r pre ty o) {x:Wts} {g0 gEnd:Goroutine} (H:WaitOk P r pre ty g0 gEnd x) (hZ:Z r) (hW:∀l,OfW r pre l→Shun l∧¬Still l) (hc:c≠0) (L:Leans Z Still K) (hzC:∀cc∈cC,∀c z,cc=rcase c z→Z c)
  (hR:∀g₂,home g₂→Sil P (IsRun r pre ty) false kR (Conc.served g₂ (commResult cC .select kq zq false)) o.gR) (hKs:∀w (n:Int) d,K w→K ((w.at d).setCell (stA r pre) (.int .u64 n)))
  {n B:Nat} {gs:Array Goroutine} {w:World} {sl:Option (Nat×Nat)} {t:Trace} {q:Nat→Nat} (h0:gs[0]?=some g0)
  (D:Duo P Shun Still (fun g=>g=0) (fun g=>g=c) B 0 c (CloseBy P c r pre ty o K Still cC home kq cq zq kR false) n gs w t q):ComesTo P gs w sl t (Joined P Z Shun B gEnd w):=by
 have OC:∀w0,ByOk P Z Shun Still (fun B t=>PX Shun Still (fun _=>False) (fun g=>g=c) B 0 t) c (CloseBy P c r pre ty o K Still cC home kq cq zq kR w0):=fun w0=>close_by L hzC O hZ hW hc id rfl hR
 have JC:∀w0 n b w t,CloseBy P c r pre ty o K Still cC home kq cq zq kR w0 n b w t→∀d,IsRun r pre ty (w.at d):=fun w0 n b w t h d=>let ⟨_,_,hr⟩:=close_is h;hr.is d
 have JD:∀w0 n b w t,DeafBy 1 (CloseBy P c r pre ty o K Still cC home kq cq zq kR w0) n b w t→∀d,IsRun r pre ty (w.at d):=fun w0 n b w t h d=>let ⟨_,_,hr⟩:=close_is h.1;hr.is d
 have OD:∀w0,ByOk P Z Shun Still (fun B t=>PX Shun Still (fun _=>False) (fun g=>g=c) B 0 t) c (DeafBy 1 (CloseBy P c r pre ty o K Still cC home kq cq zq kR w0)):=fun w0=>deaf_by hc (OC w0)
 have ON:ByOk P Z Shun Still (fun B t=>PX Shun Still (fun _=>False) (fun g=>g=c) B 0 t) c (DeafBy 1 (DoneBy P c r pre ty 0)):=deaf_by hc (done_by hZ hW hc id)
 refine(am6 (JC false) (close_by (w0:=false) (Mem:=fun g=>g=0) (Loose:=fun g=>g=c) L hzC O hZ hW hc hc rfl hR) x.k0 H.s0 h0 D).bind fun gs1 w1 sl1 t1 hz1 ⟨q1,n1,B1,h1,o1,b1,D1⟩=>?_
 refine ComesTo.mono ?_ fun gs' w' t'=>af7 (B1:=B1) o1 b1
 refine go_duo (Mem':=fun _=>False) (Loose':=fun g=>g=c) (close_by (w0:=false) (Mem:=fun g=>g=0) (Loose:=fun g=>g=c) L hzC O hZ hW hc hc rfl hR) h1 H.runs.1 D1 (fun _ hg=>hg.elim) fun w2 n2 x2 t2 o2 hB2 hp2 d=>?_
 have hsz2:w2.heap.size≤B1:=by rw[o2.size];exact D1.size
 have hmk:∀e∈#[ao8],(MemAct.ofEvent e).touch?=none∧∀a,MemAct.ofEvent e≠.mark (.release a):=by
  intro e he
  simp at he;subst he
  exact⟨rfl,fun a=>by simp[ao8,MemAct.ofEvent]⟩
 refine⟨x.mD',w2.at d,#[ao8],B1,H.dis _,Nat.le_refl _,hsz2,(hp2.fewer (Mem':=fun _=>False) fun _ h=>h.elim).appMute aa6 (fun op hop=>by obtain⟨e,he,rfl⟩:=Go.Conc.mem_ofEvents hop;exact(hmk e he).1) (fun x=>x.elim) (fun op hop=>by obtain⟨e,he,rfl⟩:=Go.Conc.mem_ofEvents hop;simp at he;subst he;trivial),
  DeafBy 1 (CloseBy P c r pre ty o K Still cC home kq cq zq kR false),n2,⟨?_,?_⟩,fun gs3 q3 n3 hz3 h3 D3 sl3=>?_⟩
 ·rw[woken_of_again ((OC false).again hB2 (w2.at d) (fun _ _=>rfl))]
  exact closeBy_mark hZ L hc d hmk hB2
 ·rw[Deaf_own,hp2.hears 0 rfl];rfl
 refine ComesTo.mono ?_ fun gs' w' t'=>af7 (B1:=B1) (o2.trans (OffZ.at w2 d)) (Nat.le_refl _)
 refine(am6 (JD false) (OD false) x.k1 H.s1 h3 D3).bind fun gs4 w4 sl4 t4 hz4 ⟨q4,n4,B4,h4,o4,b4,D4⟩=>?_
 refine ComesTo.mono ?_ fun gs' w' t'=>af7 (B1:=B4) o4 b4
 refine go_duo (Mem':=fun _=>False) (Loose':=fun g=>g=c) (OD false) h4 H.runs.2.1 D4 (fun _ hg=>hg.elim) fun w5 n5 x5 t5 o5 hB5 hp5 d5=>?_
 have hsz5:w5.heap.size≤B4:=by rw[o5.size];exact D4.size
 have rd:∀{w:World} {B:Nat} {st sm:Int},RunAt r pre ty w st sm→w.heap.size≤B→∀e∈#[(⟨.cell (stA r pre),false,true⟩:Event)],EvH Shun Still B e:=by
  intro w B st sm hr hB e he
  simp at he;subst he
  exact atom_evH hW (by have:=hr.lt;omega) (.inl rfl) rfl false
 rcases state_is hB5.1 with hr5|hd5
 rotate_left
 ·obtain⟨hN,m,hq,hr,hm⟩:=hd5
  have hev:=rd hr hsz5
  have hby:DeafBy 1 (DoneBy P c r pre ty 0) n5 x5 w5 t5:=⟨⟨hN,m,hq,hr,hm⟩,hB5.2⟩
  refine⟨x.mL0,w5.at d5,_,B4,H.load0 _ (hr.keep hZ (fun _ _=>rfl)).cellSt,Nat.le_refl _,hsz5,hp5.own hev,DeafBy 1 (DoneBy P c r pre ty 0),n5,?_,fun gs6 q6 n6 hz6 h6 D6 sl6=>?_⟩
  ·rw[woken_of_again (ON.again hby (w5.at d5) (fun _ _=>rfl))]
   exact ON.calm (w5.at d5) _ hby (fun _ _=>rfl) (ai1 (Ne.symm hc) hev)
  ·exact(fin0_join hZ hW hc H.fin0 h6 D6).mono fun gs' w' t'=>af7 (o5.trans (OffZ.at w5 d5)) (Nat.le_refl _)
 have hev5:=rd hr5 hsz5
 refine⟨x.mLK,w5.at d5,_,B4,H.loadK _ (hr5.keep hZ (fun _ _=>rfl)).cellSt,Nat.le_refl _,hsz5,hp5.own hev5,DeafBy 1 (CloseBy P c r pre ty o K Still cC home kq cq zq kR false),n5,?_,fun gs6 q6 n6 hz6 h6 D6 sl6=>?_⟩
 ·rw[woken_of_again ((OD false).again hB5 (w5.at d5) (fun _ _=>rfl))]
  exact(OD false).calm (w5.at d5) _ hB5 (fun _ _=>rfl) (ai1 (Ne.symm hc) hev5)
 refine ComesTo.mono ?_ fun gs' w' t'=>af7 (B1:=B4) (o5.trans (OffZ.at w5 d5)) (Nat.le_refl _)
 refine(am6 (JD false) (OD false) x.k2 H.s2 h6 D6).bind fun gs7 w7 sl7 t7 hz7 ⟨q7,n7,B7,h7,o7,b7,D7⟩=>?_
 refine ComesTo.mono ?_ fun gs' w' t'=>af7 (B1:=B7) o7 b7
 refine go_duo (Mem':=fun _=>False) (Loose':=fun g=>g=c) (OD false) h7 H.runs.2.2.1 D7 (fun _ hg=>hg.elim) fun w8 n8 x8 t8 o8 hB8 hp8 d8=>?_
 have hsz8:w8.heap.size≤B7:=by rw[o8.size];exact D7.size
 rcases state_is hB8.1 with hr8|hd8
 rotate_left
 ·obtain⟨hN,m,hq,hr,hm⟩:=hd8
  have hev:=rd hr hsz8
  have hby:DeafBy 1 (DoneBy P c r pre ty 0) n8 x8 w8 t8:=⟨⟨hN,m,hq,hr,hm⟩,hB8.2⟩
  refine⟨x.mC0,w8.at d8,_,B7,H.miss _ (hr.keep hZ (fun _ _=>rfl)).cellSt (hr.keep hZ (fun _ _=>rfl)).thawSt,Nat.le_refl _,hsz8,hp8.own hev,DeafBy 1 (DoneBy P c r pre ty 0),n8,?_,fun gs9 q9 n9 hz9 h9 D9 sl9=>?_⟩
  ·rw[woken_of_again (ON.again hby (w8.at d8) (fun _ _=>rfl))]
   exact ON.calm (w8.at d8) _ hby (fun _ _=>rfl) (ai1 (Ne.symm hc) hev)
  ·exact(load0_join hZ hW hc H.lo0 h9 D9).mono fun gs' w' t'=>af7 (o8.trans (OffZ.at w8 d8)) (Nat.le_refl _)
 have hrB8:r<B7:=by have:=hr8.lt;omega
 have hev8:∀e∈rwEv (stA r pre),EvH Shun Still B7 e:=by
  intro e he
  simp only[rwEv,List.mem_toArray,List.mem_cons,List.not_mem_nil,or_false]at he
  rcases he with rfl|rfl
  ·exact atom_evH hW hrB8 (.inl rfl) rfl false
  ·exact atom_evH hW hrB8 (.inl rfl) rfl true
 have hr8d:RunAt r pre ty (w8.at d8) KK 0:=hr8.keep hZ (fun _ _=>rfl)
 have off8:OffZ Z w8 ((w8.at d8).setCell (stA r pre) (.int .u64 (KK+1))):=offZ_set (a:=stA r pre) hZ _ d8
 have run8:(x8.status=.running∨x8.status=.finished):=by
  rcases hB8.1 with⟨_,_,_,_,_,_,_,_,hs,_⟩|⟨_,⟨k,_,hs,_⟩|⟨m,k,_,hs,_⟩|⟨m,k,_,hs,_⟩|⟨_,m,hq,_⟩|⟨hw,_⟩|⟨hw,_⟩|⟨hw,_⟩⟩
  ·exact .inl hs
  ·exact .inl (hs.status O.runs.1)
  ·exact .inl (hs.status O.runs.2.1)
  ·exact .inl (hs.status O.runs.2.2.1)
  ·exact hq.status
  ·cases hw
  ·cases hw
  ·cases hw
 refine⟨x.mC1,_,_,B7,H.hit _ hr8d.cellSt hr8d.thawSt,Nat.le_refl _,by rw[off8.size];exact hsz8,hp8.own hev8,DeafBy 1 (CloseBy P c r pre ty o K Still cC home kq cq zq kR true),n8,⟨?_,?_⟩,fun gs9 q9 n9 hz9 h9 D9 sl9=>?_⟩
 ·rw[woken_of_again (again_running _ run8)]
  exact closeBy_up hc hW hKs d8 hr8 hB8.1
 ·rw[Deaf_own,hB8.2];rfl
 refine ComesTo.mono ?_ fun gs' w' t'=>af7 (B1:=B7) (o8.trans off8) (Nat.le_refl _)
 refine(am6 (JD true) (OD true) x.k3 H.s3 h9 D9).bind fun gsa wa sla ta hza ⟨qa,na,Ba,ha,oa,ba,Da⟩=>?_
 refine ComesTo.mono ?_ fun gs' w' t'=>af7 (B1:=Ba) oa ba
 refine go_duo (Mem':=fun _=>False) (Loose':=fun g=>g=c) (OD true) ha H.runs.2.2.2 Da (fun _ hg=>hg.elim) fun wb nb xb tb ob hBb hpb db=>?_
 have hszb:wb.heap.size≤Ba:=by rw[ob.size];exact Da.size
 have hrb:r<Ba:=by
  rcases sema_is hBb.1 with⟨st,h⟩|⟨_,m,_,h,_⟩<;>(have:=h.lt;omega)
 have hevb:∀e∈#[wrMark (smA r pre)],EvH Shun Still Ba e:=by
  intro e he
  simp at he;subst he
  refine⟨fun y hy=>?_,by simp[wrMark],by simp[wrMark],?_,by simp[wrMark]⟩
  ·obtain rfl:=Option.some.inj hy
   exact⟨fun hs=>((hW _ (.inr rfl)).2 hs).elim,fun _=>by simp⟩
  ·exact hrb
 refine⟨x.mW',wb.at db,_,Ba,H.wr _,Nat.le_refl _,hszb,hpb.own hevb,DeafBy 1 (CloseBy P c r pre ty o K Still cC home kq cq zq kR true),nb,?_,fun gsc qc nc hzc hcc Dc slc=>?_⟩
 ·rw[woken_of_again ((OD true).again hBb (wb.at db) (fun _ _=>rfl))]
  exact(OD true).calm (wb.at db) _ hBb (fun _ _=>rfl) (ai1 (Ne.symm hc) hevb)
 refine ComesTo.mono ?_ fun gs' w' t'=>af7 (B1:=Ba) (ob.trans (OffZ.at wb db)) (Nat.le_refl _)
 refine(am6 (JD true) (OD true) x.k4 H.s4 hcc Dc).bind fun gsd wd sld td hzd ⟨qd,nd,Bd,hd,od,bd,Dd⟩=>?_
 refine ComesTo.mono ?_ fun gs' w' t'=>af7 (B1:=Bd) od bd
 refine(sem_wait O hZ hW hc L (OC true) H.shit H.smiss _ nd gsd (G x.fr x.cs) wd sld td qd Bd (Nat.lt_succ_self _) hd (.inl rfl) Dd).bind fun gse we sle te hze ⟨qe,ne,he,oe,De⟩=>?_
 exact(load0_join hZ hW hc H.lo1 he De).mono fun gs' w' t'=>af7 oe (Nat.le_refl _)
end
end Go.Fxa
