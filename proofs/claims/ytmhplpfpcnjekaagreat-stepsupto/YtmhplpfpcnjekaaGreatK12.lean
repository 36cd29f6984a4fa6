/- Where a process goes on: the blocks of one Run, what is leaned on, what stands still. The meetings of goroutine 0 and the child, at this program. Stop: goroutine 0 closes 'quit' and waits; the child sits, or leaves already. The rounds: the child steps, calls, is answered; till its end, or till it has ended. One call, served and answered. -/
import Derived.Test.YtmhplpfpcnjekaaGreatK11
namespace Go.Fxa
open Go.Conc
open Go.ConcN (sumTo upd sumTo_upd upd_ne upd_same)
structure Sit where
 b2:Nat
 b3:Nat
 b5:Nat
 r:Nat
 q0:Nat
 q1:Nat
 q2:Nat
 q3:Nat
 sv:Value
 n:Int
namespace Sit
variable (s:Sit)
def own (x:Nat):Prop:=x=s.b2∨x=s.b3∨x=s.b5∨x=s.r∨x=s.q0∨x=s.q1∨x=s.q2∨x=s.q3
def pre:Array Value:=#[chn s.q0,chn s.q1,chn s.q2,chn s.q3]
def Still (l:Loc):Prop:=l=.cell ⟨s.b5,0,none⟩∨l=.cell ⟨s.b2,0,none⟩∨l=.cell ⟨s.b3,0,none⟩∨l=.cell ⟨s.r,0,none⟩∨l=.cell ⟨s.r,1,none⟩∨l=.cell ⟨s.r,2,none⟩∨l=.cell ⟨s.r,3,none⟩
def cells (w:World):Prop:=w.cell? ⟨s.b5,0,none⟩=some (pr s.r)∧w.cell? ⟨s.b2,0,none⟩=some s.sv∧w.cell? ⟨s.b3,0,none⟩=some (.int .i64 s.n)
def KW (w:World):Prop:=IsRun s.r s.pre 257 w∧s.cells w
def chs (q:Nat):Prop:=q=s.q0∨q=s.q1∨q=s.q2∨q=s.q3
def Open (w:World):Prop:=∀q,s.chs q→∃k,w.heap[q]?=some (.chan 0 #[] false k k false)
def KS (w:World):Prop:=RunAt s.r s.pre 257 w KK 0∧s.cells w∧s.Open w
structure Ok:Prop where
 bq:∀q,s.chs q→q≠s.b2∧q≠s.b3∧q≠s.b5∧q≠s.r
 br:s.b2≠s.r∧s.b3≠s.r∧s.b5≠s.r
 qq:s.q0≠s.q1∧s.q0≠s.q2∧s.q0≠s.q3∧s.q1≠s.q2∧s.q1≠s.q3∧s.q2≠s.q3
end Sit
section
variable {s:Sit} {Z:Nat→Prop} {w w':World}
theorem cell_keep {a:Addr} {v:Value} (h:w.cell? a=some v) (e:w'.heap[a.block]?=w.heap[a.block]?):w'.cell? a=some v:=by
 unfold World.cell? at*
 rw[e];exact h
theorem Sit.KS.weak (h:s.KS w):s.KW w:=⟨⟨_,_,h.1⟩,h.2.1⟩
theorem Sit.cells.keep (h:s.cells w) (e:∀x,(x=s.b5∨x=s.b2∨x=s.b3)→w'.heap[x]?=w.heap[x]?):s.cells w':=
 ⟨cell_keep h.1 (e _ (.inl rfl)),cell_keep h.2.1 (e _ (.inr (.inl rfl))),cell_keep h.2.2 (e _ (.inr (.inr rfl)))⟩
theorem run_cell {st sm:Int} (h:RunAt s.r s.pre 257 w st sm):w.cell? ⟨s.r,0,none⟩=some (chn s.q0)∧w.cell? ⟨s.r,1,none⟩=some (chn s.q1)∧w.cell? ⟨s.r,2,none⟩=some (chn s.q2)∧w.cell? ⟨s.r,3,none⟩=some (chn s.q3):=by
 unfold RunAt at h
 refine⟨?_,?_,?_,?_⟩<;>simp[World.cell?,h,Sit.pre]
theorem cell_lt {a:Addr} {v:Value} (h:w.cell? a=some v):a.block<w.heap.size:=by
 unfold World.cell? at h
 cases e:w.heap[a.block]? with
 | none=>rw[e]at h;simp at h
 | some o=>exact(Array.getElem?_eq_some_iff.1 e).1
theorem still_lt (h:s.KW w) {a:Addr} (hs:s.Still (.cell a)):a.block<w.heap.size:=by
 obtain⟨⟨st,sm,hr⟩,h5,h2,h3⟩:=h
 obtain⟨c0,c1,c2,c3⟩:=run_cell hr
 rcases hs with e|e|e|e|e|e|e<;>(injection e with e;subst e;first|exact cell_lt h5|exact cell_lt h2|exact cell_lt h3|exact cell_lt c0|exact cell_lt c1|exact cell_lt c2|exact cell_lt c3)
theorem leansKS (hZ:∀x,s.own x→Z x):Leans Z s.Still s.KS where
 keep:=fun w w' hk h=>⟨h.1.keep (hZ _ (by simp[Sit.own])) hk,h.2.1.keep fun x hx=>hk x (hZ _ (by rcases hx with e|e|e<;>simp[Sit.own,e])),fun q hq=>by
  obtain⟨k,e⟩:=h.2.2 q hq
  exact⟨k,by rw[hk q (hZ _ (by rcases hq with e|e|e|e<;>simp[Sit.own,e]))];exact e⟩⟩
 still:=fun w a h hs=>still_lt h.weak hs
theorem leansKW (hZ:∀x,s.own x→Z x):Leans Z s.Still s.KW where
 keep:=fun w w' hk h=>by
  obtain⟨⟨st,sm,hr⟩,hc⟩:=h
  exact⟨⟨st,sm,hr.keep (hZ _ (by simp[Sit.own])) hk⟩,hc.keep fun x hx=>hk x (hZ _ (by rcases hx with e|e|e<;>simp[Sit.own,e]))⟩
 still:=fun w a h hs=>still_lt h hs
theorem readOk:ReadOk s.KW s.Still s.b5 s.b2 s.b3 s.r s.q0 s.q1 s.q2 s.q3 s.sv s.n where
 c5:=fun _ h=>h.2.1
 s5:=.inl rfl
 c2:=fun _ h=>h.2.2.1
 s2:=.inr (.inl rfl)
 c3:=fun _ h=>h.2.2.2
 s3:=.inr (.inr (.inl rfl))
 r0:=fun _ h=>let ⟨_,_,hr⟩:=h.1;(run_cell hr).1
 t0:=.inr (.inr (.inr (.inl rfl)))
 r1:=fun _ h=>let ⟨_,_,hr⟩:=h.1;(run_cell hr).2.1
 t1:=.inr (.inr (.inr (.inr (.inl rfl))))
 r2:=fun _ h=>let ⟨_,_,hr⟩:=h.1;(run_cell hr).2.2.1
 t2:=.inr (.inr (.inr (.inr (.inr (.inl rfl)))))
 r3:=fun _ h=>let ⟨_,_,hr⟩:=h.1;(run_cell hr).2.2.2
 t3:=.inr (.inr (.inr (.inr (.inr (.inr rfl)))))
theorem setChan_ne {q x d cap k k':Nat} {buf:Array Value} {cl tm:Bool} (h:q≠x):((w.at d).setChan q cap buf cl k k' tm).heap[x]?=w.heap[x]?:=by
 simp[World.setChan,World.at,Array.getElem?_setIfInBounds_ne h]
theorem Sit.KS.chan (O:s.Ok) {q:Nat} (hq:s.chs q) (h:s.KS w) (d k:Nat):s.KS ((w.at d).setChan q 0 #[] false k k false):=by
 obtain⟨e2,e3,e5,er⟩:=O.bq q hq
 refine⟨?_,h.2.1.keep fun x hx=>?_,fun q' hq'=>?_⟩
 ·unfold RunAt;rw[setChan_ne er];exact h.1
 ·rcases hx with e|e|e<;>subst e
  ·exact setChan_ne e5
  ·exact setChan_ne e2
  ·exact setChan_ne e3
 ·by_cases e:q=q'
  ·subst e
   obtain⟨k0,e0⟩:=h.2.2 q hq
   have:=(Array.getElem?_eq_some_iff.1 e0).1
   exact⟨k,by simp[World.setChan,World.at,this]⟩
  ·obtain⟨k0,e0⟩:=h.2.2 q' hq'
   exact⟨k0,by rw[setChan_ne e];exact e0⟩
theorem Sit.KW.shut (O:s.Ok) (h:s.KW w) (k:Nat):s.KW (w.setChan s.q3 0 #[] true k k false):=by
 obtain⟨e2,e3,e5,er⟩:=O.bq s.q3 (.inr (.inr (.inr rfl)))
 have hne:∀x,s.q3≠x→(w.setChan s.q3 0 #[] true k k false).heap[x]?=w.heap[x]?:=fun x hx=>by simp[World.setChan,Array.getElem?_setIfInBounds_ne hx]
 obtain⟨⟨st,sm,hr⟩,hc⟩:=h
 refine⟨⟨st,sm,by unfold RunAt;rw[hne _ er];exact hr⟩,hc.keep fun x hx=>?_⟩
 rcases hx with e|e|e<;>subst e
 ·exact hne _ e5
 ·exact hne _ e2
 ·exact hne _ e3
theorem Sit.KW.set (O:s.Ok) (h:s.KW w) (m:Int) (d:Nat):s.KW ((w.at d).setCell (stA s.r s.pre) (.int .u64 m)):=by
 obtain⟨⟨st,sm,hr⟩,hc⟩:=h
 have hr':RunAt s.r s.pre 257 (w.at d) st sm:=hr
 refine⟨⟨m,sm,hr'.setSt m⟩,hc.keep fun x hx=>?_⟩
 have:s.r≠x:=by rcases hx with e|e|e<;>subst e<;>first|exact O.br.2.2.symm|exact O.br.1.symm|exact O.br.2.1.symm
 simp[World.setCell,World.at,stA,Array.getElem?_modify,this]
theorem ofW_still {l:Loc} (h:OfW s.r s.pre l):¬s.Still l:=by
 have hp:s.pre.size=4:=rfl
 intro hs
 rcases h with e|e<;>subst e<;>rcases hs with e|e|e|e|e|e|e<;>simp[stA,smA,hp]at e
theorem noPl_lasts {Shun:Loc→Prop} {c j:Nat} (hW:∀l,OfW s.r s.pre l→Shun l∧¬s.Still l):Lasts Shun s.Still j (NoPl c s.r s.pre) where
 calm:=fun _ _ h hu=>h.app fun op hop b hb ho=>((hu op hop).2.1 b hb).2 (hW _ ho).1
 reads:=fun _ _ h hu=>h.app fun op hop b hb ho=>((hW _ ho).2 (hu op hop b hb).2).elim
theorem under_still (hZ:∀x,s.own x→Z x):Under s.Still Z:=by
 refine⟨fun a hs=>?_,fun r hs=>?_⟩
 ·rcases hs with e|e|e|e|e|e|e<;>(injection e with e;subst e;apply hZ;simp[Sit.own])
 ·rcases hs with e|e|e|e|e|e|e<;>cases e
end
/-! ### silent steps, reckoned -/
theorem sil_hush0 {P:Program} {K:World→Prop} {main:Bool} {s:Option (TypeId×Nat)}:∀{n:Nat} {x y:Frame×List Frame},ah7 P s n x=some ([],y)→Sil P K main n (gOf x) (gOf y):=by
 intro n
 induction n with
 | zero=>
  intro x y h
  simp only[ah7,Option.some.injEq,Prod.mk.injEq,true_and]at h
  subst h;exact rfl
 | succ n ih=>
  intro x y h
  simp only[ah7]at h
  split at h
  ·rename_i l1 z hz
   split at h
   ·rename_i l2 z' hz'
    simp only[Option.some.injEq,Prod.mk.injEq,List.append_eq_nil_iff]at h
    obtain⟨⟨rfl,rfl⟩,rfl⟩:=h
    exact⟨rfl,_,fun w _=>hush_step hz (by simp),ih hz'⟩
   ·cases h
  ·cases h
theorem sil_logs {P:Program} {K:World→Prop} {main:Bool} {n:Nat} {x:Frame×List Frame} (h:logs P n x=some []):Sil P K main n (gOf x) (gOf (run P n x)):=by
 unfold Fxa.logs at h
 obtain⟨⟨l,y⟩,hy,rfl⟩:=Option.map_eq_some_iff.1 h
 have e:run P n x=y:=by unfold run;rw[hy]
 rw[e]
 exact sil_hush0 hy
/-! ### beside leavers -/
def Leads (P:Program) (gs:Array Goroutine) (w:World) (sl:Option (Nat×Nat)) (t:Trace) (Q:Array Goroutine→World→Trace→Prop):Prop:=
 ∃N gs' w' sl' t',runNT P N (crowd gs w sl) t=(.next (crowd gs' w' sl'),t')∧Q gs' w' t'
section
variable {P:Program} {gs:Array Goroutine} {w:World} {sl:Option (Nat×Nat)} {t:Trace} {Q Q':Array Goroutine→World→Trace→Prop}
theorem ComesTo.leads (h:ComesTo P gs w sl t Q):Leads P gs w sl t Q:=by
 obtain⟨N,gs1,w1,sl1,t1,hr,_,h1⟩:=h
 exact⟨N,gs1,w1,sl1,t1,hr,h1⟩
theorem Leads.now (hq:Q gs w t):Leads P gs w sl t Q:=⟨0,gs,w,sl,t,rfl,hq⟩
theorem Leads.bind (hq:Leads P gs w sl t Q) (hk:∀gs' w' sl' t',Q gs' w' t'→Leads P gs' w' sl' t' Q'):Leads P gs w sl t Q':=by
 obtain⟨N,gs1,w1,sl1,t1,hr,h1⟩:=hq
 obtain⟨N2,gs2,w2,sl2,t2,hr2,h2⟩:=hk gs1 w1 sl1 t1 h1
 exact⟨N+N2,gs2,w2,sl2,t2,by rw[runNT_add,hr];exact hr2,h2⟩
theorem ComesTo.then (hq:ComesTo P gs w sl t Q) (hk:∀gs' w' sl' t',gs'.size=gs.size→Q gs' w' t'→Leads P gs' w' sl' t' Q'):Leads P gs w sl t Q':=by
 obtain⟨N,gs1,w1,sl1,t1,hr,hs,h1⟩:=hq
 obtain⟨N2,gs2,w2,sl2,t2,hr2,h2⟩:=hk gs1 w1 sl1 t1 hs h1
 exact⟨N+N2,gs2,w2,sl2,t2,by rw[runNT_add,hr];exact hr2,h2⟩
theorem Leads.mono (hq:Leads P gs w sl t Q) (hk:∀gs' w' t',Q gs' w' t'→Q' gs' w' t'):Leads P gs w sl t Q':=by
 obtain⟨N,gs1,w1,sl1,t1,hr,h1⟩:=hq
 exact⟨N,gs1,w1,sl1,t1,hr,hk _ _ _ h1⟩
variable {Shun:Loc→Prop} {Z:Nat→Prop} {B:Nat} {v:World}
theorem past_mutes:MuteIn (Past Shun B):=fun _ _ _ _ _ hi hes h=>h.mute hi hes
theorem Beside.sil {Od:Old} {k:Nat} {a a':Goroutine} (Bs:Beside Od P Shun Z B v gs w t) (h0:gs[0]?=some a) (hs:Sil P (fun _=>True) true k a a'):ComesTo P gs w sl t fun gs' w' t'=>gs'[0]?=some a'∧Beside Od P Shun Z B v gs' w' t'∧w'.heap=w.heap:=by
 obtain⟨q,T,hZ,hL,hP,hB⟩:=Bs
 refine(sil_mute past_mutes k hs (fun _=>trivial) h0 hL hP).mono fun gs' w' t' ⟨q',d,j1,j2,j3,j4⟩=>?_
 subst j2
 exact⟨j1,⟨q',T.retape v.tape w.tape v.drawn d,hZ,j3,j4,hB⟩,rfl⟩
theorem Beside.read {Od:Old} {x:Frame×List Frame} {ad:Addr} {y u:Value} (Bs:Beside Od P Shun Z B v gs w t) (h0:gs[0]?=some (gOf x)) (hr:ag1 P x u=some ([ad],y)) (hc:w.cell? ad=some u) (hs:¬Shun (.cell ad)):
  ComesTo P gs w sl t fun gs' w' t'=>gs'[0]?=some (gOf (did x y))∧Beside Od P Shun Z B v gs' w' t'∧w'.heap=w.heap:=by
 obtain⟨q,T,hZ,hL,hP,hB⟩:=Bs
 have hw:RW P true (fun w=>w.cell? ad=some u) (fun l=>l=.cell ad) 1 (gOf x) (gOf (did x y)):=RW.at hr (fun _ h=>h) rfl
 obtain⟨_,g1,es,hes,hst,e⟩:=hw
 have e':g1=gOf (did x y):=e
 subst e'
 refine go_mute past_mutes h0 rfl hL hP fun d t1 hP1=>⟨_,_,_,hst (w.at d) hc,fun gs' q' _ h' hL' sl'=>.now ⟨h',⟨q',T.retape v.tape w.tape v.drawn d,hZ,hL',hP1.own fun e he=>?_,hB⟩,rfl⟩⟩
 obtain⟨a,rfl,ha⟩:=hes e he
 injection ha with ha
 subst ha
 refine⟨fun b hb hsh=>?_,by simp,by simp,?_⟩
 ·obtain rfl:=Option.some.inj hb
  exact(hs hsh).elim
 ·have:=cell_lt hc
  show a.block<B
  omega
end
theorem am0 {a b cc:CommCase} {m:Nat} (h:(#[a,b]:Array CommCase)[m]?=some cc):(m=0∧cc=a)∨(m=1∧cc=b):=by
 match m,h with
 | 0,h=>simp at h;exact .inl ⟨rfl,h.symm⟩
 | 1,h=>simp at h;exact .inr ⟨rfl,h.symm⟩
 | m+2,h=>simp at h
structure Env (Z:Nat→Prop) (Shun:Loc→Prop) (s:Sit) (c:Nat):Prop where
 zOwn:∀x,s.own x→Z x
 under:Under Shun Z
 ofw:∀l,OfW s.r s.pre l→Shun l
 ss:∀l,s.Still l→¬Shun l
 ok:s.Ok
 c0:c≠0
def ByK (P:Program) (s:Sit) (c:Nat) (gS:Goroutine):Nat→Goroutine→World→Trace→Prop:=SeatBy P true s.KW s.KS (NoPl c s.r s.pre) s.Still (cKer s.q0 s.q2) .select (·=gS)
def ByC (P:Program) (s:Sit) (c:Nat) (gC:Goroutine):Nat→Goroutine→World→Trace→Prop:=SeatBy P (c==0) s.KW s.KS (NoPl c s.r s.pre) s.Still (an1 s.q1 s.q3) .select (·=gC)
def outsOf (P:Program) (s:Sit):Outs:=outs P s.r (Yout P s.b5 s.b2 s.b3 s.r s.sv s.n)
def ByT (P:Program) (s:Sit) (c k:Nat) (n:Nat) (g:Goroutine) (w:World) (t:Trace):Prop:=TailBy P c s.r s.pre 257 (outsOf P s) false n g w t∧(w.heap[s.q3]?=some (.chan 0 #[] false k k false)∧s.cells w)
def MemOf (c g:Nat):Prop:=g=0∨g=c
section
variable {P:Program} {Z:Nat→Prop} {Shun:Loc→Prop} {s:Sit} {c:Nat}
theorem Env.w (E:Env Z Shun s c):∀l,OfW s.r s.pre l→Shun l∧¬s.Still l:=fun l h=>⟨E.ofw l h,ofW_still h⟩
theorem chs0:s.chs s.q0:=.inl rfl
theorem chs1:s.chs s.q1:=.inr (.inl rfl)
theorem chs2:s.chs s.q2:=.inr (.inr (.inl rfl))
theorem chs3:s.chs s.q3:=.inr (.inr (.inr rfl))
theorem Env.zq (E:Env Z Shun s c) {q:Nat} (h:s.chs q):Z q:=E.zOwn q (by rcases h with e|e|e|e<;>simp[Sit.own,e])
theorem openIn_of {w:World} {q:Nat} {z:Value} (h:s.Open w) (hq:s.chs q):OpenIn w (rcase q z):=by
 obtain⟨k,e⟩:=h q hq
 exact⟨q,z,k,rfl,e⟩
theorem openKer {w:World} (h:s.KS w):∀cc∈cKer s.q0 s.q2,OpenIn w cc:=by
 intro cc hcc
 simp only[cKer,List.mem_toArray,List.mem_cons,List.not_mem_nil,or_false]at hcc
 rcases hcc with rfl|rfl
 ·exact openIn_of h.2.2 chs0
 ·exact openIn_of h.2.2 chs2
theorem openSeat {w:World} (h:s.KS w):∀cc∈an1 s.q1 s.q3,OpenIn w cc:=by
 intro cc hcc
 simp only[an1,List.mem_toArray,List.mem_cons,List.not_mem_nil,or_false]at hcc
 rcases hcc with rfl|rfl
 ·exact openIn_of h.2.2 chs1
 ·exact openIn_of h.2.2 chs3
theorem zKer (E:Env Z Shun s c):∀cc∈cKer s.q0 s.q2,∃q z,cc=rcase q z∧Z q:=by
 intro cc hcc
 simp only[cKer,List.mem_toArray,List.mem_cons,List.not_mem_nil,or_false]at hcc
 rcases hcc with rfl|rfl
 ·exact⟨_,_,rfl,E.zq chs0⟩
 ·exact⟨_,_,rfl,E.zq chs2⟩
theorem zSeat (E:Env Z Shun s c):∀cc∈an1 s.q1 s.q3,∃q z,cc=rcase q z∧Z q:=by
 intro cc hcc
 simp only[an1,List.mem_toArray,List.mem_cons,List.not_mem_nil,or_false]at hcc
 rcases hcc with rfl|rfl
 ·exact⟨_,_,rfl,E.zq chs1⟩
 ·exact⟨_,_,rfl,E.zq chs3⟩
theorem rcase_inj {c c':Nat} {z z':Value} (h:rcase c z=rcase c' z'):c=c':=by simp[rcase]at h;exact h.1
theorem z_of {cs:Array CommCase} (h:∀cc∈cs,∃q z,cc=rcase q z∧Z q):∀cc∈cs,∀c z,cc=rcase c z→Z c:=fun cc hcc c z e=>by
 obtain⟨q,z',e',hz⟩:=h cc hcc
 rw[e]at e'
 rw[rcase_inj e'];exact hz
theorem byK_ok {gS:Goroutine} (E:Env Z Shun s c):ByOk P Z Shun s.Still (fun B t=>PX Shun s.Still (MemOf c) (fun g=>g=0) B c t) 0 (ByK P s c gS):=
 seat_by (leansKS E.zOwn) (fun _ h=>h.weak) (noPl_lasts E.w) (z_of (zKer E)) (.inl rfl) rfl
theorem byC_ok {gC:Goroutine} (E:Env Z Shun s c):ByOk P Z Shun s.Still (fun B t=>PX Shun s.Still (MemOf c) (fun g=>g=c) B 0 t) c (ByC P s c gC):=
 seat_by (leansKS E.zOwn) (fun _ h=>h.weak) (noPl_lasts E.w) (z_of (zSeat E)) (.inr rfl) rfl
theorem tail_with {Still:Loc→Prop} {Mem Loose:Nat→Prop} {r:Nat} {pre:Array Value} {ty:TypeId} {o:Outs} {w0:Bool} {X:World→Prop} (O:OutsOk P r pre ty o) (hZ:Z r) (hW:∀l,OfW r pre l→Shun l∧¬Still l) (hc:c≠0) (hM:¬Mem c) (hX:∀w w':World,X w→(∀x,x≠r→Z x→w'.heap[x]?=w.heap[x]?)→X w'):
  ByOk P Z Shun Still (fun B t=>PX Shun Still Mem Loose B 0 t) c (fun n g w t=>TailBy P c r pre ty o w0 n g w t∧X w):=by
 have OT:=tail_by (Z:=fun x=>x=r) (Shun:=Shun) (Still:=Still) (Mem:=Mem) (Loose:=Loose) (ty:=ty) (w0:=w0) O rfl hW hc hM
 have hkz:∀{w w':World},KeepZ Z w w'→KeepZ (fun x=>x=r) w w':=fun hk x hx=>by subst hx;exact hk _ hZ
 refine⟨fun h=>OT.status h.1,fun h w' hk=>OT.again h.1 w' (hkz hk),fun w' u h hk hu=>⟨OT.calm w' u h.1 (hkz hk) hu,hX _ _ h.2 fun x _ hz=>hk x hz⟩,?_⟩
 rintro n g w t B ⟨h,hq⟩ hrun htr hB d
 rcases OT.step h hrun htr hB d with⟨n',g',w',es,a1,a2,a3,a4,a5⟩|⟨n',g₂,cs,sh,es,a1,a2,a3,a4,a5⟩|⟨n',g₂,cs,sh,es,k,c',z,cap,s,r',tm,a1,a2,a3,a4,a5,a6,a7⟩
 ·exact .inl ⟨n',g',w',es,a1,a2,⟨a3.size,fun x hx=>a3.same x (fun e=>hx (by rw[e];exact hZ)),a3.os,a3.output,a3.tape⟩,a4,a5,hX _ _ hq fun x hx _=>a3.same x hx⟩
 ·exact .inr (.inl ⟨n',g₂,cs,sh,es,a1,a2,a3,a4,a5,hX _ _ hq fun _ _ _=>rfl⟩)
 ·exact .inr (.inr ⟨n',g₂,cs,sh,es,k,c',z,cap,s,r',tm,a1,a2,a3,a4,a5,a6,a7,hX _ _ hq fun _ _ _=>rfl⟩)
theorem byT_ok {k:Nat} (hd:∀r tm td,DoneFacts P r tm td) (E:Env Z Shun s c):ByOk P Z Shun s.Still (fun B t=>PX Shun s.Still (fun g=>g=0) (fun g=>g=c) B 0 t) c (ByT P s c k):=
 tail_with (done_ok (hd _ _ _)) (E.zOwn _ (by simp[Sit.own])) E.w E.c0 E.c0 fun w w' h e=>by
  refine⟨by rw[e _ (E.ok.bq _ chs3).2.2.2 (E.zq chs3)];exact h.1,h.2.keep fun x hx=>e x ?_ (E.zOwn _ ?_)⟩
  ·rcases hx with e|e|e<;>subst e<;>first|exact E.ok.br.2.2|exact E.ok.br.1|exact E.ok.br.2.1
  ·rcases hx with e|e|e<;>simp[Sit.own,e]
theorem byT_k {k:Nat} (n:Nat) (b:Goroutine) (w:World) (t:Trace) (h:ByT P s c k n b w t) (d:Nat):s.KW (w.at d):=by
 obtain⟨st,sm,hr⟩:=tail_is h.1
 exact⟨⟨st,sm,hr⟩,h.2.2⟩
theorem byK_k {gS:Goroutine} (n:Nat) (b:Goroutine) (w:World) (t:Trace) (h:ByK P s c gS n b w t) (d:Nat):s.KW (w.at d):=(h.1.1:s.KS w).weak
theorem byC_k {gC:Goroutine} (n:Nat) (b:Goroutine) (w:World) (t:Trace) (h:ByC P s c gC n b w t) (d:Nat):s.KW (w.at d):=(h.1.1:s.KS w).weak
theorem gives_call (E:Env Z Shun s c) (x:Value):Gives P Z Shun s.Still (MemOf c) c 0 s.KW s.KS (NoPl c s.r s.pre) (cKer s.q0 s.q2) (cCall s.q0 s.q3 x) 0 0 s.q0 x (.int .u16 0) (.int .u16 0) where
 leans:=leansKS E.zOwn
 weak:=fun _ h=>h.weak
 lasts:=noPl_lasts E.w
 meets:={
  hkh:=rfl
  hoh:=fun m cc hm h=>by
   rcases am0 h with⟨e,_⟩|⟨_,rfl⟩
   ·exact(hm e).elim
   ·exact⟨_,_,rfl,E.ok.qq.2.2.1.symm,E.zq chs3⟩
  hkj:=rfl
  hoj:=fun m cc hm h=>by
   rcases am0 h with⟨e,_⟩|⟨_,rfl⟩
   ·exact(hm e).elim
   ·simp[rcase,E.ok.qq.2.1.symm]
  hrj:=zKer E }
 memh:=.inr rfl
 memj:=.inl rfl
 opens:=fun w h m cc hm hcc=>by
  rcases am0 hcc with⟨e,_⟩|⟨_,rfl⟩
  ·exact(hm e).elim
  ·exact openIn_of h.2.2 chs3
 keeps:=fun _ d k h=>h.chan E.ok chs0 d k
theorem gives_end (E:Env Z Shun s c) (o:Int):Gives P Z Shun s.Still (MemOf c) c 0 s.KW s.KS (NoPl c s.r s.pre) (cKer s.q0 s.q2) (cEnd s.q2 s.q3 o) 0 1 s.q2 (.int .i64 o) (.int .i64 0) (.int .i64 0) where
 leans:=leansKS E.zOwn
 weak:=fun _ h=>h.weak
 lasts:=noPl_lasts E.w
 meets:={
  hkh:=rfl
  hoh:=fun m cc hm h=>by
   rcases am0 h with⟨e,_⟩|⟨_,rfl⟩
   ·exact(hm e).elim
   ·exact⟨_,_,rfl,E.ok.qq.2.2.2.2.2.symm,E.zq chs3⟩
  hkj:=rfl
  hoj:=fun m cc hm h=>by
   rcases am0 h with⟨_,rfl⟩|⟨e,_⟩
   ·simp[rcase,E.ok.qq.2.1]
   ·exact(hm e).elim
  hrj:=zKer E }
 memh:=.inr rfl
 memj:=.inl rfl
 opens:=fun w h m cc hm hcc=>by
  rcases am0 hcc with⟨e,_⟩|⟨_,rfl⟩
  ·exact(hm e).elim
  ·exact openIn_of h.2.2 chs3
 keeps:=fun _ d k h=>h.chan E.ok chs2 d k
theorem gives_answer (E:Env Z Shun s c) (A:Value):Gives P Z Shun s.Still (MemOf c) 0 c s.KW s.KS (NoPl c s.r s.pre) (an1 s.q1 s.q3) (cAns s.q1 A) 0 0 s.q1 A (.tuple #[]) zAns where
 leans:=leansKS E.zOwn
 weak:=fun _ h=>h.weak
 lasts:=noPl_lasts E.w
 meets:={
  hkh:=rfl
  hoh:=fun m cc hm h=>by
   match m,h with
   | 0,_=>exact(hm rfl).elim
   | m+1,h=>simp[cAns]at h
  hkj:=rfl
  hoj:=fun m cc hm h=>by
   rcases am0 h with⟨e,_⟩|⟨_,rfl⟩
   ·exact(hm e).elim
   ·simp[rcase,E.ok.qq.2.2.2.2.1.symm]
  hrj:=zSeat E }
 memh:=.inl rfl
 memj:=.inr rfl
 opens:=fun w h m cc hm hcc=>by
  match m,hcc with
  | 0,_=>exact(hm rfl).elim
  | m+1,h=>simp[cAns]at h
 keeps:=fun _ d k h=>h.chan E.ok chs1 d k
theorem Holds.last {Od:Old} {gs:Array Goroutine} {w:World} {sl:Option (Nat×Nat)} {t:Trace} {a gS:Goroutine} {J:World→Prop} {k:Nat} (o:Int) (E:Env Z Shun s c) (hrun:a.status=.running) (hco:∀w,stepG P (c==0) a w=.comm a (cEnd s.q2 s.q3 o) true .select w #[])
  (hout:Sil P (IsRun s.r s.pre 257) false k (Conc.served a (commResult (cEnd s.q2 s.q3 o) .select 0 undef false)) (outsOf P s).gR)
  (H:Holds Od P Z Shun s.Still (MemOf c) (fun g=>g=0) c 0 (ByK P s c gS) (fun g v=>g=a∧J v) gs w t):
  ComesTo P gs w sl t fun gs' w' t'=>∃kq,Holds Od P Z Shun s.Still (fun g=>g=0) (fun g=>g=c) 0 c (ByT P s c kq) (fun g v=>g=Conc.served gS (commResult (cKer s.q0 s.q2) .select 1 (.int .i64 o) true)∧J v) gs' w' t':=by
 have M:=gives_end (P:=P) E o
 obtain⟨q,n,B,g,v0,h1,⟨rfl,h2⟩,T,hZ,D⟩:=H
 obtain⟨b,hb,hBy⟩:=D.idle
 have hKw:s.KS w:=hBy.1.1
 refine(give_duo (Loose:=fun g=>g=0) M.leans M.weak M.lasts M.meets M.memh M.memj rfl (es:=#[]) (n+sumTo gs.size q+1) n gs g w sl t q B (by omega) h1 hrun D (M.opens w hKw) (fun d=>hco (w.at d)) (by simp)).bind fun gs' w' sl' t' hsz Mt=>?_
 obtain⟨q',g₂,d,k',m1,m2,m3,m4,m5,rfl,m7,m8,m9,m10⟩:=Mt
 have off:OffZ Z w ((w.at d).setChan s.q2 0 #[] false (k'+1) (k'+1) false):=ao5 (E.zq chs2) w d (k'+1) false
 have hK':s.KS ((w.at d).setChan s.q2 0 #[] false (k'+1) (k'+1) false):=M.keeps w d (k'+1) hKw
 obtain⟨kq,hkq⟩:=hK'.2.2 s.q3 chs3
 refine .now ⟨kq,q',_,B,_,v0,m2,⟨by rw[m3];rfl,h2⟩,T.off off,hZ,⟨D.ne.symm,.inl rfl,fun g hg=>.inl hg,⟨_,m1,⟨m10,.inl ⟨k,rfl,hout,hK'.1,?_⟩⟩,hkq,hK'.2.1⟩,fun i g h1 h2 h3=>m7 i g h2 h1 h3,m8,?_,?_⟩⟩
 ·exact m9.hears c (.inr rfl)
 ·exact(m9.fewer (Mem':=fun g=>g=0) fun g hg=>.inl hg).loosen (fun g hg=>(hg.2 hg.1).elim)
 ·rw[off.size];exact D.size
end
structure AllFacts (P:Program):Prop where
 ker:KerFacts P
 child:∀(b5 b2 b3 r q0 q1 q2 q3:Nat) (sv:Value) (n:Int),ChildFacts P b5 b2 b3 r q0 q1 q2 q3 sv n
 ans:∀(r q0 q1 q3:Nat) (sv:Value) (n:Int),AnsFacts P r q0 q1 q3 sv n
 done:∀(r:Nat) (tm:Array Value) (td:List Item),DoneFacts P r tm td
 add:∀(r:Nat) (c:Frame) (Y:List Frame),AddFacts P r c Y
 wait:∀(r:Nat) (c:Frame) (Y:List Frame),WaitFacts P r c Y
 mixed:P.follows .mixedOrders=true
def gC (P:Program) (s:Sit) (f:Nat→Value) (i:Int) (x:Value):Goroutine:=gOf (m3 P s.q0 s.q1 s.q3 x (ups f (sl6 s.r s.sv s.n i 1 x)) (Ych P s.b5 s.b2 s.b3 s.r s.sv s.n))
def atStop (P:Program) (s:Sit) (f:Nat→Value) (td:List Item) (told:Value) (c0:Frame) (cs:List Frame):Frame×List Frame:=sR P (F56r (ups f [(6,told)]) td::c0::cs) s.r
theorem still_obj {s:Sit} (x:Nat):¬s.Still (.obj x):=by
 intro h
 rcases h with e|e|e|e|e|e|e<;>cases e
section
variable {P:Program} {Z:Nat→Prop} {Shun:Loc→Prop} {s:Sit} {c:Nat} {gs:Array Goroutine} {w:World} {sl:Option (Nat×Nat)} {t:Trace} {J:World→Prop} {f fc:Nat→Value} {i:Int} {x told:Value} {td:List Item} {c0:Frame} {cs:List Frame}
theorem retry (A:AllFacts P) (g₂:Goroutine) (h:g₂=gC P s fc i x):SeatWalk P false s.KW s.Still (an1 s.q1 s.q3) .select (·=gC P s fc i x) 0 { parked g₂ (an1 s.q1 s.q3) .select with status:=.running }:=by
 subst h
 refine⟨gC P s fc i x,#[],rfl,rfl,by simp,fun w _=>?_⟩
 exact al6 ((A.child s.b5 s.b2 s.b3 s.r s.q0 s.q1 s.q2 s.q3 s.sv s.n).m16 fc _ i x) w
theorem quits_of (A:AllFacts P) (g₂:Goroutine) (h:g₂=gC P s fc i x):Sil P (IsRun s.r s.pre 257) false 37 (Conc.served g₂ (commResult (an1 s.q1 s.q3) .select 1 (.agg #[]) false)) (outsOf P s).gR:=by
 subst h
 exact child_quits (A.child s.b5 s.b2 s.b3 s.r s.q0 s.q1 s.q2 s.q3 s.sv s.n) fc i x
theorem hoq_seat (O:s.Ok):∀(m:Nat) cc,m≠1→(an1 s.q1 s.q3)[m]?=some cc→cc.chan≠.chan (some s.q3):=fun m cc hm h=>by
 rcases am0 h with⟨_,rfl⟩|⟨e,_⟩
 ·simp[rcase,O.qq.2.2.2.2.1]
 ·exact(hm e).elim
theorem finish_closed {Od:Old} (A:AllFacts P) (E:Env Z Shun s c) {v:World} (T:Twin Od Z v w) (hZ:∀r,Z r→r<v.heap.size) (hJ:J v) {n B:Nat} {q:Nat→Nat} (h0:gs[0]?=some (gOf (sD P (F56r (ups f [(6,told)]) td::c0::cs) s.r s.q3)))
  (D:Duo P Shun s.Still (fun g=>g=0) (fun g=>g=c) B 0 c (CloseBy P c s.r s.pre 257 (outsOf P s) s.KW s.Still (an1 s.q1 s.q3) (·=gC P s fc i x) 1 s.q3 (.agg #[]) 37 false) n gs w t q):
  ComesTo P gs w sl t fun gs' w' t'=>∃v B,J v∧gs'[0]?=some (G (c0.finish told) cs)∧Beside Od P Shun Z B v gs' w' t':=by
 have hr:Z s.r:=E.zOwn _ (by simp[Sit.own])
 have OC:ByOk P Z Shun s.Still (fun B t=>PX Shun s.Still (fun g=>g=0) (fun g=>g=c) B 0 t) c (CloseBy P c s.r s.pre 257 (outsOf P s) s.KW s.Still (an1 s.q1 s.q3) (·=gC P s fc i x) 1 s.q3 (.agg #[]) 37 false):=
  close_by (leansKW E.zOwn) (z_of (zSeat E)) (done_ok (A.done _ _ _)) hr E.w E.c0 E.c0 rfl (quits_of A)
 refine(am6 (J:=fun _=>True) (fun _ _ _ _ _ _=>trivial) OC 6 (sil_logs (A.ker.sDa _ _ _)) h0 D).bind fun gs1 w1 sl1 t1 _ ⟨q1,n1,B1,h1,o1,_,D1⟩=>?_
 rw[A.ker.sDb]at h1
 refine(join (done_ok (A.done _ _ _)) (wait_ok (A.wait _ _ _)) hr E.w E.c0 (leansKW E.zOwn) (z_of (zSeat E)) (quits_of A) (fun w n d h=>h.set E.ok n d) h1 D1).bind fun gs2 w2 sl2 t2 _ ⟨q2,B2,h2,o2,_,L2,P2,S2⟩=>?_
 have Bs:Beside Od P Shun Z B2 v gs2 w2 t2:=⟨q2,(T.off o1).off o2,hZ,L2,P2,S2⟩
 exact(Bs.sil h2 (sil_hush0 (A.ker.end_ _ _ _ _ _ _ _))).mono fun gs3 w3 t3 ⟨h3,B3,_⟩=>⟨v,B2,hJ,h3,B3⟩
theorem finish_seat {Od:Old} (A:AllFacts P) (E:Env Z Shun s c) (H:Holds Od P Z Shun s.Still (MemOf c) (fun g=>g=c) 0 c (ByC P s c (gC P s fc i x)) (fun g v=>g=gOf (atStop P s f td told c0 cs)∧J v) gs w t):
  ComesTo P gs w sl t fun gs' w' t'=>∃v B,J v∧gs'[0]?=some (G (c0.finish told) cs)∧Beside Od P Shun Z B v gs' w' t':=by
 refine(H.walk (sl:=sl) byC_k (fun w a h hs=>still_lt h hs) E.ss (byC_ok E) (RW.at (A.ker.sRa _ _ s.q3) (fun w h=>let ⟨_,_,hr⟩:=h.1;(run_cell hr).2.2.2) (readOk (s:=s)).t3)).bind fun gs1 w1 sl1 t1 _ H1=>?_
 obtain⟨q1,n1,B1,g,v,h1,⟨rfl,h2⟩,T,hZ,D⟩:=H1
 refine(close_seat (Loose:=fun g=>g=c) (home:=(·=gC P s fc i x)) (o:=outsOf P s) (kR:=37) (zq:=.agg #[]) (leansKS E.zOwn) (fun _ h=>h.weak) (noPl_lasts E.w) E.c0 still_obj (z_of (zSeat E)) rfl (fun _ h=>h) (fun _ h=>h.1) (fun _ k h=>h.shut E.ok k) (E.ok.bq _ chs3).2.2.2.symm rfl (hoq_seat E.ok) (retry A) (A.ker.sCw _ _ _) rfl rfl (fun w1 k _ hq d=>close_step (A.ker.sCa _ _ _) hq) h1 D).bind fun gs2 w2 sl2 t2 _ ⟨q2,n2,B2,k1,k2,_,D2⟩=>?_
 exact finish_closed A E (T.off k2) hZ h2 k1 D2
theorem finish_tail {Od:Old} (A:AllFacts P) (E:Env Z Shun s c) {kq:Nat} (H:Holds Od P Z Shun s.Still (fun g=>g=0) (fun g=>g=c) 0 c (ByT P s c kq) (fun g v=>g=gOf (atStop P s f td told c0 cs)∧J v) gs w t):
  ComesTo P gs w sl t fun gs' w' t'=>∃v B,J v∧gs'[0]?=some (G (c0.finish told) cs)∧Beside Od P Shun Z B v gs' w' t':=by
 refine(H.walk (sl:=sl) byT_k (fun w a h hs=>still_lt h hs) E.ss (byT_ok A.done E) (RW.at (A.ker.sRa _ _ s.q3) (fun w h=>let ⟨_,_,hr⟩:=h.1;(run_cell hr).2.2.2) (readOk (s:=s)).t3)).bind fun gs1 w1 sl1 t1 _ H1=>?_
 obtain⟨q1,n1,B1,g,v,h1,⟨rfl,h2⟩,T,hZ,D⟩:=H1
 obtain⟨n1',D'⟩:=D.knows (By':=fun n g w t=>TailBy P c s.r s.pre 257 (outsOf P s) false n g w t∧w.heap[s.q3]?=some (.chan 0 #[] false kq kq false)) fun b _ h=>⟨n1,h.1,h.2.1⟩
 have hr:Z s.r:=E.zOwn _ (by simp[Sit.own])
 refine(close_tail (K:=s.KW) (cC:=an1 s.q1 s.q3) (home:=(·=gC P s u0 0 (.int .u16 0))) (kq:=1) (zq:=.agg #[]) (kR:=37) (done_ok (A.done _ _ _)) hr E.w E.c0 still_obj (E.zq chs3) (E.ok.bq _ chs3).2.2.2.symm rfl (fun w1 hq d=>close_step (A.ker.sCa _ _ _) hq) h1 D' (tail_open_by (done_ok (A.done _ _ _)) hr E.w E.c0 E.c0 (E.zq chs3) (E.ok.bq _ chs3).2.2.2.symm _)).bind fun gs2 w2 sl2 t2 _ ⟨q2,n2,B2,k1,k2,_,D2⟩=>?_
 exact finish_closed A E (T.off k2) hZ h2 k1 D2
end
structure Ways (P:Program) (L:FuncId→Prop) (p:Oper→Bool) (N:Fence) (host:FuncId):Prop where
 fenced:Fenced P L p N
 hosted:N.fn host
 seen:∀f,(f=56∨f=93∨f=97∨f=136∨f=187)→∀es,seen P f es=seen P host es
 ops:∀c,c∈[R2 P,R3 P,S0 P,S1 P,R10 P,R11 P,R15 P,R16 P,A0 P,R21 P,reg2 P,ansC P]→c.allOps p=true
def Ends (Q:Array Value→World→Prop) (e:Exit) (a:Act) (w:World):Prop:=e=.normal∧a.defers=[]∧Q a.tmps w
def Rets (Q:Array Value→World→Prop) (e:Exit) (a:Act) (w:World):Prop:=e=.ret∧a.defers=[]∧Q a.tmps w
def slB (kv:Value) (pa:Addr) (told:Value) (r:Nat) (x:Value) (bA:Nat):List (Nat×Value):=[(0,kv),(1,pv pa),(7,told),(8,pr r),(9,x),(10,pr bA)]
def slC (kv:Value) (pa:Addr) (told:Value) (r bA:Nat):List (Nat×Value):=[(0,kv),(1,pv pa),(7,told),(8,pr r),(10,pr bA)]
def slG (kv:Value) (pa:Addr) (told:Value) (r bA:Nat) (b:Bool):List (Nat×Value):=[(0,kv),(1,pv pa),(7,told),(8,pr r),(10,pr bA),(59,.bool b)]
def svOf (pa:Addr):Value:=.pointer (some (pa.add 5))
def Grows (v v':World):Prop:=v.heap.size≤v'.heap.size∧(∀x,x<v.heap.size→v'.heap[x]?=v.heap[x]?)∧v'.os=v.os∧v'.output=v.output
structure Story (P:Program) (N:Fence) (m:Nat) (kv:Value) (pa:Addr) (n:Int) where
 I:Int→Value→World→Prop
 Cd:Int→Value→Value→World→Prop
 Bd:Value→World→Prop
 D:Int→Value→Value→Nat→World→Prop
 E0:Int→Value→Nat→World→Prop
 E:Int→Value→Nat→World→Prop
 An:Int→Value→Value→World→Prop
 Fin:Value→World→Prop
 tI:∀i told,Tapeless (I i told)
 tC:∀i told x,Tapeless (Cd i told x)
 tB:∀told,Tapeless (Bd told)
 tD:∀i told x b,Tapeless (D i told x b)
 tE0:∀i told b,Tapeless (E0 i told b)
 tE:∀i told b,Tapeless (E i told b)
 tA:∀i told A,Tapeless (An i told A)
 tF:∀told,Tapeless (Fin told)
 step:∀(r:Nat) (i:Int) (told:Value) (v:World) (f:Nat→Value),I i told v→0≤i→i<n→∀τ d,(reg2 P).wpIn N m P (Ends fun tm w'=>∃f' oc x,tm=T32 (ups f' (sl6 r (svOf pa) n i oc x))∧((oc=0∧I (i+1) told w')∨(oc=1∧Cd i told x w')∨(oc=2∧Bd told w'))) ⟨T32 (ups f (sl4 r (svOf pa) n i)),[]⟩ (v.re τ d)
 serve:∀(r:Nat) (i:Int) (told x:Value) (v:World) (f:Nat→Value),Cd i told x v→∀τ d,(R10 P).wpIn N m P (Ends fun tm w'=>∃f' bA,tm=TN 76 (ups f' (slB kv pa told r x bA))∧D i told x bA w') ⟨TN 76 (ups f (slX kv pa told r x)),[]⟩ (v.re τ d)
 asked:∀(r:Nat) (i:Int) (told x:Value) (bA:Nat) (v:World) (f:Nat→Value),D i told x bA v→∀τ d,(R11 P).wpIn N m P (Ends fun tm w'=>∃f',tm=TN 76 (ups (ups f' (slB kv pa told r x bA)) [(39,.bool false)])∧D i told x bA w') ⟨TN 76 (ups f (slB kv pa told r x bA)),[]⟩ (v.re τ d)
 tells:∀(r:Nat) (i:Int) (told x:Value) (bA:Nat) (v:World) (f:Nat→Value),D i told x bA v→∀τ d,(R15 P).wpIn N m P (Ends fun tm w'=>∃f' told',tm=TN 76 (ups f' (slC kv pa told' r bA))∧E0 i told' bA w') ⟨TN 76 (ups f (slB kv pa told r x bA)),[]⟩ (v.re τ d)
 ended:∀(r:Nat) (i:Int) (told:Value) (bA:Nat) (v:World) (f:Nat→Value),E0 i told bA v→∀τ d,(R16 P).wpIn N m P (Ends fun tm w'=>∃f' b,tm=TN 76 (ups f' (slG kv pa told r bA b))∧((b=true∧Fin told w')∨(b=false∧E i told bA w'))) ⟨TN 76 (ups f (slC kv pa told r bA)),[]⟩ (v.re τ d)
 answer:∀i told bA v,E i told bA v→∃s0 s1 s2,Cells v [⟨bA,0,none⟩,⟨bA,1,none⟩,⟨bA,2,none⟩] [s0,s1,s2]∧An i told (.agg #[s0,s1,s2]) v
 grow:∀i told A v v',An i told A v→Grows v v'→An i told A v'
 answered:∀(q1 q3:Nat) (i:Int) (told A:Value) (v:World) (f:Nat→Value),An i told A v→0≤i→i<n→∀τ d,(ansC P).wpIn N m P (Rets fun tm w'=>∃g,tm=TN 49 (ups g [(6,.bool true)])∧I (i+1) told w') ⟨TN 49 (ups f (slA q1 q3 (svOf pa) A)),[]⟩ (v.re τ d)
 bad:∀(r:Nat) (told:Value) (v:World) (f:Nat→Value),Bd told v→∀τ d,(R21 P).wpIn N m P (Ends fun tm w'=>∃f' told',tm=TN 76 (ups f' [(7,told')])∧Fin told' w') ⟨TN 76 (ups f (slS kv pa told r)),[]⟩ (v.re τ d)
 spent:∀told v,I n told v→Fin told v
structure Makes (P:Program) (N:Fence) (m:Nat):Prop where
 box:∀(r:Nat) (s0 s1 s2:Value) (v:World) (g:Nat→Value),∀τ d,(A0 P).wpIn N m P (Ends fun tm w'=>∃g' bB,tm=TN 9 (ups g' (sl97 r (.agg #[s0,s1,s2]) bB))∧Grows v w'∧Cells w' [⟨bB,0,none⟩,⟨bB,1,none⟩,⟨bB,2,none⟩] [s0,s1,s2]) ⟨TN 9 (ups g [(0,pr r),(1,.agg #[s0,s1,s2])]),[]⟩ (v.re τ d)
theorem ends_ok {Q:Array Value→World→Prop}:∀e a w,Ends Q e a w→(e=.normal∨e=.ret)∧a.defers=[]:=fun _ _ _ h=>⟨.inl h.1,h.2.1⟩
theorem rets_ok {Q:Array Value→World→Prop}:∀e a w,Rets Q e a w→(e=.normal∨e=.ret)∧a.defers=[]:=fun _ _ _ h=>⟨.inr h.1,h.2.1⟩
section
variable {P:Program} {L:FuncId→Prop} {p:Oper→Bool} {N:Fence} {Z:Nat→Prop} {Shun Still:Loc→Prop} {Mem Loose:Nat→Prop} {h j:Nat} {By:Nat→Goroutine→World→Trace→Prop} {gs:Array Goroutine} {w:World} {sl:Option (Nat×Nat)} {t:Trace} {host:FuncId}
theorem Holds.part {Od:Old} {fnR:FuncId} {kd:CallKind} {k:List Item} {ds:List Deferred} {Q:Array Value→World→Prop} {c:Code} {tmps:Array Value} {m:Nat} {cs:List Frame} {J:World→Prop} (W:Ways P L p N host) (hu:Under Shun Z) (hst:Under Still Z) (O:ByOk P Z Shun Still (fun B t=>PX Shun Still Mem Loose B h t) j By) (hf:fnR=56∨fnR=93∨fnR=97∨fnR=136∨fnR=187) (hkd:(kd==CallKind.early)=false)
  (hc:c∈[R2 P,R3 P,S0 P,S1 P,R10 P,R11 P,R15 P,R16 P,A0 P,R21 P,reg2 P,ansC P]) (hw:∀v,J v→∀τ d,c.wpIn N m P (Ends Q) ⟨tmps,[]⟩ (v.re τ d)) (hQ:∀tm,Tapeless (Q tm))
  (H:Holds Od P Z Shun Still Mem Loose h j By (fun g v=>g=G (Frame.mk fnR tmps (.code c::k) ds .run kd none) cs∧J v) gs w t):ComesTo P gs w sl t (Holds Od P Z Shun Still Mem Loose h j By (fun g v=>∃tm,g=G (Frame.mk fnR tm k ds .run kd none) cs∧Q tm v)):=
 (Holds.piece W.fenced hu hst O W.hosted (W.seen fnR hf) hkd (W.ops c hc) ends_ok hw H).mono fun gs' w' t' H'=>H'.mono fun g v ⟨tm,τ,d,hb⟩=>by
  rcases hb with⟨rfl,_,_,hq⟩|⟨_,_,he,_⟩
  ·exact⟨tm,rfl,(hQ tm).back hq⟩
  ·cases he
theorem Holds.out {Od:Old} {fnR:FuncId} {kd:CallKind} {k:List Item} {ds:List Deferred} {Q:Array Value→World→Prop} {c:Code} {tmps:Array Value} {m:Nat} {cs:List Frame} {J:World→Prop} (W:Ways P L p N host) (hu:Under Shun Z) (hst:Under Still Z) (O:ByOk P Z Shun Still (fun B t=>PX Shun Still Mem Loose B h t) j By) (hf:fnR=56∨fnR=93∨fnR=97∨fnR=136∨fnR=187) (hkd:(kd==CallKind.early)=false)
  (hc:c∈[R2 P,R3 P,S0 P,S1 P,R10 P,R11 P,R15 P,R16 P,A0 P,R21 P,reg2 P,ansC P]) (hw:∀v,J v→∀τ d,c.wpIn N m P (Rets Q) ⟨tmps,[]⟩ (v.re τ d)) (hQ:∀tm,Tapeless (Q tm))
  (H:Holds Od P Z Shun Still Mem Loose h j By (fun g v=>g=G (Frame.mk fnR tmps (.code c::k) ds .run kd none) cs∧J v) gs w t):ComesTo P gs w sl t (Holds Od P Z Shun Still Mem Loose h j By (fun g v=>∃tm todo,g=G (Frame.mk fnR tm todo ds .returning kd none) cs∧Q tm v)):=
 (Holds.piece W.fenced hu hst O W.hosted (W.seen fnR hf) hkd (W.ops c hc) rets_ok hw H).mono fun gs' w' t' H'=>H'.mono fun g v ⟨tm,τ,d,hb⟩=>by
  rcases hb with⟨_,he,_⟩|⟨todo,rfl,_,_,hq⟩
  ·cases he
  ·exact⟨tm,todo,rfl,(hQ tm).back hq⟩
theorem Holds.pick {Od:Old} {ι:Type} {C:ι→Goroutine→World→Prop} (H:Holds Od P Z Shun Still Mem Loose h j By (fun g v=>∃x,C x g v) gs w t):∃x,Holds Od P Z Shun Still Mem Loose h j By (C x) gs w t:=by
 obtain⟨q,n,B,g,v,h1,⟨x,hx⟩,h3⟩:=H
 exact⟨x,q,n,B,g,v,h1,hx,h3⟩
theorem Holds.fact {Od:Old} {F:Prop} {C:Goroutine→World→Prop} (H:Holds Od P Z Shun Still Mem Loose h j By (fun g v=>F∧C g v) gs w t):F∧Holds Od P Z Shun Still Mem Loose h j By C gs w t:=by
 obtain⟨q,n,B,g,v,h1,⟨hf,hx⟩,h3⟩:=H
 exact⟨hf,q,n,B,g,v,h1,hx,h3⟩
theorem Holds.or {Od:Old} {C C':Goroutine→World→Prop} (H:Holds Od P Z Shun Still Mem Loose h j By (fun g v=>C g v∨C' g v) gs w t):Holds Od P Z Shun Still Mem Loose h j By C gs w t∨Holds Od P Z Shun Still Mem Loose h j By C' gs w t:=by
 obtain⟨q,n,B,g,v,h1,hx|hx,h3⟩:=H
 ·exact .inl ⟨q,n,B,g,v,h1,hx,h3⟩
 ·exact .inr ⟨q,n,B,g,v,h1,hx,h3⟩
end
def Told (f:Nat→Value) (l:List (Nat×Value)):Prop:=∀p∈l,f p.1=p.2
theorem Told.eq {f:Nat→Value} {l:List (Nat×Value)} (h:Told f l):ups f l=f:=ao9 h
def slK (kv:Value) (pa:Addr) (told:Value) (r q0 q2:Nat):List (Nat×Value):=[(0,kv),(1,pv pa),(7,told),(8,pr r),(25,chn q0),(27,chn q2)]
def gK (P:Program) (s:Sit) (f:Nat→Value) (cs:List Frame):Goroutine:=gOf (kS P f cs s.r)
section
variable {P:Program} {L:FuncId→Prop} {p:Oper→Bool} {N:Fence} {m:Nat} {host:FuncId} {Z:Nat→Prop} {Shun:Loc→Prop} {s:Sit} {c:Nat} {kv:Value} {pa:Addr} {c0:Frame} {cs:List Frame}
def Back (Od:Old) (P:Program) (Shun:Loc→Prop) (Z:Nat→Prop) (Fin:Value→World→Prop) (c0:Frame) (cs:List Frame) (gs:Array Goroutine) (w:World) (t:Trace):Prop:=
 ∃told v B,Fin told v∧gs[0]?=some (G (c0.finish told) cs)∧Beside Od P Shun Z B v gs w t
theorem to_stop {x:Frame×List Frame} {told:Value} {td:List Item} (K:KerFacts P) (hb:x.1=(sR P [] s.r).1) (hc:x.2=(below x).1::c0::cs) (hd:ae2 (below x)=(56,td,[],.returning,.normal,none,c0::cs)) (he:ad0 (below x) [6]=[told]) (hf:(below x).1.tmps.size=76):
  ∃f,gOf x=gOf (atStop P s f td told c0 cs):=by
 have e:=ag2 (l:=[(6,told)]) hd he hf
 refine⟨slot (below x),?_⟩
 unfold atStop
 rw[K.sRf]
 have e1:(below x).1=F56r (ups (slot (below x)) [(6,told)]) td:=congrArg Prod.fst e
 show G x.1 x.2=G (sR P [] s.r).1 (F56r (ups (slot (below x)) [(6,told)]) td::c0::cs)
 rw[hb,hc,e1]
theorem serve_phase {Od:Old} (A:AllFacts P) (W:Ways P L p N host) (E:Env Z Shun s c) (S:Story P N m kv pa s.n) {i:Int} {told x:Value} {f fc:Nat→Value} (hT:Told f (slK kv pa told s.r s.q0 s.q2)) {gs:Array Goroutine} {w:World} {sl:Option (Nat×Nat)} {t:Trace}
  (H:Holds Od P Z Shun s.Still (MemOf c) (fun g=>g=c) 0 c (ByC P s c (gC P s fc i x)) (fun g v=>g=Conc.served (gK P s f (c0::cs)) (commResult (cKer s.q0 s.q2) .select 0 x true)∧S.Cd i told x v) gs w t):
  ComesTo P gs w sl t fun gs' w' t'=>Back Od P Shun Z S.Fin c0 cs gs' w' t'∨∃f' told' bA,Holds Od P Z Shun s.Still (MemOf c) (fun g=>g=c) 0 c (ByC P s c (gC P s fc i x)) (fun g v=>g=gOf (f56 (ups f' (slF kv pa told' s.r bA)) (c0::cs) (T16 P) (dsK s.r))∧S.E i told' bA v) gs' w' t':=by
 have O:=byC_ok (P:=P) (gC:=gC P s fc i x) E
 have hst:=under_still E.zOwn
 have hj:∀n b w t,ByC P s c (gC P s fc i x) n b w t→∀d,(fun _=>True:World→Prop) (w.at d):=fun _ _ _ _ _ _=>trivial
 have e0:Conc.served (gK P s f (c0::cs)) (commResult (cKer s.q0 s.q2) .select 0 x true)=gOf (x0 P kv pa told f (c0::cs) s.r s.q0 s.q2 x):=by
  unfold x0
  rw[show ups f (slS kv pa told s.r)=f from Told.eq fun q hq=>hT q (by simp only[slS,slK,List.mem_cons,List.not_mem_nil,or_false]at hq ⊢;rcases hq with h|h|h|h<;>simp[h])]
  rfl
 rw[e0]at H
 refine(H.sil (sl:=sl) (K:=fun _=>True) hj O (sil_logs (A.ker.x1a _ _ _ _ _ _ _ _ _))).bind fun gs1 w1 sl1 t1 _ H1=>?_
 rw[show run P 12 (x0 P kv pa told f (c0::cs) s.r s.q0 s.q2 x)=x1 P kv pa told f (c0::cs) s.r s.q0 s.q2 x from rfl,at_toldN (l:=slX kv pa told s.r x) (A.ker.x1b _ _ _ _ _ _ _ _ _) (A.ker.x1c _ _ _ _ _ _ _ _ _) (A.ker.x1d _ _ _ _ _ _ _ _ _)]at H1
 refine(Holds.part (sl:=sl1) W E.under hst O (.inl rfl) rfl (by simp) (fun v hv=>S.serve s.r i told x v _ hv) (fun tm v τ d ⟨f',bA,e,h⟩=>⟨f',bA,e,S.tD _ _ _ _ v τ d h⟩) H1).bind fun gs2 w2 sl2 t2 _ H2=>?_
 obtain⟨⟨f2,bA⟩,H2⟩:=(H2.mono (C':=fun g v=>∃y:(Nat→Value)×Nat,g=gOf (f56 (ups y.1 (slB kv pa told s.r x y.2)) (c0::cs) (T10 P) (dsK s.r))∧S.D i told x y.2 v) fun g v ⟨tm,hg,f',bA,e,h⟩=>⟨(f',bA),by rw[hg,e];rfl,h⟩).pick
 refine(H2.sil (sl:=sl2) (K:=fun _=>True) hj O (sil_hush0 (A.ker.x2 _ _ _))).bind fun gs3 w3 sl3 t3 _ H3=>?_
 refine(Holds.part (sl:=sl3) W E.under hst O (.inl rfl) rfl (by simp) (fun v hv=>S.asked s.r i told x bA v f2 hv) (fun tm v τ d ⟨f',e,h⟩=>⟨f',e,S.tD _ _ _ _ v τ d h⟩) H3).bind fun gs4 w4 sl4 t4 _ H4=>?_
 obtain⟨f4,H4⟩:=(H4.mono (C':=fun g v=>∃y:Nat→Value,g=gOf (f56 (ups (ups y (slB kv pa told s.r x bA)) [(39,.bool false)]) (c0::cs) (T11 P) (dsK s.r))∧S.D i told x bA v) fun g v ⟨tm,hg,f',e,h⟩=>⟨f',by rw[hg,e];rfl,h⟩).pick
 refine(H4.sil (sl:=sl4) (K:=fun _=>True) hj O (sil_hush0 (A.ker.x3 _ _ _))).bind fun gs5 w5 sl5 t5 _ H5=>?_
 rw[show ups (ups f4 (slB kv pa told s.r x bA)) [(39,.bool false)]=ups (ups (ups f4 (slB kv pa told s.r x bA)) [(39,.bool false)]) (slB kv pa told s.r x bA)from(Told.eq fun q hq=>by
  simp only[slB,List.mem_cons,List.not_mem_nil,or_false]at hq
  rcases hq with h|h|h|h|h|h<;>subst h<;>rfl).symm]at H5
 refine(Holds.part (sl:=sl5) W E.under hst O (.inl rfl) rfl (by simp) (fun v hv=>S.tells s.r i told x bA v _ hv) (fun tm v τ d ⟨f',told',e,h⟩=>⟨f',told',e,S.tE0 _ _ _ v τ d h⟩) H5).bind fun gs6 w6 sl6 t6 _ H6=>?_
 obtain⟨⟨f6,told'⟩,H6⟩:=(H6.mono (C':=fun g v=>∃y:(Nat→Value)×Value,g=gOf (f56 (ups y.1 (slC kv pa y.2 s.r bA)) (c0::cs) (T15 P) (dsK s.r))∧S.E0 i y.2 bA v) fun g v ⟨tm,hg,f',told',e,h⟩=>⟨(f',told'),by rw[hg,e];rfl,h⟩).pick
 refine(H6.sil (sl:=sl6) (K:=fun _=>True) hj O (sil_hush0 (A.ker.x4 _ _ _))).bind fun gs7 w7 sl7 t7 _ H7=>?_
 refine(Holds.part (sl:=sl7) W E.under hst O (.inl rfl) rfl (by simp) (fun v hv=>S.ended s.r i told' bA v f6 hv) (fun tm v τ d ⟨f',b,e,h⟩=>⟨f',b,e,h.imp (fun h=>⟨h.1,S.tF _ v τ d h.2⟩) fun h=>⟨h.1,S.tE _ _ _ v τ d h.2⟩⟩) H7).bind fun gs8 w8 sl8 t8 _ H8=>?_
 rcases(H8.mono (C':=fun g v=>(∃y:Nat→Value,g=gOf (f56 (ups y (slG kv pa told' s.r bA true)) (c0::cs) (T16 P) (dsK s.r))∧S.Fin told' v)∨(∃y:Nat→Value,g=gOf (f56 (ups y (slF kv pa told' s.r bA)) (c0::cs) (T16 P) (dsK s.r))∧S.E i told' bA v)) fun g v ⟨tm,hg,f',b,e,h⟩=>by
  rcases h with⟨rfl,h⟩|⟨rfl,h⟩
  ·exact .inl ⟨f',by rw[hg,e];rfl,h⟩
  ·exact .inr ⟨f',by rw[hg,e];rfl,h⟩).or with H9|H9
 ·obtain⟨f9,H9⟩:=H9.pick
  rw[show ups f9 (slG kv pa told' s.r bA true)=ups (ups f9 (slG kv pa told' s.r bA true)) [(7,told'),(59,.bool true)]from(Told.eq fun q hq=>by
   simp only[List.mem_cons,List.not_mem_nil,or_false]at hq
   rcases hq with h|h<;>subst h<;>rfl).symm]at H9
  refine(H9.sil (sl:=sl8) (K:=fun _=>True) hj O (sil_logs (A.ker.w1a _ _ _ _))).bind fun gsa wa sla ta _ Ha=>?_
  obtain⟨fe,e⟩:=to_stop (s:=s) (c0:=c0) (cs:=cs) A.ker (A.ker.w1b told' _ _ s.r) (A.ker.w1c told' _ _ s.r) (A.ker.w1d told' _ _ s.r) (A.ker.w1e told' _ _ s.r) (A.ker.w1f told' (ups f9 (slG kv pa told' s.r bA true)) (c0::cs) s.r)
  rw[show gOf (run P 13 (f56 (ups (ups f9 (slG kv pa told' s.r bA true)) [(7,told'),(59,.bool true)]) (c0::cs) (T16 P) (dsK s.r)))=gOf (Fxa.w1 P told' (ups f9 (slG kv pa told' s.r bA true)) (c0::cs) s.r)from rfl,e]at Ha
  exact(finish_seat (sl:=sla) A E Ha).mono fun gs' w' t' ⟨v,B,k1,k2,k3⟩=>.inl ⟨told',v,B,k1,k2,k3⟩
 ·obtain⟨f9,H9⟩:=H9.pick
  exact .now (.inr ⟨f9,told',bA,H9⟩)
end
end Go.Fxa
