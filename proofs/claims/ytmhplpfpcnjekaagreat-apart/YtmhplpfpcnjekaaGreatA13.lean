/- Where a process goes on: the b -/
import Derived.Test.YtmhplpfpcnjekaaGreatA12
open Go.Proofs.Tryz
namespace Go.Fxa
open Go.Conc
open Go.ConcN (sumTo upd sumTo_upd upd_ne upd_same)
structure Ib where
 b2:Nat
 b3:Nat
 b5:Nat
 r:Nat
 q0:Nat
 q1:Nat
 q2:Nat
 q3:Nat
 sv:Value
 n:Int
namespace Ib
variable (s:Ib)
def own (x:Nat):Prop:=x=s.b2\/x=s.b3\/x=s.b5\/x=s.r\/x=s.q0\/x=s.q1\/x=s.q2\/x=s.q3
def pre:X_:=#[CK s.q0,CK s.q1,CK s.q2,CK s.q3]
def Still (l:Loc):Prop:=l=.cell (S_ s.b5)\/l=.cell (S_ s.b2)\/l=.cell (S_ s.b3)\/l=.cell (S_ s.r)\/l=.cell (T_ s.r 1)\/l=.cell (T_ s.r 2)\/l=.cell (T_ s.r 3)
def cells (w:World):Prop:=w.cell? (S_ s.b5)=some (pr s.r)/\w.cell? (S_ s.b2)=some s.sv/\w.cell? (S_ s.b3)=some (.int .i64 s.n)
def KW (w:World):Prop:=Cv s.r s.pre 257 w/\s.cells w
def lF (q:Nat):Prop:=q=s.q0\/q=s.q1\/q=s.q2\/q=s.q3
def Open (w:World):Prop:=∀q,s.lF q->∃k,w.heap[q]?=some (.chan 0 #[] false k k false)
def KS (w:World):Prop:=A7 s.r s.pre 257 w KK 0/\s.cells w/\s.Open w
structure Ok:Prop where
 bq:∀q,s.lF q->q≠s.b2/\q≠s.b3/\q≠s.b5/\q≠s.r
 br:s.b2≠s.r/\s.b3≠s.r/\s.b5≠s.r
 qq:s.q0≠s.q1/\s.q0≠s.q2/\s.q0≠s.q3/\s.q1≠s.q2/\s.q1≠s.q3/\s.q2≠s.q3
end Ib
section
variable {s:Ib} {Z:Nat->Prop} {w w':World}
theorem FO {a:Addr} {v:Value} (h:w.cell? a=some v) (e:w'.heap[a.block]?=w.heap[a.block]?):w'.cell? a=some v:=by
 unfold World.cell? at*;rw[e];exact h
theorem Ib.KS.weak (h:s.KS w):s.KW w:=⟨⟨_,_,h.1⟩,h.2.1⟩
theorem Ib.cells.keep (h:s.cells w) (e:∀x,(x=s.b5\/x=s.b2\/x=s.b3)->w'.heap[x]?=w.heap[x]?):s.cells w':=
 ⟨FO h.1 (e _ (.inl rfl)),FO h.2.1 (e _ (.inr (.inl rfl))),FO h.2.2 (e _ (.inr (.inr rfl)))⟩
theorem Iw {st sm:Int} (h:A7 s.r s.pre 257 w st sm):w.cell? (S_ s.r)=some (CK s.q0)/\w.cell? (T_ s.r 1)=some (CK s.q1)/\w.cell? (T_ s.r 2)=some (CK s.q2)/\w.cell? (T_ s.r 3)=some (CK s.q3):=by
 unfold A7 at h;refine⟨?_,?_,?_,?_⟩<;>simp[World.cell?,h,Ib.pre]
theorem Jf {a:Addr} {v:Value} (h:w.cell? a=some v):a.block<w.heap.size:=by
 unfold World.cell? at h;cases e:w.heap[a.block]? with
 | none=>rw[e]at h;simp at h
 | some o=>exact(Array.getElem?_eq_some_iff.1 e).1
theorem GV (h:s.KW w) {a:Addr} (hs:s.Still (.cell a)):a.block<w.heap.size:=by
 obtain⟨⟨st,sm,hr⟩,h5,h2,h3⟩:=h;obtain⟨c0,c1,c2,c3⟩:=Iw hr;rcases hs with e|e|e|e|e|e|e<;>(injection e with e;subst e;first|exact Jf h5|exact Jf h2|exact Jf h3|exact Jf c0|exact Jf c1|exact Jf c2|exact Jf c3)
theorem J9 (hZ:∀x,s.own x->Z x):N9 Z s.Still s.KS where
 keep:=fun w w' hk h=>⟨h.1.keep (hZ _ (by simp[Ib.own])) hk,h.2.1.keep fun x hx=>hk x (hZ _ (by rcases hx with e|e|e<;>simp[Ib.own,e])),fun q hq=>by
  obtain⟨k,e⟩:=h.2.2 q hq
  exact⟨k,by rw[hk q (hZ _ (by rcases hq with e|e|e|e<;>simp[Ib.own,e]))];exact e⟩⟩
 still:=fun w a h hs=>GV h.weak hs
theorem vE (hZ:∀x,s.own x->Z x):N9 Z s.Still s.KW where
 keep:=fun w w' hk h=>by
  obtain⟨⟨st,sm,hr⟩,hc⟩:=h
  exact⟨⟨st,sm,hr.keep (hZ _ (by simp[Ib.own])) hk⟩,hc.keep fun x hx=>hk x (hZ _ (by rcases hx with e|e|e<;>simp[Ib.own,e]))⟩
 still:=fun w a h hs=>GV h hs
theorem Kt:Ow s.KW s.Still s.b5 s.b2 s.b3 s.r s.q0 s.q1 s.q2 s.q3 s.sv s.n where
 c5:=fun _ h=>h.2.1
 s5:=.inl rfl
 c2:=fun _ h=>h.2.2.1
 s2:=.inr (.inl rfl)
 c3:=fun _ h=>h.2.2.2
 s3:=.inr (.inr (.inl rfl))
 r0:=fun _ h=>let ⟨_,_,hr⟩:=h.1;(Iw hr).1
 t0:=.inr (.inr (.inr (.inl rfl)))
 r1:=fun _ h=>let ⟨_,_,hr⟩:=h.1;(Iw hr).2.1
 t1:=.inr (.inr (.inr (.inr (.inl rfl))))
 r2:=fun _ h=>let ⟨_,_,hr⟩:=h.1;(Iw hr).2.2.1
 t2:=.inr (.inr (.inr (.inr (.inr (.inl rfl)))))
 r3:=fun _ h=>let ⟨_,_,hr⟩:=h.1;(Iw hr).2.2.2
 t3:=.inr (.inr (.inr (.inr (.inr (.inr rfl)))))
theorem Ht {q x d cap k k':Nat} {buf:X_} {cl tm:Bool} (h:q≠x):((w.at d).setChan q cap buf cl k k' tm).heap[x]?=w.heap[x]?:=by
 simp[World.setChan,World.at,Array.getElem?_setIfInBounds_ne h]
theorem Ib.KS.chan (O:s.Ok) {q:Nat} (hq:s.lF q) (h:s.KS w) (d k:Nat):s.KS ((w.at d).setChan q 0 #[] false k k false):=by
 obtain⟨e2,e3,e5,er⟩:=O.bq q hq;refine⟨?_,h.2.1.keep fun x hx=>?_,fun q' hq'=>?_⟩
 ·unfold A7;rw[Ht er];exact h.1
 ·rcases hx with e|e|e<;>subst e
  ·exact Ht e5
  ·exact Ht e2
  ·exact Ht e3
 ·by_cases e:q=q'
  ·subst e;obtain⟨k0,e0⟩:=h.2.2 q hq;have:=(Array.getElem?_eq_some_iff.1 e0).1;exact⟨k,by simp[World.setChan,World.at,this]⟩
  ·obtain⟨k0,e0⟩:=h.2.2 q' hq';exact⟨k0,by rw[Ht e];exact e0⟩
theorem Ib.KW.shut (O:s.Ok) (h:s.KW w) (k:Nat):s.KW (w.setChan s.q3 0 #[] true k k false):=by
 obtain⟨e2,e3,e5,er⟩:=O.bq s.q3 (.inr (.inr (.inr rfl)));have BN:∀x,s.q3≠x->(w.setChan s.q3 0 #[] true k k false).heap[x]?=w.heap[x]?:=fun x hx=>by simp[World.setChan,Array.getElem?_setIfInBounds_ne hx]
 obtain⟨⟨st,sm,hr⟩,hc⟩:=h;refine⟨⟨st,sm,by unfold A7;rw[BN _ er];exact hr⟩,hc.keep fun x hx=>?_⟩;rcases hx with e|e|e<;>subst e
 ·exact BN _ e5
 ·exact BN _ e2
 ·exact BN _ e3
theorem Ib.KW.set (O:s.Ok) (h:s.KW w) (m:Int) (d:Nat):s.KW ((w.at d).setCell (stA s.r s.pre) (.int .u64 m)):=by
 obtain⟨⟨st,sm,hr⟩,hc⟩:=h;have FW:A7 s.r s.pre 257 (w.at d) st sm:=hr;refine⟨⟨m,sm,FW.setSt m⟩,hc.keep fun x hx=>?_⟩;have:s.r≠x:=by rcases hx with e|e|e<;>subst e<;>first|exact O.br.2.2.symm|exact O.br.1.symm|exact O.br.2.1.symm
 simp[World.setCell,World.at,stA,Array.getElem?_modify,this]
theorem Qt {l:Loc} (h:I8 s.r s.pre l):¬s.Still l:=by
 have hp:s.pre.size=4:=rfl;intro hs;rcases h with e|e<;>subst e<;>rcases hs with e|e|e|e|e|e|e<;>simp[stA,smA,hp]at e
theorem Hy {Ac:Loc->Prop} {c j:Nat} (hW:∀l,I8 s.r s.pre l->Ac l/\¬s.Still l) (hss:∀l,s.Still l->¬Ac l):UH Ac s.Still j (Il c s.r s.pre) where
 ss:=hss
 calm:=fun _ _ h hu=>h.app fun op AO b hb ho=>((hu op AO).2.1 b hb).2 (hW _ ho).1
 reads:=fun _ _ h hu=>h.app fun op AO b hb ho=>((hW _ ho).2 (hu op AO b hb).2).elim
theorem Gv (hZ:∀x,s.own x->Z x):EP s.Still Z:=by
 refine⟨fun a hs=>?_,fun r hs=>?_⟩
 ·rcases hs with e|e|e|e|e|e|e<;>(injection e with e;subst e;apply hZ;simp[Ib.own])
 ·rcases hs with e|e|e|e|e|e|e<;>cases e
end
/-! ### silent steps, reckoned -/
theorem Gs {P:Program} {K:World->Prop} {main:Bool} {s:Option (TypeId×Nat)}:∀{n:Nat} {x y:Frame×Z_},CQ P s n x=some ([],y)->IJ P K main n (Bv x) (Bv y):=by
 intro n
 induction n with
 | zero=>
  intro x y h
  simp only[CQ,Option.some.injEq,Prod.mk.injEq,true_and]at h
  subst h;exact rfl
 | succ n ih=>
  intro x y h
  simp only[CQ]at h
  split at h
  ·rename_i l1 z hz;split at h
   ·rename_i l2 z' hz';simp only[Option.some.injEq,Prod.mk.injEq,List.append_eq_nil_iff]at h;obtain⟨⟨rfl,rfl⟩,rfl⟩:=h;exact⟨rfl,_,fun w _=>NG hz (by simp),ih hz'⟩
   ·cases h
  ·cases h
theorem Cy {P:Program} {K:World->Prop} {main:Bool} {n:Nat} {x:Frame×Z_} (h:Av P n x=some []):IJ P K main n (Bv x) (Bv (run P n x)):=by
 unfold Fxa.Av at h;obtain⟨⟨l,y⟩,hy,rfl⟩:=Option.map_eq_some_iff.1 h;have e:run P n x=y:=by unfold run;rw[hy]
 rw[e];exact Gs hy
/-! ### beside leavers -/
def JI (P:Program) (gs:Array Goroutine) (w:World) (sl:Option (W_)) (t:Trace) (Q:Array Goroutine->World->Trace->Prop):Prop:=
 ∃N AZ w' Cz t',runNT P N (crowd gs w sl) t=(.next (crowd AZ w' Cz),t')/\Q AZ w' t'
section
variable {P:Program} {gs:Array Goroutine} {w:World} {sl:Option (W_)} {t:Trace} {Q Q':Array Goroutine->World->Trace->Prop}
theorem AB.leads (h:AB P gs w sl t Q):JI P gs w sl t Q:=by
 obtain⟨N,gs1,w1,G6,t1,hr,_,h1⟩:=h;exact⟨N,gs1,w1,G6,t1,hr,h1⟩
theorem JI.now (hq:Q gs w t):JI P gs w sl t Q:=⟨0,gs,w,sl,t,rfl,hq⟩
theorem JI.bind (hq:JI P gs w sl t Q) (hk:∀AZ w' Cz t',Q AZ w' t'->JI P AZ w' Cz t' Q'):JI P gs w sl t Q':=by
 obtain⟨N,gs1,w1,G6,t1,hr,h1⟩:=hq;obtain⟨N2,gs2,w2,sl2,t2,hr2,h2⟩:=hk gs1 w1 G6 t1 h1;exact⟨N+N2,gs2,w2,sl2,t2,by rw[runNT_add,hr];exact hr2,h2⟩
theorem AB.then (hq:AB P gs w sl t Q) (hk:∀AZ w' Cz t',AZ.size=gs.size->Q AZ w' t'->JI P AZ w' Cz t' Q'):JI P gs w sl t Q':=by
 obtain⟨N,gs1,w1,G6,t1,hr,hs,h1⟩:=hq;obtain⟨N2,gs2,w2,sl2,t2,hr2,h2⟩:=hk gs1 w1 G6 t1 hs h1;exact⟨N+N2,gs2,w2,sl2,t2,by rw[runNT_add,hr];exact hr2,h2⟩
theorem JI.mono (hq:JI P gs w sl t Q) (hk:∀AZ w' t',Q AZ w' t'->Q' AZ w' t'):JI P gs w sl t Q':=by
 obtain⟨N,gs1,w1,G6,t1,hr,h1⟩:=hq;exact⟨N,gs1,w1,G6,t1,hr,hk _ _ _ h1⟩
variable {Ac:Loc->Prop} {Z:Nat->Prop} {B:Nat} {v:World}
theorem LA:Oy (Past Ac B):=fun _ _ _ _ _ hi Ex h=>h.mute hi Ex
theorem Beside.OO {Od:Old} {k:Nat} {a a':Goroutine} (Bs:Beside Od P Ac Z B v gs w t) (h0:gs[0]?=some a) (hs:IJ P (fun _=>True) true k a a'):AB P gs w sl t fun AZ w' t'=>AZ[0]?=some a'/\Beside Od P Ac Z B v AZ w' t'/\w'.heap=w.heap:=by
 obtain⟨q,T,hZ,hL,hP,hB⟩:=Bs;refine(Iu LA k hs (fun _=>trivial) h0 hL hP).mono fun AZ w' t' ⟨q',d,j1,j2,j3,j4⟩=>?_
 subst j2;exact⟨j1,⟨q',T.Ot v.tape w.tape v.drawn d,hZ,j3,j4,hB⟩,rfl⟩
theorem Beside.read {Od:Old} {x:Frame×Z_} {ad:Addr} {y u:Value} (Bs:Beside Od P Ac Z B v gs w t) (h0:gs[0]?=some (Bv x)) (hr:CL P x u=some ([ad],y)) (hc:w.cell? ad=some u) (hs:¬Ac (.cell ad)):
  AB P gs w sl t fun AZ w' t'=>AZ[0]?=some (Bv (Bj x y))/\Beside Od P Ac Z B v AZ w' t'/\w'.heap=w.heap:=by
 obtain⟨q,T,hZ,hL,hP,hB⟩:=Bs;have hw:RW P true (fun w=>w.cell? ad=some u) (fun l=>l=.cell ad) 1 (Bv x) (Bv (Bj x y)):=RW.at hr (fun _ h=>h) rfl;obtain⟨_,g1,es,Ex,BH,e⟩:=hw;have e':g1=Bv (Bj x y):=e;subst e';refine go_mute LA h0 rfl hL hP fun d t1 hP1=>⟨_,_,_,BH (w.at d) hc,fun AZ q' _ h' hL' Cz=>.now ⟨h',⟨q',T.Ot v.tape w.tape v.drawn d,hZ,hL',hP1.own fun e he=>?_,hB⟩,rfl⟩⟩
 obtain⟨a,rfl,ha⟩:=Ex e he;injection ha with ha;subst ha;refine⟨fun b hb hsh=>?_,by simp,by simp,?_⟩
 ·obtain rfl:=Option.some.inj hb;exact(hs hsh).elim
 ·have:=Jf hc;show a.block<B;omega
end
end Go.Fxa
namespace Go.Fxa
open Go.Conc Go.Proofs
def puts (P:Program) {α:Type}:Sem α->Option (List (Addr×Value)×α)
 | .pure a=>some ([],a)
 | .program k=>puts P (k P)
 | .store .plain a (.int t v) k=>(puts P k).map fun x=>((a,.int t v)::x.1,x.2)
 | .store .plain a (.func f x y) k=>(puts P k).map fun z=>((a,.func f x y)::z.1,z.2)
 | _=>none
def aM (w:World):List (Addr×Value)->Prop
 | []=>True
 | x::l=>(∃u,w.cell? x.1=some u)/\w.frozen? x.1=false/\aM (w.setCell x.1 x.2) l
def GM (w:World) (l:List (Addr×Value)):World:=l.foldl (fun w x=>w.setCell x.1 x.2) w
def F6 (l:List (Addr×Value)):Array Event:=(l.map fun x=>(⟨.cell x.1,true,false⟩:Event)).toArray
section
variable {P:Program}
theorem jS {α:Type} {e:Sem α} {a:α}:∀{l:List (Addr×Value)} {w:World},puts P e=some (l,a)->aM w l->∀es,e.runT P w es=(.ok a (GM w l),es++F6 l):=by
 induction e with
 | pure b=>
  intro l w h _ es
  simp only[puts,Option.some.injEq,Prod.mk.injEq]at h
  obtain⟨rfl,rfl⟩:=h
  simp[Sem.runT,GM,F6]
 | program k ih=>intro l w h hc es;exact ih P h hc es
 | store m ad v k ih=>
  intro l w h hc es
  have key:∀l0,l=(ad,v)::l0->m=.plain->puts P k=some (l0,a)->(∀u:World,(∃x,u.cell? ad=some x)->u.frozen? ad=false->(Sem.store m ad v k).runT P u es=k.runT P (u.setCell ad v) (es.push ⟨.cell ad,true,false⟩))->(Sem.store m ad v k).runT P w es=(.ok a (GM w l),es++F6 l):=by
   rintro l0 rfl rfl hk Bg
   obtain⟨h1,h2,h3⟩:=hc
   rw[Bg w h1 h2,ih hk h3]
   simp[GM,F6]
  cases m with
  | atomic=>cases v<;>simp[puts]at h
  | plain=>
   cases v with
   | int t x=>
    obtain⟨y,hy,e⟩:=Option.map_eq_some_iff.1 h
    simp only[Prod.mk.injEq]at e
    obtain⟨e1,e2⟩:=e
    refine key y.1 e1.symm rfl (by rw[hy,<-e2]) fun u ⟨z,hz⟩ hf=>?_
    simp only[Sem.runT,hz,hf,Bool.false_eq_true,if_false]
    rfl
   | func f c d=>
    obtain⟨y,hy,e⟩:=Option.map_eq_some_iff.1 h
    simp only[Prod.mk.injEq]at e
    obtain⟨e1,e2⟩:=e
    refine key y.1 e1.symm rfl (by rw[hy,<-e2]) fun u ⟨z,hz⟩ hf=>?_
    simp only[Sem.runT,hz,hf,Bool.false_eq_true,if_false]
    rfl
   | _=>simp[puts]at h
 | _=>intro l w h;simp[puts]at h
def Pv (P:Program) (x:Frame×Z_):Option (List (Addr×Value)):=match opAt x with
 | some o=>match puts P (execOp x.1.eval o)with
  | some (l,.skip)=>if(P.funcs[x.1.fn]?).any (·.norace)then none else some l
  | _=>none
 | none=>none
theorem QM {main:Bool} {x:Frame×Z_} {l:List (Addr×Value)} {w:World} (h:Pv P x=some l) (hc:aM w l):stepG P main (Bv x) w=.go (Bv (Bj x undef)) (GM w l) (F6 l):=by
 unfold Pv at h;split at h
 ·rename_i o ho;split at h
  ·rename_i l' hf;split at h
   ·cases h
   ·rename_i hq;obtain rfl:=Option.some.inj h;obtain⟨h1,h2⟩:=MI (P:=P) (main:=main) (w:=w) ho;show stepG P main (G x.1 x.2) w=_;rw[h1];have hs:seen P x.1.fn (#[]++F6 l')=F6 l':=by
     rw[Array.empty_append]
     exact seen_eq (by simpa using hq) (fun e he f=>by
      simp only[F6,List.mem_toArray,List.mem_map]at he
      obtain⟨a,_,rfl⟩:=he
      simp)
    simp only[stepG.apply,jS hf hc #[],if_true,GStep.after,Array.append_empty,h2,Bool.false_eq_true,if_false,hs]
    rfl
  ·cases h
 ·cases h
end
def mV:Obj:=.cells #[.int .u16 0,.int .u16 0,.nilFunc] 206 (0,0)
def Ll (x0 y0:Int) (fn:Fn) (ca cb:X_):Value:=.agg #[.int .u16 x0,.int .u16 y0,.func fn ca cb]
section
variable (P:Program) (q0 q1 q3:Nat) (x:Value) (x0 y0:Int) (fn:Fn) (ca cb:X_) (f:Y_) (Y:Z_) (k:Nat) (p:Int)
def zz0:=run P 9 (a0 P q0 q1 q3 x (Ll x0 y0 fn ca cb) f Y)
def zz1:=Bj (zz0 P q0 q1 q3 x x0 y0 fn ca cb f Y) (pr k)
def zz2:=run P 5 (Bj (zz1 P q0 q1 q3 x x0 y0 fn ca cb f Y k) undef)
def zz3:=run P 11 (Bj (zz2 P q0 q1 q3 x x0 y0 fn ca cb f Y k) (.func fn ca cb))
def zz4:=run P 3 (Bj (zz3 P q0 q1 q3 x x0 y0 fn ca cb f Y k) (.int .u16 p))
end
structure Qz (P:Program) (b5 b2 b3 r q0 q1 q3:Nat) (sa:Addr) (n:Int):Prop where
 c1:∀(f:Y_) (Y:Z_) (i:Int) (x:Value) (x0 y0:Int) (fn:Fn) (ca cb:X_),Av P 9 (a0 P q0 q1 q3 x (Ll x0 y0 fn ca cb) (AR f (DT r (.pointer (some sa)) n i 1 x)) Y)=some []
 c2:∀(f:Y_) (Y:Z_) (i:Int) (x:Value) (x0 y0:Int) (fn:Fn) (ca cb:X_) (w:World),stepG P false (Bv (zz0 P q0 q1 q3 x x0 y0 fn ca cb (AR f (DT r (.pointer (some sa)) n i 1 x)) Y)) w=.go (Bv (zz1 P q0 q1 q3 x x0 y0 fn ca cb (AR f (DT r (.pointer (some sa)) n i 1 x)) Y w.heap.size)) { w with heap:=w.heap.push mV } #[]
 c3:∀(f:Y_) (Y:Z_) (i:Int) (x:Value) (x0 y0:Int) (fn:Fn) (ca cb:X_) (k:Nat),Pv P (zz1 P q0 q1 q3 x x0 y0 fn ca cb (AR f (DT r (.pointer (some sa)) n i 1 x)) Y k)=some [((S_ k),.int .u16 x0),((T_ k 1),.int .u16 y0),((T_ k 2),.func fn ca cb)]
 c4:∀(f:Y_) (Y:Z_) (i:Int) (x:Value) (x0 y0:Int) (fn:Fn) (ca cb:X_) (k:Nat),Av P 5 (Bj (zz1 P q0 q1 q3 x x0 y0 fn ca cb (AR f (DT r (.pointer (some sa)) n i 1 x)) Y k) undef)=some []
 c5:∀(f:Y_) (Y:Z_) (i:Int) (x:Value) (x0 y0:Int) (fn:Fn) (ca cb:X_) (k:Nat),CL P (zz2 P q0 q1 q3 x x0 y0 fn ca cb (AR f (DT r (.pointer (some sa)) n i 1 x)) Y k) (.func fn ca cb)=some ([(T_ k 2)],.func fn ca cb)
 c6:∀(f:Y_) (Y:Z_) (i:Int) (x:Value) (x0 y0:Int) (fn:Fn) (ca cb:X_) (k:Nat),Av P 11 (Bj (zz2 P q0 q1 q3 x x0 y0 fn ca cb (AR f (DT r (.pointer (some sa)) n i 1 x)) Y k) (.func fn ca cb))=some []
 c7:∀(f:Y_) (Y:Z_) (i:Int) (x:Value) (x0 y0:Int) (fn:Fn) (ca cb:X_) (k:Nat) (p:Int),CL P (zz3 P q0 q1 q3 x x0 y0 fn ca cb (AR f (DT r (.pointer (some sa)) n i 1 x)) Y k) (.int .u16 p)=some ([sa.add 2],.int .u16 p)
 c8:∀(f:Y_) (Y:Z_) (i:Int) (x:Value) (x0 y0:Int) (fn:Fn) (ca cb:X_) (k:Nat) (p:Int),Av P 3 (Bj (zz3 P q0 q1 q3 x x0 y0 fn ca cb (AR f (DT r (.pointer (some sa)) n i 1 x)) Y k) (.int .u16 p))=some []
 c9:∀(f:Y_) (Y:Z_) (i:Int) (x:Value) (x0 y0:Int) (fn:Fn) (ca cb:X_) (k:Nat) (p:Int),Pv P (zz4 P q0 q1 q3 x x0 y0 fn ca cb (AR f (DT r (.pointer (some sa)) n i 1 x)) Y k p)=some [(sa.add 2,.int .u16 (IntKind.u16.wrap (p-2)))]
 ca:∀(f:Y_) (i:Int) (x:Value) (x0 y0:Int) (fn:Fn) (ca cb:X_) (k:Nat) (p:Int),CQ P (some (257,6)) 34 (Bj (zz4 P q0 q1 q3 x x0 y0 fn ca cb (AR f (DT r (.pointer (some sa)) n i 1 x)) (Qa P b5 b2 b3 r (.pointer (some sa)) n) k p) undef)=some ([r,r],dR P r (Oq P b5 b2 b3 r (.pointer (some sa)) n))
theorem eZ {b5 b2 b3 r q0 q1 q3:Nat} {sa:Addr} {n:Int}:Qz prog b5 b2 b3 r q0 q1 q3 sa n:=by
 constructor<;>intros<;>kernel_rfl
section
variable {P:Program} {b5 b2 b3 r q0 q1 q3:Nat} {sa:Addr} {n:Int} {Zl:Nat->Prop} {S0:Nat} {cs:X_} {OQ:TypeId} {p:Int} {pa pb pc pd:Value}
def Qj (cs:X_) (OQ:TypeId) (sa:Addr) (p:Int):Obj:=.cells (cs.setIfInBounds (sa.off+2) (.int .u16 (IntKind.u16.wrap (p-2)))) OQ (0,0)
def GL (cs:X_) (OQ:TypeId) (sa:Addr) (p:Int) (w:World):Prop:=w.heap[sa.block]?=some (Qj cs OQ sa p)
theorem QX (h1:Zl sa.block) (w w1:World) (ha:AgL Zl w w1) (h:GL cs OQ sa p w):GL cs OQ sa p w1:=by
 unfold GL;rw[ha _ h1];exact h
theorem eP (F:Qz P b5 b2 b3 r q0 q1 q3 sa n) (h1:Zl sa.block) (h2:∀x,S0<=x->Zl x) (BC:sa.block<S0) (hp:cs[sa.off+2]?=some (.int .u16 p)) (f:Y_) (i:Int) (x:Value) (x0 y0:Int) (fn:Fn) (ca cb:X_) {w:World} (hw:w.heap[sa.block]?=some (.cells cs OQ (0,0))) (hS:S0<w.heap.size):
  FV P r #[pa,pb,pc,pd] 257 Zl (Bv (dR P r (Oq P b5 b2 b3 r (.pointer (some sa)) n))) (GL cs OQ sa p) 67 (Conc.served (Bv (m3 P q0 q1 q3 x (AR f (DT r (.pointer (some sa)) n i 1 x)) (Qa P b5 b2 b3 r (.pointer (some sa)) n))) (commResult (Fh q1 q3) .select 0 (Ll x0 y0 fn ca cb) true)) w:=by
 have hX:=QX (Zl:=Zl) (cs:=cs) (OQ:=OQ) (p:=p) (sa:=sa) h1;have hcell:∀{w1:World},w1.heap[sa.block]?=some (.cells cs OQ (0,0))->w1.cell? (sa.add 2)=some (.int .u16 p)/\w1.frozen? (sa.add 2)=false:=fun {w1} h=>by
  constructor
  ·simp[World.cell?,Addr.add,h,hp]
  ·simp[World.frozen?,Addr.add,h]
 have L5:∀(k:Nat) (w:World),GL cs OQ sa p w->FV P r #[pa,pb,pc,pd] 257 Zl (Bv (dR P r (Oq P b5 b2 b3 r (.pointer (some sa)) n))) (GL cs OQ sa p) (34+0) (Bv (Bj (zz4 P q0 q1 q3 x x0 y0 fn ca cb (AR f (DT r (.pointer (some sa)) n i 1 x)) (Qa P b5 b2 b3 r (.pointer (some sa)) n) k p) undef)) w:=
  fun k w hx=>FV.OO hX (n:=0) ⟨rfl,hx⟩ (ER Fy (F.ca f i x x0 y0 fn ca cb k p) (by simp))
 have L4:∀(k:Nat) (w:World),w.heap[sa.block]?=some (.cells cs OQ (0,0))->FV P r #[pa,pb,pc,pd] 257 Zl (Bv (dR P r (Oq P b5 b2 b3 r (.pointer (some sa)) n))) (GL cs OQ sa p) 35 (Bv (zz4 P q0 q1 q3 x x0 y0 fn ca cb (AR f (DT r (.pointer (some sa)) n i 1 x)) (Qa P b5 b2 b3 r (.pointer (some sa)) n) k p)) w:=by
  intro k w hw
  refine⟨rfl,fun w1 ha _=>?_⟩
  have hw1:w1.heap[sa.block]?=some (.cells cs OQ (0,0)):=by rw[ha _ h1];exact hw
  obtain⟨c1,c2⟩:=hcell hw1
  have hlt1:=(Array.getElem?_eq_some_iff.1 hw1).1
  refine⟨_,_,_,QM (F.c9 f _ i x x0 y0 fn ca cb k p) ⟨⟨_,c1⟩,c2,trivial⟩,fun e he=>?_,?_,L5 k _ ?_⟩
  ·simp only[F6,List.map_cons,List.map_nil,List.mem_toArray,List.mem_cons,List.not_mem_nil,or_false]at he;subst he;exact⟨_,_,rfl,h1,by simpa [GM,World.setCell,Addr.add]using hlt1⟩
  ·refine⟨by simp[GM,World.setCell],fun y hy=>?_,rfl,rfl,rfl⟩;have:sa.block≠y:=fun e=>hy (e ▸ h1)
   simp[GM,World.setCell,Addr.add,Array.getElem?_modify,this]
  ·simp[GL,Qj,GM,World.setCell,Addr.add,Array.getElem?_modify,hw1]
 have L3:∀(k:Nat) (w:World),w.heap[sa.block]?=some (.cells cs OQ (0,0))->FV P r #[pa,pb,pc,pd] 257 Zl (Bv (dR P r (Oq P b5 b2 b3 r (.pointer (some sa)) n))) (GL cs OQ sa p) 39 (Bv (zz3 P q0 q1 q3 x x0 y0 fn ca cb (AR f (DT r (.pointer (some sa)) n i 1 x)) (Qa P b5 b2 b3 r (.pointer (some sa)) n) k)) w:=by
  intro k w hw
  refine⟨rfl,fun w1 ha _=>?_⟩
  have hw1:w1.heap[sa.block]?=some (.cells cs OQ (0,0)):=by rw[ha _ h1];exact hw
  obtain⟨c1,c2⟩:=hcell hw1
  have hlt1:=(Array.getElem?_eq_some_iff.1 hw1).1
  have hr:=RW.at (main:=false) (K:=fun w=>w=w1) (Still:=fun l=>l=.cell (sa.add 2)) (F.c7 f (Qa P b5 b2 b3 r (.pointer (some sa)) n) i x x0 y0 fn ca cb k p) (fun w hw=>by rw[hw];exact c1) rfl
  obtain⟨_,g1,es,Ex,BH,e⟩:=hr
  have e':g1=Bv (Bj (zz3 P q0 q1 q3 x x0 y0 fn ca cb (AR f (DT r (.pointer (some sa)) n i 1 x)) (Qa P b5 b2 b3 r (.pointer (some sa)) n) k) (.int .u16 p)):=e
  subst e'
  refine⟨_,_,_,BH w1 rfl,fun e he=>?_,BO.refl w1,FV.OO hX (n:=35) (L4 k w1 hw1) (Cy (F.c8 f _ i x x0 y0 fn ca cb k p))⟩
  obtain⟨a,rfl,ha'⟩:=Ex e he
  injection ha' with ha'
  subst ha'
  exact⟨_,_,rfl,h1,hlt1⟩
 have L2:∀(k:Nat) (w:World),S0<=k->w.heap[sa.block]?=some (.cells cs OQ (0,0))->w.heap[k]?=some (.cells #[.int .u16 x0,.int .u16 y0,.func fn ca cb] 206 (0,0))->FV P r #[pa,pb,pc,pd] 257 Zl (Bv (dR P r (Oq P b5 b2 b3 r (.pointer (some sa)) n))) (GL cs OQ sa p) 51 (Bv (zz2 P q0 q1 q3 x x0 y0 fn ca cb (AR f (DT r (.pointer (some sa)) n i 1 x)) (Qa P b5 b2 b3 r (.pointer (some sa)) n) k)) w:=by
  intro k w hk hw hkk
  refine⟨rfl,fun w1 ha _=>?_⟩
  have hw1:w1.heap[sa.block]?=some (.cells cs OQ (0,0)):=by rw[ha _ h1];exact hw
  have G8:w1.heap[k]?=some (.cells #[.int .u16 x0,.int .u16 y0,.func fn ca cb] 206 (0,0)):=by rw[ha _ (h2 k hk)];exact hkk
  have zO:=(Array.getElem?_eq_some_iff.1 G8).1
  have c1:w1.cell? (T_ k 2)=some (.func fn ca cb):=by simp[World.cell?,G8]
  have hr:=RW.at (main:=false) (K:=fun w=>w=w1) (Still:=fun l=>l=.cell (T_ k 2)) (F.c5 f (Qa P b5 b2 b3 r (.pointer (some sa)) n) i x x0 y0 fn ca cb k) (fun w hw=>by rw[hw];exact c1) rfl
  obtain⟨_,g1,es,Ex,BH,e⟩:=hr
  have e':g1=Bv (Bj (zz2 P q0 q1 q3 x x0 y0 fn ca cb (AR f (DT r (.pointer (some sa)) n i 1 x)) (Qa P b5 b2 b3 r (.pointer (some sa)) n) k) (.func fn ca cb)):=e
  subst e'
  refine⟨_,_,_,BH w1 rfl,fun e he=>?_,BO.refl w1,FV.OO hX (n:=39) (L3 k w1 hw1) (Cy (F.c6 f _ i x x0 y0 fn ca cb k))⟩
  obtain⟨a,rfl,ha'⟩:=Ex e he
  injection ha' with ha'
  subst ha'
  exact⟨_,_,rfl,h2 k hk,zO⟩
 have L1:∀(k:Nat) (w:World),S0<=k->w.heap[sa.block]?=some (.cells cs OQ (0,0))->w.heap[k]?=some mV->FV P r #[pa,pb,pc,pd] 257 Zl (Bv (dR P r (Oq P b5 b2 b3 r (.pointer (some sa)) n))) (GL cs OQ sa p) 57 (Bv (zz1 P q0 q1 q3 x x0 y0 fn ca cb (AR f (DT r (.pointer (some sa)) n i 1 x)) (Qa P b5 b2 b3 r (.pointer (some sa)) n) k)) w:=by
  intro k w hk hw hkk
  refine⟨rfl,fun w1 ha _=>?_⟩
  have hw1:w1.heap[sa.block]?=some (.cells cs OQ (0,0)):=by rw[ha _ h1];exact hw
  have G8:w1.heap[k]?=some mV:=by rw[ha _ (h2 k hk)];exact hkk
  have zO:=(Array.getElem?_eq_some_iff.1 G8).1
  have BN:k≠sa.block:=by omega
  refine⟨_,_,_,QM (F.c3 f _ i x x0 y0 fn ca cb k) ?_,fun e he=>?_,?_,FV.OO hX (n:=51) (L2 k _ hk ?_ ?_) (Cy (F.c4 f _ i x x0 y0 fn ca cb k))⟩
  ·refine⟨⟨.int .u16 0,?_⟩,?_,⟨.int .u16 0,?_⟩,?_,⟨.nilFunc,?_⟩,?_,trivial⟩<;>simp[World.cell?,World.frozen?,World.setCell,Array.getElem?_modify,G8,mV]
  ·simp only[F6,List.map_cons,List.map_nil,List.mem_toArray,List.mem_cons,List.not_mem_nil,or_false]at he;rcases he with rfl|rfl|rfl<;>exact⟨_,_,rfl,h2 k hk,by simpa [GM,World.setCell]using zO⟩
  ·refine⟨by simp[GM,World.setCell],fun y hy=>?_,rfl,rfl,rfl⟩;have:k≠y:=fun e=>hy (e ▸ h2 k hk)
   simp[GM,World.setCell,Array.getElem?_modify,this]
  ·simp[GM,World.setCell,Array.getElem?_modify,BN,hw1]
  ·simp[GM,World.setCell,Array.getElem?_modify,G8,mV]
 have L0:FV P r #[pa,pb,pc,pd] 257 Zl (Bv (dR P r (Oq P b5 b2 b3 r (.pointer (some sa)) n))) (GL cs OQ sa p) 58 (Bv (zz0 P q0 q1 q3 x x0 y0 fn ca cb (AR f (DT r (.pointer (some sa)) n i 1 x)) (Qa P b5 b2 b3 r (.pointer (some sa)) n))) w:=by
  refine⟨rfl,fun w1 ha _=>?_⟩
  have hw1:w1.heap[sa.block]?=some (.cells cs OQ (0,0)):=by rw[ha _ h1];exact hw
  have BA:S0<=w1.heap.size:=by
   have e1:=ha S0 (h2 S0 (Nat.le_refl _))
   rw[Array.getElem?_eq_getElem hS]at e1
   exact Nat.le_of_lt (Array.getElem?_eq_some_iff.1 e1).1
  refine⟨_,_,_,F.c2 f _ i x x0 y0 fn ca cb w1,by simp,?_,L1 w1.heap.size _ BA ?_ ?_⟩
  ·refine⟨by simp,fun y hy=>?_,rfl,rfl,rfl⟩;have:y≠w1.heap.size:=fun e=>hy (h2 y (by omega))
   simp only[Array.getElem?_push,this,if_false]
  ·have:=(Array.getElem?_eq_some_iff.1 hw1).1;simp only[Array.getElem?_push];rw[if_neg (by omega)];exact hw1
  ·simp
 rw[OE];exact FV.OO hX (n:=58) L0 (Cy (F.c1 f _ i x x0 y0 fn ca cb))
end
end Go.Fxa
namespace Go.Fxa
open Go.Conc
open Go.ConcN (sumTo upd sumTo_upd upd_ne upd_same)
theorem Gn {a b cc:CommCase} {m:Nat} (h:(#[a,b]:Array CommCase)[m]?=some cc):(m=0/\cc=a)\/(m=1/\cc=b):=by
 match m,h with
 | 0,h=>simp at h;exact .inl ⟨rfl,h.symm⟩
 | 1,h=>simp at h;exact .inr ⟨rfl,h.symm⟩
 | m+2,h=>simp at h
structure Env (Z:Nat->Prop) (Ac:Loc->Prop) (s:Ib) (c:Nat):Prop where
 IL:∀x,s.own x->Z x
 under:EP Ac Z
 ofw:∀l,I8 s.r s.pre l->Ac l
 ss:∀l,s.Still l->¬Ac l
 ok:s.Ok
 c0:c≠0
def ByK (P:Program) (s:Ib) (c:Nat) (gS:Goroutine):Nat->Goroutine->World->Trace->Prop:=KD P true s.KW s.KS (Il c s.r s.pre) s.Still (KL s.q0 s.q2) .select (·=gS)
def Ze (P:Program) (s:Ib) (c:Nat) (gC:Goroutine):Nat->Goroutine->World->Trace->Prop:=KD P (c==0) s.KW s.KS (Il c s.r s.pre) s.Still (Fh s.q1 s.q3) .select (·=gC)
def Eb (P:Program) (s:Ib):NR:=outs P s.r (Oq P s.b5 s.b2 s.b3 s.r s.sv s.n)
def ByX (P:Program) (s:Ib) (c:Nat) (Ph:Bool->Nat->Goroutine->World->Trace->Prop) (X:World->Prop) (k:Nat) (n:Nat) (g:Goroutine) (w:World) (t:Trace):Prop:=BP P c s.r s.pre 257 (Eb P s) Ph X false n g w t/\(w.heap[s.q3]?=some (.chan 0 #[] false k k false)/\s.cells w)
def zo (P:Program) (s:Ib) (c k:Nat):Nat->Goroutine->World->Trace->Prop:=ByX P s c aj7 (fun _=>True) k
def Gm (c g:Nat):Prop:=g=0\/g=c
section
variable {P:Program} {Z:Nat->Prop} {Ac:Loc->Prop} {s:Ib} {c:Nat}
theorem Env.w (E:Env Z Ac s c):∀l,I8 s.r s.pre l->Ac l/\¬s.Still l:=fun l h=>⟨E.ofw l h,Qt h⟩
theorem aa3:s.lF s.q0:=.inl rfl
theorem mU:s.lF s.q1:=.inr (.inl rfl)
theorem tO:s.lF s.q2:=.inr (.inr (.inl rfl))
theorem TU:s.lF s.q3:=.inr (.inr (.inr rfl))
theorem Env.zq (E:Env Z Ac s c) {q:Nat} (h:s.lF q):Z q:=E.IL q (by rcases h with e|e|e|e<;>simp[Ib.own,e])
theorem Jq {w:World} {q:Nat} {z:Value} (h:s.Open w) (hq:s.lF q):ET w (rcase q z):=by
 obtain⟨k,e⟩:=h q hq;exact⟨q,z,k,rfl,e⟩
theorem iw {w:World} (h:s.KS w):∀cc∈KL s.q0 s.q2,ET w cc:=by
 intro cc Fa;simp only[KL,List.mem_toArray,List.mem_cons,List.not_mem_nil,or_false]at Fa;rcases Fa with rfl|rfl
 ·exact Jq h.2.2 aa3
 ·exact Jq h.2.2 tO
theorem qA {w:World} (h:s.KS w):∀cc∈Fh s.q1 s.q3,ET w cc:=by
 intro cc Fa;simp only[Fh,List.mem_toArray,List.mem_cons,List.not_mem_nil,or_false]at Fa;rcases Fa with rfl|rfl
 ·exact Jq h.2.2 mU
 ·exact Jq h.2.2 TU
theorem zu (E:Env Z Ac s c):∀cc∈KL s.q0 s.q2,∃q z,cc=rcase q z/\Z q:=by
 intro cc Fa;simp only[KL,List.mem_toArray,List.mem_cons,List.not_mem_nil,or_false]at Fa;rcases Fa with rfl|rfl
 ·exact⟨_,_,rfl,E.zq aa3⟩
 ·exact⟨_,_,rfl,E.zq tO⟩
theorem fI (E:Env Z Ac s c):∀cc∈Fh s.q1 s.q3,∃q z,cc=rcase q z/\Z q:=by
 intro cc Fa;simp only[Fh,List.mem_toArray,List.mem_cons,List.not_mem_nil,or_false]at Fa;rcases Fa with rfl|rfl
 ·exact⟨_,_,rfl,E.zq mU⟩
 ·exact⟨_,_,rfl,E.zq TU⟩
theorem jQ {c c':Nat} {z z':Value} (h:rcase c z=rcase c' z'):c=c':=by simp[rcase]at h;exact h.1
theorem sV {cs:Array CommCase} (h:∀cc∈cs,∃q z,cc=rcase q z/\Z q):∀cc∈cs,∀c z,cc=rcase c z->Z c:=fun cc Fa c z e=>by
 obtain⟨q,z',e',hz⟩:=h cc Fa;rw[e]at e';rw[jQ e'];exact hz
theorem ak {gS:Goroutine} (E:Env Z Ac s c):Fp P Z Ac s.Still (fun B t=>PX Ac s.Still (Gm c) (fun g=>g=0) B c t) 0 (ByK P s c gS):=
 Rl (J9 E.IL) (fun _ h=>h.weak) (Hy E.w E.ss) (sV (zu E)) (.inl rfl) rfl
theorem RV {gC:Goroutine} (E:Env Z Ac s c):Fp P Z Ac s.Still (fun B t=>PX Ac s.Still (Gm c) (fun g=>g=c) B 0 t) c (Ze P s c gC):=
 Rl (J9 E.IL) (fun _ h=>h.weak) (Hy E.w E.ss) (sV (fI E)) (.inr rfl) rfl
theorem aj {Z0:Nat->Prop} {Sh St:Loc->Prop} {Z':Nat->Prop} {Ph:Bool->Nat->Goroutine->World->Trace->Prop} {X:World->Prop} {k:Nat} (hd:∀r tm td,Lh P r tm td) (hO:s.Ok) (hc:c≠0) (H:JF P Z0 Sh St (fun g=>g=c) c s.r s.pre 257 (Eb P s) Ph X) (h0:Z0 s.r) (hs:∀x,Z0 x->Z' x) (hW:∀l,I8 s.r s.pre l->Sh l/\¬St l) (hz:∀x,s.own x->Z' x) (hq:∀x,s.own x->x≠s.r->¬Z0 x):
  Fp P Z' Sh St (fun B t=>PX Sh St (fun g=>g=0) (fun g=>g=c) B 0 t) c (ByX P s c Ph X k):=
 dX H (Rp (hd _ _ _)) h0 hW hc hc hs fun w w' h e=>by
  have hq3:s.own s.q3:=by simp[Ib.own]
  refine⟨by rw[e _ (hq _ hq3 (hO.bq _ (.inr (.inr (.inr rfl)))).2.2.2) (hz _ hq3)];exact h.1,h.2.keep fun x hx=>?_⟩
  have ho:s.own x:=by rcases hx with e|e|e<;>simp[Ib.own,e]
  have hr:x≠s.r:=by rcases hx with e|e|e<;>subst e<;>first|exact hO.br.2.2|exact hO.br.1|exact hO.br.2.1
  exact e x (hq x ho hr) (hz x ho)
theorem ao8 {Z0:Nat->Prop} {Sh St:Loc->Prop} {Ph:Bool->Nat->Goroutine->World->Trace->Prop} {X:World->Prop} {k:Nat} (H:JF P Z0 Sh St (fun g=>g=c) c s.r s.pre 257 (Eb P s) Ph X) (n:Nat) (b:Goroutine) (w:World) (t:Trace) (h:ByX P s c Ph X k n b w t) (d:Nat):s.KW (w.at d):=by
 obtain⟨st,sm,hr⟩:=Sl H h.1;exact⟨⟨st,sm,hr⟩,h.2.2⟩
theorem oU {k:Nat} (hd:∀r tm td,Lh P r tm td) (E:Env Z Ac s c):Fp P Z Ac s.Still (fun B t=>PX Ac s.Still (fun g=>g=0) (fun g=>g=c) B 0 t) c (zo P s c k):=
 aj (Z0:=fun x=>x=s.r) hd E.ok E.c0 xX rfl (fun x hx=>E.IL _ (by rw[hx];simp[Ib.own])) E.w E.IL (fun _ _ h=>h)
theorem gu {gS:Goroutine} (n:Nat) (b:Goroutine) (w:World) (t:Trace) (h:ByK P s c gS n b w t) (d:Nat):s.KW (w.at d):=(h.1.1:s.KS w).weak
theorem yn {gC:Goroutine} (n:Nat) (b:Goroutine) (w:World) (t:Trace) (h:Ze P s c gC n b w t) (d:Nat):s.KW (w.at d):=(h.1.1:s.KS w).weak
theorem dL (E:Env Z Ac s c) (x:Value):Gives P Z Ac s.Still (Gm c) c 0 s.KW s.KS (Il c s.r s.pre) (KL s.q0 s.q2) (Xk s.q0 s.q3 x) 0 0 s.q0 x (.int .u16 0) (.int .u16 0) where
 leans:=J9 E.IL
 weak:=fun _ h=>h.weak
 lasts:=Hy E.w E.ss
 meets:={
  hkh:=rfl
  yO:=fun m cc hm h=>by
   rcases Gn h with⟨e,_⟩|⟨_,rfl⟩
   ·exact(hm e).elim
   ·exact⟨_,_,rfl,E.ok.qq.2.2.1.symm,E.zq TU⟩
  hkj:=rfl
  hoj:=fun m cc hm h=>by
   rcases Gn h with⟨e,_⟩|⟨_,rfl⟩
   ·exact(hm e).elim
   ·simp[rcase,E.ok.qq.2.1.symm]
  hrj:=zu E }
 jm:=.inr rfl
 jl:=.inl rfl
 opens:=fun w h m cc hm Fa=>by
  rcases Gn Fa with⟨e,_⟩|⟨_,rfl⟩
  ·exact(hm e).elim
  ·exact Jq h.2.2 TU
 keeps:=fun _ d k h=>h.chan E.ok aa3 d k
theorem kH (E:Env Z Ac s c) (o:Int):Gives P Z Ac s.Still (Gm c) c 0 s.KW s.KS (Il c s.r s.pre) (KL s.q0 s.q2) (Vo s.q2 s.q3 o) 0 1 s.q2 (.int .i64 o) (.int .i64 0) (.int .i64 0) where
 leans:=J9 E.IL
 weak:=fun _ h=>h.weak
 lasts:=Hy E.w E.ss
 meets:={
  hkh:=rfl
  yO:=fun m cc hm h=>by
   rcases Gn h with⟨e,_⟩|⟨_,rfl⟩
   ·exact(hm e).elim
   ·exact⟨_,_,rfl,E.ok.qq.2.2.2.2.2.symm,E.zq TU⟩
  hkj:=rfl
  hoj:=fun m cc hm h=>by
   rcases Gn h with⟨_,rfl⟩|⟨e,_⟩
   ·simp[rcase,E.ok.qq.2.1]
   ·exact(hm e).elim
  hrj:=zu E }
 jm:=.inr rfl
 jl:=.inl rfl
 opens:=fun w h m cc hm Fa=>by
  rcases Gn Fa with⟨e,_⟩|⟨_,rfl⟩
  ·exact(hm e).elim
  ·exact Jq h.2.2 TU
 keeps:=fun _ d k h=>h.chan E.ok tO d k
theorem PY (E:Env Z Ac s c) (A:Value):Gives P Z Ac s.Still (Gm c) 0 c s.KW s.KS (Il c s.r s.pre) (Fh s.q1 s.q3) (WS s.q1 A) 0 0 s.q1 A (.tuple #[]) Zr where
 leans:=J9 E.IL
 weak:=fun _ h=>h.weak
 lasts:=Hy E.w E.ss
 meets:={
  hkh:=rfl
  yO:=fun m cc hm h=>by
   match m,h with
   | 0,_=>exact(hm rfl).elim
   | m+1,h=>simp[WS]at h
  hkj:=rfl
  hoj:=fun m cc hm h=>by
   rcases Gn h with⟨e,_⟩|⟨_,rfl⟩
   ·exact(hm e).elim
   ·simp[rcase,E.ok.qq.2.2.2.2.1.symm]
  hrj:=fI E }
 jm:=.inl rfl
 jl:=.inr rfl
 opens:=fun w h m cc hm Fa=>by
  match m,Fa with
  | 0,_=>exact(hm rfl).elim
  | m+1,h=>simp[WS]at h
 keeps:=fun _ d k h=>h.chan E.ok mU d k
theorem Holds.last {Od:Old} {gs:Array Goroutine} {w:World} {sl:Option (W_)} {t:Trace} {a gS:Goroutine} {J:World->Prop} {k:Nat} (o:Int) (E:Env Z Ac s c) (Bg:a.status=.running) (GA:∀w,stepG P (c==0) a w=.comm a (Vo s.q2 s.q3 o) true .select w #[])
  (hout:IJ P (Cv s.r s.pre 257) false k (Conc.served a (commResult (Vo s.q2 s.q3 o) .select 0 undef false)) (Eb P s).gR)
  (H:Holds Od P Z Ac s.Still (Gm c) (fun g=>g=0) c 0 (ByK P s c gS) (fun g v=>g=a/\J v) gs w t):
  AB P gs w sl t fun AZ w' t'=>∃kq,Holds Od P Z Ac s.Still (fun g=>g=0) (fun g=>g=c) 0 c (zo P s c kq) (fun g v=>g=Conc.served gS (commResult (KL s.q0 s.q2) .select 1 (.int .i64 o) true)/\J v) AZ w' t':=by
 have M:=kH (P:=P) E o;obtain⟨q,n,B,g,v0,h1,⟨rfl,h2⟩,T,hZ,D⟩:=H;obtain⟨b,hb,xH⟩:=D.idle;have iY:s.KS w:=xH.1.1;refine(Sg (Ak:=fun g=>g=0) M.leans M.weak M.lasts M.meets M.jm M.jl rfl (es:=#[]) (n+sumTo gs.size q+1) n gs g w sl t q B (by omega) h1 Bg D (M.opens w iY) (fun d=>GA (w.at d)) (by simp)).bind fun AZ w' Cz t' BA Mt=>?_
 obtain⟨q',g₂,d,k',m1,m2,m3,m4,m5,rfl,m7,m8,m9,m10,_⟩:=Mt;have off:BO Z w ((w.at d).setChan s.q2 0 #[] false (k'+1) (k'+1) false):=Jr (E.zq tO) w d (k'+1) false;have hK':s.KS ((w.at d).setChan s.q2 0 #[] false (k'+1) (k'+1) false):=M.keeps w d (k'+1) iY;obtain⟨kq,hkq⟩:=hK'.2.2 s.q3 TU;refine .now ⟨kq,q',_,B,_,v0,m2,⟨by rw[m3];rfl,h2⟩,T.off hZ off,hZ,⟨D.ne.symm,.inl rfl,fun g hg=>.inl hg,⟨_,m1,.inr ⟨⟨m10,.inl ⟨k,rfl,hout,hK'.1,?_⟩⟩,trivial⟩,hkq,hK'.2.1⟩,fun i g h1 h2 h3=>m7 i g h2 h1 h3,m8,?_,?_⟩⟩
 ·exact m9.hears c (.inr rfl)
 ·exact(m9.fewer (IQ:=fun g=>g=0) fun g hg=>.inl hg).loosen (fun g hg=>(hg.2 hg.1).elim)
 ·rw[GY];exact D.size
end
structure DW (P:Program):Prop where
 Ey:PK P
 child:∀(b5 b2 b3 r q0 q1 q2 q3:Nat) (sv:Value) (n:Int),Dh P b5 b2 b3 r q0 q1 q2 q3 sv n
 ans:∀(r q0 q1 q3:Nat) (sv:Value) (n:Int),PL P r q0 q1 q3 sv n
 done:∀(r:Nat) (tm:X_) (td:List Item),Lh P r tm td
 add:∀(r:Nat) (c:Frame) (Y:Z_),Sn P r c Y
 wait:∀(r:Nat) (c:Frame) (Y:Z_),NL P r c Y
 mixed:P.follows .mixedOrders=true
 blk:Yl P
 back:∀(b5 b2 b3 r q0 q1 q3:Nat) (sa:Addr) (n:Int),Qz P b5 b2 b3 r q0 q1 q3 sa n
def gC (P:Program) (s:Ib) (f:Y_) (i:Int) (x:Value):Goroutine:=Bv (m3 P s.q0 s.q1 s.q3 x (AR f (DT s.r s.sv s.n i 1 x)) (Qa P s.b5 s.b2 s.b3 s.r s.sv s.n))
def Qk (P:Program) (s:Ib) (f:Y_) (td:List Item) (told:Value) (c0:Frame) (cs:Z_):Frame×Z_:=sR P (jr (AR f [(6,told)]) td::c0::cs) s.r
theorem Qn {s:Ib} (x:Nat):¬s.Still (.obj x):=by
 intro h;rcases h with e|e|e|e|e|e|e<;>cases e
section
variable {P:Program} {Z:Nat->Prop} {Ac:Loc->Prop} {s:Ib} {c:Nat} {gs:Array Goroutine} {w:World} {sl:Option (W_)} {t:Trace} {J:World->Prop} {f fc:Nat->Value} {i:Int} {x told:Value} {td:List Item} {c0:Frame} {cs:Z_}
theorem am4 (A:DW P) (g₂:Goroutine) (h:g₂=gC P s fc i x):Fu P false s.KW s.Still (Fh s.q1 s.q3) .select (·=gC P s fc i x) 0 { parked g₂ (Fh s.q1 s.q3) .select with status:=.running }:=by
 subst h;refine⟨gC P s fc i x,#[],rfl,rfl,by simp,fun w _=>?_⟩;exact Gj ((A.child s.b5 s.b2 s.b3 s.r s.q0 s.q1 s.q2 s.q3 s.sv s.n).m16 fc _ i x) w
theorem qm (A:DW P) (g₂:Goroutine) (h:g₂=gC P s fc i x):IJ P (Cv s.r s.pre 257) false 37 (Conc.served g₂ (commResult (Fh s.q1 s.q3) .select 1 (.agg #[]) false)) (Eb P s).gR:=by
 subst h;exact YY (A.child s.b5 s.b2 s.b3 s.r s.q0 s.q1 s.q2 s.q3 s.sv s.n) fc i x
theorem qR (O:s.Ok):∀(m:Nat) cc,m≠1->(Fh s.q1 s.q3)[m]?=some cc->cc.chan≠.chan (some s.q3):=fun m cc hm h=>by
 rcases Gn h with⟨_,rfl⟩|⟨e,_⟩
 ·simp[rcase,O.qq.2.2.2.2.1]
 ·exact(hm e).elim
def Xm (P:Program) (Z:Nat->Prop) (Ac:Loc->Prop) (X:World->Prop) (c0:Frame) (cs:Z_) (told:Value) (w:World) (AZ:Array Goroutine) (w':World) (t':Trace):Prop:=
 ∃q' B',AZ[0]?=some (G (c0.finish told) cs)/\BO Z w w'/\Leavers P t' AZ q'/\Past Ac B' t'/\w'.heap.size<=B'/\X w'
theorem Xm.off {Z:Nat->Prop} {Ac:Loc->Prop} {X:World->Prop} {w1:World} {AZ:Array Goroutine} {w':World} {t':Trace} (ho:BO Z w w1) (h:Xm P Z Ac X c0 cs told w1 AZ w' t'):Xm P Z Ac X c0 cs told w AZ w' t':=by
 obtain⟨q',B',j1,j2,j3⟩:=h;exact⟨q',B',j1,ho.trans j2,j3⟩
theorem Oi {Sh St:Loc->Prop} {Ph:Bool->Nat->Goroutine->World->Trace->Prop} {X:World->Prop} (A:DW P) (HP:JF P Z Sh St (fun g=>g=c) c s.r s.pre 257 (Eb P s) Ph X) (hS0:∀l,Sh l->¬St l->Ac l) (hr:Z s.r) (hW:∀l,I8 s.r s.pre l->Sh l/\¬St l) (hc:c≠0) (hX:∀w d,X w->X (w.at d))
  {n B:Nat} {q:Nat->Nat} (h0:gs[0]?=some (Bv (sD P (jr (AR f [(6,told)]) td::c0::cs) s.r s.q3)))
  (D:Duo P Sh St (fun g=>g=0) (fun g=>g=c) B 0 c (BP P c s.r s.pre 257 (Eb P s) Ph X false) n gs w t q):
  AB P gs w sl t (Xm P Z Ac X c0 cs told w):=by
 have OC:Fp P Z Sh St (fun B t=>PX Sh St (fun g=>g=0) (fun g=>g=c) B 0 t) c (BP P c s.r s.pre 257 (Eb P s) Ph X false):=KU HP (Rp (A.done _ _ _)) hr hW hc hc;refine(FJ (J:=fun _=>True) (fun _ _ _ _ _ _=>trivial) OC 6 (Cy (A.Ey.sDa _ _ _)) h0 D).bind fun gs1 w1 G6 t1 _ ⟨q1,n1,B1,h1,o1,_,D1⟩=>?_
 rw[A.Ey.sDb]at h1;refine(join HP hS0 (Rp (A.done _ _ _)) (uf (A.wait _ _ _)) hr hW hc h1 D1).bind fun gs2 w2 sl2 t2 _ ⟨q2,B2,h2,o2,_,L2,P2,S2,X2⟩=>?_
 refine(Iu LA _ (Gs (K:=fun _=>True) (A.Ey.end_ _ _ _ _ _ _ _)) (fun _=>trivial) h2 L2 P2).mono fun lV w3 t3 ⟨q3,d,j1,j2,j3,j4⟩=>?_
 subst j2;exact⟨q3,B2,j1,(o1.trans o2).trans (BO.at w2 d),j3,j4,S2,hX w2 d X2⟩
theorem YV {Od:Old} (A:DW P) (E:Env Z Ac s c) (H:Holds Od P Z Ac s.Still (Gm c) (fun g=>g=c) 0 c (Ze P s c (gC P s fc i x)) (fun g v=>g=Bv (Qk P s f td told c0 cs)/\J v) gs w t):
  AB P gs w sl t fun AZ w' t'=>∃v B,J v/\AZ[0]?=some (G (c0.finish told) cs)/\Beside Od P Ac Z B v AZ w' t':=by
 refine(H.walk (sl:=sl) yn (fun w a h hs=>GV h hs) E.ss (RV E) (RW.at (A.Ey.sRa _ _ s.q3) (fun w h=>let ⟨_,_,hr⟩:=h.1;(Iw hr).2.2.2) (Kt (s:=s)).t3)).bind fun gs1 w1 G6 t1 _ H1=>?_
 obtain⟨q1,n1,B1,g,v,h1,⟨rfl,h2⟩,T,hZ,D⟩:=H1;have hr:Z s.r:=E.IL _ (by simp[Ib.own]);refine(dY (Ak:=fun g=>g=c) (home:=(·=gC P s fc i x)) (o:=Eb P s) (kR:=37) (zq:=.agg #[]) (J9 E.IL) (fun _ h=>h.weak) (Hy E.w E.ss) E.c0 Qn (sV (fI E)) rfl (fun _ h=>h) (fun _ h=>h.1) (fun _ k h=>h.shut E.ok k) (E.ok.bq _ TU).2.2.2.symm rfl (qR E.ok) (am4 A) (A.Ey.sCw _ _ _) rfl rfl (fun w1 k _ hq d=>Tp (A.Ey.sCa _ _ _) hq) h1 D).bind fun gs2 w2 sl2 t2 _ ⟨q2,n2,B2,k1,k2,_,D2⟩=>?_
 refine(Oi (Ac:=Ac) A (uw (vE E.IL) (sV (fI E)) hr E.w E.c0 rfl (qm A) fun w n d h=>h.set E.ok n d) (fun _ h _=>h) hr E.w E.c0 (fun _ _ h=>h) k1 D2).mono fun AZ w' t' ⟨q',B',j1,j2,j3,j4,j5,_⟩=>?_
 exact⟨v,B',h2,j1,q',(T.off hZ k2).off hZ j2,hZ,j3,j4,j5⟩
theorem Tn {Z0:Nat->Prop} {Sh St:Loc->Prop} {Ph:Bool->Nat->Goroutine->World->Trace->Prop} {X:World->Prop} {kq:Nat} (A:DW P) (hO:s.Ok) (hc:c≠0) (H:JF P Z0 Sh St (fun g=>g=c) c s.r s.pre 257 (Eb P s) Ph X) (hr0:Z0 s.r) (hs:∀x,Z0 x->Z x) (hW:∀l,I8 s.r s.pre l->Sh l/\¬St l) (hz:∀x,s.own x->Z x) (hq:∀x,s.own x->x≠s.r->¬Z0 x)
  (hSS:∀l,s.Still l->¬Sh l) (hSo:∀x,¬St (.obj x)) (hS0:∀l,Sh l->¬St l->Ac l) (hX:∀w d,X w->X (w.at d)) {n B:Nat} {q:Nat->Nat} (h0:gs[0]?=some (Bv (Qk P s f td told c0 cs))) (D:Duo P Sh St (fun g=>g=0) (fun g=>g=c) B 0 c (ByX P s c Ph X kq) n gs w t q):
  AB P gs w sl t (Xm P Z Ac X c0 cs told w):=by
 have OB:=aj (k:=kq) A.done hO hc H hr0 hs hW hz hq;refine(ZQ (S0:=s.Still) (ao8 H) (fun w a h hs=>GV h hs) hSS OB 1 (RW.at (A.Ey.sRa _ _ s.q3) (fun w h=>let ⟨_,_,hr⟩:=h.1;(Iw hr).2.2.2) (Kt (s:=s)).t3) h0 D).bind fun gs1 w1 G6 t1 _ ⟨q1,n1,B1,h1,o1,_,D1⟩=>?_
 have hq3:s.own s.q3:=by simp[Ib.own]
 refine(kU (Z:=Z) (X2:=fun w=>w.heap[s.q3]?=some (.chan 0 #[] false kq kq false)/\s.cells w) H (Rp (A.done _ _ _)) hr0 hW hc hSo (hz _ hq3) (hq _ hq3 (hO.bq _ TU).2.2.2) rfl (fun _ h=>h.1) (fun w1 hq d=>Tp (A.Ey.sCa _ _ _) hq) h1 OB D1).bind fun gs2 w2 sl2 t2 _ ⟨q2,n2,B2,k1,k2,_,D2⟩=>?_
 exact(Oi (Ac:=Ac) A (H.sub hs) hS0 (hs _ hr0) hW hc hX k1 D2).mono fun AZ w' t' h=>(h.off k2).off o1
theorem QU {Od:Old} (A:DW P) (E:Env Z Ac s c) {kq:Nat} (H:Holds Od P Z Ac s.Still (fun g=>g=0) (fun g=>g=c) 0 c (zo P s c kq) (fun g v=>g=Bv (Qk P s f td told c0 cs)/\J v) gs w t):
  AB P gs w sl t fun AZ w' t'=>∃v B,J v/\AZ[0]?=some (G (c0.finish told) cs)/\Beside Od P Ac Z B v AZ w' t':=by
 obtain⟨q1,n1,B1,g,v,h1,⟨rfl,h2⟩,T,hZ,D⟩:=H;refine(Tn (Z0:=fun x=>x=s.r) (Ac:=Ac) A E.ok E.c0 xX rfl (fun x hx=>E.IL _ (by rw[hx];simp[Ib.own])) E.w E.IL (fun _ _ h=>h) E.ss Qn (fun _ h _=>h) (fun _ _ h=>h) h1 D).mono fun AZ w' t' ⟨q',B',j1,j2,j3,j4,j5,_⟩=>?_
 exact⟨v,B',h2,j1,q',T.off hZ j2,hZ,j3,j4,j5⟩
end
end Go.Fxa
