/- Where a process goes on: the b -/
import Derived.Test.YtmhplpfpcnjekaaGreatA12
open Go.Proofs.Tryz
namespace Go.Fxa
open Go.Conc
open Go.ConcN (sumTo upd sumTo_upd upd_ne upd_same)
structure JF where
 b2:Nat
 b3:Nat
 b5:Nat
 r:Nat
 q0:Nat
 q1:Nat
 q2:Nat
 q3:Nat
 sv:n_
 n:Int
namespace JF
variable (s:JF)
def own (x:Nat):Prop:=x=s.b2\/x=s.b3\/x=s.b5\/x=s.r\/x=s.q0\/x=s.q1\/x=s.q2\/x=s.q3
def pre:X_:=#[DI s.q0,DI s.q1,DI s.q2,DI s.q3]
def Still (l:Loc):Prop:=l=.cell (S_ s.b5)\/l=.cell (S_ s.b2)\/l=.cell (S_ s.b3)\/l=.cell (S_ s.r)\/l=.cell (T_ s.r 1)\/l=.cell (T_ s.r 2)\/l=.cell (T_ s.r 3)
def cells (w:o_):Prop:=w.cell? (S_ s.b5)=some (pr s.r)/\w.cell? (S_ s.b2)=some s.sv/\w.cell? (S_ s.b3)=some (b_ s.n)
def KW (w:o_):Prop:=Dj s.r s.pre 257 w/\s.cells w
def wZ (q:Nat):Prop:=q=s.q0\/q=s.q1\/q=s.q2\/q=s.q3
def Open (w:o_):Prop:=∀q,s.wZ q->∃k,w.heap[q]?=some (.chan 0 #[] false k k false)
def KS (w:o_):Prop:=Bh s.r s.pre 257 w KK 0/\s.cells w/\s.Open w
structure Ok:Prop where
 bq:∀q,s.wZ q->q≠s.b2/\q≠s.b3/\q≠s.b5/\q≠s.r
 br:s.b2≠s.r/\s.b3≠s.r/\s.b5≠s.r
 qq:s.q0≠s.q1/\s.q0≠s.q2/\s.q0≠s.q3/\s.q1≠s.q2/\s.q1≠s.q3/\s.q2≠s.q3
end JF
section
variable {s:JF} {Z:Nat->Prop} {w w':o_}
theorem G5 {a:f_} {v:n_} (h:w.cell? a=some v) (e:w'.heap[a.block]?=w.heap[a.block]?):w'.cell? a=some v:=by
 unfold World.cell? at*;rw[e];exact h
theorem JF.KS.weak (h:s.KS w):s.KW w:=⟨⟨_,_,h.1⟩,h.2.1⟩
theorem JF.cells.keep (h:s.cells w) (e:∀x,(x=s.b5\/x=s.b2\/x=s.b3)->w'.heap[x]?=w.heap[x]?):s.cells w':=
 ⟨G5 h.1 (e _ (.inl rfl)),G5 h.2.1 (e _ (.inr (.inl rfl))),G5 h.2.2 (e _ (.inr (.inr rfl)))⟩
theorem JU {st sm:Int} (h:Bh s.r s.pre 257 w st sm):w.cell? (S_ s.r)=some (DI s.q0)/\w.cell? (T_ s.r 1)=some (DI s.q1)/\w.cell? (T_ s.r 2)=some (DI s.q2)/\w.cell? (T_ s.r 3)=some (DI s.q3):=by
 unfold Bh at h;refine⟨?_,?_,?_,?_⟩<;>simp[World.cell?,h,JF.pre]
theorem cell_lt {a:f_} {v:n_} (h:w.cell? a=some v):a.block<w.heap.size:=by
 unfold World.cell? at h;cases e:w.heap[a.block]? with
 |none=>rw[e]at h;simp at h
 |some o=>exact(y_.1 e).1
theorem Jc (h:s.KW w) {a:f_} (hs:s.Still (.cell a)):a.block<w.heap.size:=by
 obtain⟨⟨k,j,i⟩,g,d,f⟩:=h;obtain⟨b,c,c2,c3⟩:=JU i;obtain e|e|e|e|e|e|e:=hs<;>(injection e with e;subst e;first|exact cell_lt g|exact cell_lt d|exact cell_lt f|exact cell_lt b|exact cell_lt c|exact cell_lt c2|exact cell_lt c3)
theorem Np (hZ:∀x,s.own x->Z x):QP Z s.Still s.KS where
 keep:=λw g b h=>⟨h.1.keep (hZ _ (by simp[JF.own])) b,h.2.1.keep λx f=>b x (hZ _ (by obtain e|e|e:=f<;>simp[JF.own,e])),λq c=>by
  obtain⟨k,e⟩:=h.2.2 q c
  exact⟨k,by rw[b q (hZ _ (by obtain e|e|e|e:=c<;>simp[JF.own,e]))];exact e⟩⟩
 still:=λw a h d=>Jc h.weak d
theorem ag8 (hZ:∀x,s.own x->Z x):QP Z s.Still s.KW where
 keep:=λw k b h=>by
  obtain⟨⟨j,i,d⟩,c⟩:=h
  exact⟨⟨j,i,d.keep (hZ _ (by simp[JF.own])) b⟩,c.keep λx g=>b x (hZ _ (by obtain e|e|e:=g<;>simp[JF.own,e]))⟩
 still:=λw a h f=>Jc h f
theorem NK:Rf s.KW s.Still s.b5 s.b2 s.b3 s.r s.q0 s.q1 s.q2 s.q3 s.sv s.n where
 c5:=λ_ h=>h.2.1
 s5:=.inl rfl
 c2:=λ_ h=>h.2.2.1
 s2:=.inr (.inl rfl)
 c3:=λ_ h=>h.2.2.2
 s3:=.inr (.inr (.inl rfl))
 r0:=λ_ h=>let ⟨_,_,hr⟩:=h.1;(JU hr).1
 t0:=.inr (.inr (.inr (.inl rfl)))
 r1:=λ_ h=>let ⟨_,_,hr⟩:=h.1;(JU hr).2.1
 t1:=.inr (.inr (.inr (.inr (.inl rfl))))
 r2:=λ_ h=>let ⟨_,_,hr⟩:=h.1;(JU hr).2.2.1
 t2:=.inr (.inr (.inr (.inr (.inr (.inl rfl)))))
 r3:=λ_ h=>let ⟨_,_,hr⟩:=h.1;(JU hr).2.2.2
 t3:=.inr (.inr (.inr (.inr (.inr (.inr rfl)))))
theorem Jt {q x d cap k k':Nat} {buf:X_} {cl tm:Bool} (h:q≠x):((w.at d).setChan q cap buf cl k k' tm).heap[x]?=w.heap[x]?:=by
 simp[World.setChan,World.at,z_ h]
theorem JF.KS.chan (O:s.Ok) {q:Nat} (hq:s.wZ q) (h:s.KS w) (d k:Nat):s.KS ((w.at d).setChan q 0 #[] false k k false):=by
 obtain⟨e2,e3,g,i⟩:=O.bq q hq;refine⟨?_,h.2.1.keep λx j=>?_,λf b=>?_⟩
 .unfold Bh;rw[Jt i];exact h.1
 .obtain e|e|e:=j<;>subst e
  .exact Jt g
  .exact Jt e2
  .exact Jt e3
 .by_cases e:q=f
  .subst e;obtain⟨c,a⟩:=h.2.2 q hq;have:=(y_.1 a).1;exact⟨k,by simp[World.setChan,World.at,this]⟩
  .obtain⟨c,a⟩:=h.2.2 f b;exact⟨c,by rw[Jt e];exact a⟩
theorem JF.KW.shut (O:s.Ok) (h:s.KW w) (k:Nat):s.KW (w.setChan s.q3 0 #[] true k k false):=by
 obtain⟨e2,e3,c,d⟩:=O.bq s.q3 (.inr (.inr (.inr rfl)));have a:∀x,s.q3≠x->(w.setChan s.q3 0 #[] true k k false).heap[x]?=w.heap[x]?:=λx b=>by simp[World.setChan,z_ b]
 obtain⟨⟨j,i,g⟩,f⟩:=h;refine⟨⟨j,i,by unfold Bh;rw[a _ d];exact g⟩,f.keep λx b=>?_⟩;obtain e|e|e:=b<;>subst e
 .exact a _ c
 .exact a _ e2
 .exact a _ e3
theorem JF.KW.set (O:s.Ok) (h:s.KW w) (m:Int) (d:Nat):s.KW ((w.at d).setCell (stA s.r s.pre) (.int .u64 m)):=by
 obtain⟨⟨i,a,f⟩,c⟩:=h;have b:Bh s.r s.pre 257 (w.at d) i a:=f;refine⟨⟨m,a,b.setSt m⟩,c.keep λx g=>?_⟩;have:s.r≠x:=by obtain e|e|e:=g<;>subst e<;>first|exact O.br.2.2.symm|exact O.br.1.symm|exact O.br.2.1.symm
 simp[World.setCell,World.at,stA,Array.getElem?_modify,this]
theorem Ut {l:Loc} (h:KD s.r s.pre l):¬s.Still l:=by
 have a:s.pre.size=4:=rfl;intro b;obtain e|e:=h<;>subst e<;>obtain e|e|e|e|e|e|e:=b<;>simp[stA,smA,a]at e
theorem Jy {Ac:Loc->Prop} {c j:Nat} (hW:∀l,KD s.r s.pre l->Ac l/\¬s.Still l) (hss:∀l,s.Still l->¬Ac l):YD Ac s.Still j (JO c s.r s.pre) where
 ss:=hss
 calm:=λ_ _ h f=>h.app λop a b d e=>((f op a).2.1 b d).2 (hW _ e).1
 reads:=λ_ _ h f=>h.app λop a b d e=>((hW _ e).2 (f op a b d).2).elim
theorem IQ (hZ:∀x,s.own x->Z x):FT s.Still Z:=by
 refine⟨λa b=>?_,λr b=>?_⟩
 .obtain e|e|e|e|e|e|e:=b<;>(injection e with e;subst e;apply hZ;simp[JF.own])
 .obtain e|e|e|e|e|e|e:=b<;>cases e
end
/-! ### silent steps, reckoned -/
theorem IK {P:l_} {K:o_->Prop} {main:Bool} {s:d_ (j_×Nat)}:∀{n:Nat} {x y:Frame×Z_},DR P s n x=some ([],y)->J5 P K main n (BD x) (BD y):=by
 intro n
 induction n with
 |zero=>
  intro x y h
  simp only[DR,Option.some.injEq,Prod.mk.injEq,true_and]at h
  subst h;exact rfl
 |succ n c=>
  intro x y h
  simp only[DR]at h
  split at h
  .rename_i d z b;split at h
   .rename_i e f a;simp only[Option.some.injEq,Prod.mk.injEq,List.append_eq_nil_iff]at h;obtain⟨⟨rfl,rfl⟩,rfl⟩:=h;exact⟨rfl,_,λw _=>QB b (by simp),c a⟩
   .cases h
  .cases h
theorem Dv {P:l_} {K:o_->Prop} {main:Bool} {n:Nat} {x:Frame×Z_} (h:Ar P n x=some []):J5 P K main n (BD x) (BD (run P n x)):=by
 unfold Fxa.Ar at h;obtain⟨⟨l,y⟩,a,rfl⟩:=Option.map_eq_some_iff.1 h;have e:run P n x=y:=by unfold run;rw[a]
 rw[e];exact IK a
/-! ### beside leavers -/
def LX (P:l_) (gs:Array m_) (w:o_) (sl:d_ (W_)) (t:Trace) (Q:Array m_->o_->Trace->Prop):Prop:=
 ∃N A7 w' DJ t',runNT P N (crowd gs w sl) t=(.next (crowd A7 w' DJ),t')/\Q A7 w' t'
section
variable {P:l_} {gs:Array m_} {w:o_} {sl:d_ (W_)} {t:Trace} {Q Q':Array m_->o_->Trace->Prop}
theorem AA.leads (h:AA P gs w sl t Q):LX P gs w sl t Q:=by
 obtain⟨N,a,w1,b,e,d,_,c⟩:=h;exact⟨N,a,w1,b,e,d,c⟩
theorem LX.now (hq:Q gs w t):LX P gs w sl t Q:=⟨0,gs,w,sl,t,rfl,hq⟩
theorem LX.bind (hq:LX P gs w sl t Q) (hk:∀A7 w' DJ t',Q A7 w' t'->LX P A7 w' DJ t' Q'):LX P gs w sl t Q':=by
 obtain⟨N,a,w1,e,j,i,g⟩:=hq;obtain⟨f,b,w2,d,k,c,h⟩:=hk a w1 e j g;exact⟨N+f,b,w2,d,k,by rw[runNT_add,i];exact c,h⟩
theorem AA.then (hq:AA P gs w sl t Q) (hk:∀A7 w' DJ t',A7.size=gs.size->Q A7 w' t'->LX P A7 w' DJ t' Q'):LX P gs w sl t Q':=by
 obtain⟨N,a,w1,e,k,i,j,g⟩:=hq;obtain⟨f,b,w2,d,l,c,h⟩:=hk a w1 e k j g;exact⟨N+f,b,w2,d,l,by rw[runNT_add,i];exact c,h⟩
theorem LX.mono (hq:LX P gs w sl t Q) (hk:∀A7 w' t',Q A7 w' t'->Q' A7 w' t'):LX P gs w sl t Q':=by
 obtain⟨N,a,w1,b,e,d,c⟩:=hq;exact⟨N,a,w1,b,e,d,hk _ _ _ c⟩
variable {Ac:Loc->Prop} {Z:Nat->Prop} {B:Nat} {v:o_}
theorem Ru:Ri (Past Ac B):=λ_ _ _ _ _ b a h=>h.mute b a
theorem Beside.RH {Od:Old} {k:Nat} {a a':m_} (Bs:Beside Od P Ac Z B v gs w t) (h0:gs[0]?=some a) (hs:J5 P (λ_=>True) true k a a'):AA P gs w sl t λA7 w' t'=>A7[0]?=some a'/\Beside Od P Ac Z B v A7 w' t'/\w'.heap=w.heap:=by
 obtain⟨q,T,f,c,e,b⟩:=Bs;refine(JS Ru k hs (λ_=>trivial) h0 c e).mono λA7 w' t' ⟨l,d,g,h,i,j⟩=>?_
 subst h;exact⟨g,⟨l,T.V8 v.tape w.tape v.drawn d,f,i,j,b⟩,rfl⟩
theorem Beside.read {Od:Old} {x:Frame×Z_} {ad:f_} {y u:n_} (Bs:Beside Od P Ac Z B v gs w t) (h0:gs[0]?=some (BD x)) (hr:DL P x u=some ([ad],y)) (hc:w.cell? ad=some u) (hs:¬Ac (.cell ad)):
  AA P gs w sl t λA7 w' t'=>A7[0]?=some (BD (BB x y))/\Beside Od P Ac Z B v A7 w' t'/\w'.heap=w.heap:=by
 obtain⟨q,T,z,r,s,p⟩:=Bs;have D:RW P true (λw=>w.cell? ad=some u) (λl=>l=.cell ad) 1 (BD x) (BD (BB x y)):=RW.at hr (λ_ h=>h) rfl;obtain⟨_,n,G,k,j,e⟩:=D;have m:n=BD (BB x y):=e;subst m;refine go_mute Ru h0 rfl r s λd H f=>⟨_,_,_,j (w.at d) hc,λA7 E _ o c F=>.now ⟨o,⟨E,T.V8 v.tape w.tape v.drawn d,z,c,f.own λe C=>?_,p⟩,rfl⟩⟩
 obtain⟨a,rfl,g⟩:=k e C;injection g with g;subst g;refine⟨λb A i=>?_,by simp,by simp,?_⟩
 .obtain rfl:=x_ A;exact(hs i).elim
 .have:=cell_lt hc;show a.block<B;omega
end
end Go.Fxa
namespace Go.Fxa
open Go.Conc Go.Proofs
def puts (P:l_) {α:Type}:Sem α->d_ (List (f_×n_)×α)
 |.pure a=>some ([],a)
 |.program k=>puts P (k P)
 |.store .plain a (.int t v) k=>(puts P k).map λx=>((a,.int t v)::x.1,x.2)
 |.store .plain a (.func f x y) k=>(puts P k).map λz=>((a,.func f x y)::z.1,z.2)
 |_=>none
def lQ (w:o_):List (f_×n_)->Prop
 |[]=>True
 |x::l=>(∃u,w.cell? x.1=some u)/\w.frozen? x.1=false/\lQ (w.setCell x.1 x.2) l
def I8 (w:o_) (l:List (f_×n_)):o_:=l.foldl (λw x=>w.setCell x.1 x.2) w
def Ic (l:List (f_×n_)):Array Event:=(l.map λx=>(⟨.cell x.1,true,false⟩:Event)).toArray
section
variable {P:l_}
theorem uX {α:Type} {e:Sem α} {a:α}:∀{l:List (f_×n_)} {w:o_},puts P e=some (l,a)->lQ w l->∀es,e.runT P w es=(.ok a (I8 w l),es++Ic l):=by
 induction e with
 |pure b=>
  intro l w h _ es
  simp only[puts,Option.some.injEq,Prod.mk.injEq]at h
  obtain⟨rfl,rfl⟩:=h
  simp[Sem.runT,I8,Ic]
 |program k p=>intro l w h i es;exact p P h i es
 |store m g v k p=>
  intro l w h i es
  have key:∀q,l=(g,v)::q->m=.plain->puts P k=some (q,a)->(∀u:o_,(∃x,u.cell? g=some x)->u.frozen? g=false->(Sem.store m g v k).runT P u es=k.runT P (u.setCell g v) (es.push ⟨.cell g,true,false⟩))->(Sem.store m g v k).runT P w es=(.ok a (I8 w l),es++Ic l):=by
   rintro q rfl rfl C r
   obtain⟨s,A,B⟩:=i
   rw[r w s A,p C B]
   simp[I8,Ic]
  cases m with
  |atomic=>cases v<;>simp[puts]at h
  |plain=>
   cases v with
   |int t x=>
    obtain⟨y,n,e⟩:=Option.map_eq_some_iff.1 h
    simp only[Prod.mk.injEq]at e
    obtain⟨e1,e2⟩:=e
    refine key y.1 e1.symm rfl (by rw[n,<-e2]) λu ⟨z,o⟩ j=>?_
    simp only[Sem.runT,o,j,Bool.false_eq_true,if_false]
    rfl
   |func f c d=>
    obtain⟨y,n,e⟩:=Option.map_eq_some_iff.1 h
    simp only[Prod.mk.injEq]at e
    obtain⟨e1,e2⟩:=e
    refine key y.1 e1.symm rfl (by rw[n,<-e2]) λu ⟨z,o⟩ j=>?_
    simp only[Sem.runT,o,j,Bool.false_eq_true,if_false]
    rfl
   |_=>simp[puts]at h
 |_=>intro l w h;simp[puts]at h
def SK (P:l_) (x:Frame×Z_):d_ (List (f_×n_)):=match opAt x with
 |some o=>match puts P (execOp x.1.eval o)with
  |some (l,.skip)=>if(P.funcs[x.1.fn]?).any (·.norace)then none else some l
  |_=>none
 |none=>none
theorem U3 {main:Bool} {x:Frame×Z_} {l:List (f_×n_)} {w:o_} (h:SK P x=some l) (hc:lQ w l):stepG P main (BD x) w=.go (BD (BB x undef)) (I8 w l) (Ic l):=by
 unfold SK at h;split at h
 .rename_i o j;split at h
  .rename_i c i;split at h
   .cases h
   .rename_i k;obtain rfl:=x_ h;obtain⟨d,g⟩:=PU (P:=P) (main:=main) (w:=w) j;show stepG P main (G x.1 x.2) w=_;rw[d];have m:seen P x.1.fn (#[]++Ic c)=Ic c:=by
     rw[Array.empty_append]
     exact seen_eq (by simpa using k) (λe b f=>by
      simp only[Ic,List.mem_toArray,List.mem_map]at b
      obtain⟨a,_,rfl⟩:=b
      simp)
    simp only[stepG.apply,uX i hc #[],if_true,GStep.after,Array.append_empty,g,Bool.false_eq_true,if_false,m]
    rfl
  .cases h
 .cases h
end
def x9:Obj:=.cells #[a_ 0,a_ 0,.nilFunc] 206 (0,0)
def Ov (x0 y0:Int) (fn:Fn) (ca cb:X_):n_:=.agg #[a_ x0,a_ y0,.func fn ca cb]
section
variable (P:l_) (q0 q1 q3:Nat) (x:n_) (x0 y0:Int) (fn:Fn) (ca cb:X_) (f:Y_) (Y:Z_) (k:Nat) (p:Int)
def zz0:=run P 9 (a0 P q0 q1 q3 x (Ov x0 y0 fn ca cb) f Y)
def zz1:=BB (zz0 P q0 q1 q3 x x0 y0 fn ca cb f Y) (pr k)
def zz2:=run P 5 (BB (zz1 P q0 q1 q3 x x0 y0 fn ca cb f Y k) undef)
def zz3:=run P 11 (BB (zz2 P q0 q1 q3 x x0 y0 fn ca cb f Y k) (.func fn ca cb))
def zz4:=run P 3 (BB (zz3 P q0 q1 q3 x x0 y0 fn ca cb f Y k) (a_ p))
end
structure UC (P:l_) (b5 b2 b3 r q0 q1 q3:Nat) (sa:f_) (n:Int):Prop where
 c1:∀(f:Y_) (Y:Z_) (i:Int) (x:n_) (x0 y0:Int) (fn:Fn) (ca cb:X_),Ar P 9 (a0 P q0 q1 q3 x (Ov x0 y0 fn ca cb) (AL f (sl6 r (.pointer (some sa)) n i 1 x)) Y)=some []
 c2:∀(f:Y_) (Y:Z_) (i:Int) (x:n_) (x0 y0:Int) (fn:Fn) (ca cb:X_) (w:o_),stepG P false (BD (zz0 P q0 q1 q3 x x0 y0 fn ca cb (AL f (sl6 r (.pointer (some sa)) n i 1 x)) Y)) w=.go (BD (zz1 P q0 q1 q3 x x0 y0 fn ca cb (AL f (sl6 r (.pointer (some sa)) n i 1 x)) Y w.heap.size)) { w with heap:=w.heap.push x9 } #[]
 c3:∀(f:Y_) (Y:Z_) (i:Int) (x:n_) (x0 y0:Int) (fn:Fn) (ca cb:X_) (k:Nat),SK P (zz1 P q0 q1 q3 x x0 y0 fn ca cb (AL f (sl6 r (.pointer (some sa)) n i 1 x)) Y k)=some [((S_ k),a_ x0),((T_ k 1),a_ y0),((T_ k 2),.func fn ca cb)]
 c4:∀(f:Y_) (Y:Z_) (i:Int) (x:n_) (x0 y0:Int) (fn:Fn) (ca cb:X_) (k:Nat),Ar P 5 (BB (zz1 P q0 q1 q3 x x0 y0 fn ca cb (AL f (sl6 r (.pointer (some sa)) n i 1 x)) Y k) undef)=some []
 c5:∀(f:Y_) (Y:Z_) (i:Int) (x:n_) (x0 y0:Int) (fn:Fn) (ca cb:X_) (k:Nat),DL P (zz2 P q0 q1 q3 x x0 y0 fn ca cb (AL f (sl6 r (.pointer (some sa)) n i 1 x)) Y k) (.func fn ca cb)=some ([(T_ k 2)],.func fn ca cb)
 c6:∀(f:Y_) (Y:Z_) (i:Int) (x:n_) (x0 y0:Int) (fn:Fn) (ca cb:X_) (k:Nat),Ar P 11 (BB (zz2 P q0 q1 q3 x x0 y0 fn ca cb (AL f (sl6 r (.pointer (some sa)) n i 1 x)) Y k) (.func fn ca cb))=some []
 c7:∀(f:Y_) (Y:Z_) (i:Int) (x:n_) (x0 y0:Int) (fn:Fn) (ca cb:X_) (k:Nat) (p:Int),DL P (zz3 P q0 q1 q3 x x0 y0 fn ca cb (AL f (sl6 r (.pointer (some sa)) n i 1 x)) Y k) (a_ p)=some ([sa.add 2],a_ p)
 c8:∀(f:Y_) (Y:Z_) (i:Int) (x:n_) (x0 y0:Int) (fn:Fn) (ca cb:X_) (k:Nat) (p:Int),Ar P 3 (BB (zz3 P q0 q1 q3 x x0 y0 fn ca cb (AL f (sl6 r (.pointer (some sa)) n i 1 x)) Y k) (a_ p))=some []
 c9:∀(f:Y_) (Y:Z_) (i:Int) (x:n_) (x0 y0:Int) (fn:Fn) (ca cb:X_) (k:Nat) (p:Int),SK P (zz4 P q0 q1 q3 x x0 y0 fn ca cb (AL f (sl6 r (.pointer (some sa)) n i 1 x)) Y k p)=some [(sa.add 2,a_ (IntKind.u16.wrap (p-2)))]
 ca:∀(f:Y_) (i:Int) (x:n_) (x0 y0:Int) (fn:Fn) (ca cb:X_) (k:Nat) (p:Int),DR P (some (257,6)) 34 (BB (zz4 P q0 q1 q3 x x0 y0 fn ca cb (AL f (sl6 r (.pointer (some sa)) n i 1 x)) (TQ P b5 b2 b3 r (.pointer (some sa)) n) k p) undef)=some ([r,r],dR P r (Q4 P b5 b2 b3 r (.pointer (some sa)) n))
theorem qg {b5 b2 b3 r q0 q1 q3:Nat} {sa:f_} {n:Int}:UC prog b5 b2 b3 r q0 q1 q3 sa n:=by
 constructor<;>intros<;>kernel_rfl
section
variable {P:l_} {b5 b2 b3 r q0 q1 q3:Nat} {sa:f_} {n:Int} {Zl:Nat->Prop} {S0:Nat} {cs:X_} {RN:j_} {p:Int} {pa pb pc pd:n_}
def Uh (cs:X_) (RN:j_) (sa:f_) (p:Int):Obj:=.cells (cs.setIfInBounds (sa.off+2) (a_ (IntKind.u16.wrap (p-2)))) RN (0,0)
def I7 (cs:X_) (RN:j_) (sa:f_) (p:Int) (w:o_):Prop:=w.heap[sa.block]?=some (Uh cs RN sa p)
theorem Vj (h1:Zl sa.block) (w w1:o_) (ha:AgL Zl w w1) (h:I7 cs RN sa p w):I7 cs RN sa p w1:=by
 unfold I7;rw[ha _ h1];exact h
theorem pR (F:UC P b5 b2 b3 r q0 q1 q3 sa n) (h1:Zl sa.block) (h2:∀x,S0<=x->Zl x) (Bv:sa.block<S0) (hp:cs[sa.off+2]?=some (a_ p)) (f:Y_) (i:Int) (x:n_) (x0 y0:Int) (fn:Fn) (ca cb:X_) {w:o_} (hw:w.heap[sa.block]?=some (O_ cs RN)) (hS:S0<w.heap.size):
  Hm P r #[pa,pb,pc,pd] 257 Zl (BD (dR P r (Q4 P b5 b2 b3 r (.pointer (some sa)) n))) (I7 cs RN sa p) 67 (Conc.served (BD (m3 P q0 q1 q3 x (AL f (sl6 r (.pointer (some sa)) n i 1 x)) (TQ P b5 b2 b3 r (.pointer (some sa)) n))) (commResult (Gl q1 q3) .select 0 (Ov x0 y0 fn ca cb) true)) w:=by
 have v:=Vj (Zl:=Zl) (cs:=cs) (RN:=RN) (p:=p) (sa:=sa) h1;have g:∀{w1:o_},w1.heap[sa.block]?=some (O_ cs RN)->w1.cell? (sa.add 2)=some (a_ p)/\w1.frozen? (sa.add 2)=false:=fun {w1} h=>by
  constructor
  .simp[World.cell?,Addr.add,h,hp]
  .simp[World.frozen?,Addr.add,h]
 have O:∀(k:Nat) (w:o_),I7 cs RN sa p w->Hm P r #[pa,pb,pc,pd] 257 Zl (BD (dR P r (Q4 P b5 b2 b3 r (.pointer (some sa)) n))) (I7 cs RN sa p) (34+0) (BD (BB (zz4 P q0 q1 q3 x x0 y0 fn ca cb (AL f (sl6 r (.pointer (some sa)) n i 1 x)) (TQ P b5 b2 b3 r (.pointer (some sa)) n) k p) undef)) w:=
  λk w R=>Hm.RH v (n:=0) ⟨rfl,R⟩ (FU Gy (F.ca f i x x0 y0 fn ca cb k p) (by simp))
 have N:∀(k:Nat) (w:o_),w.heap[sa.block]?=some (O_ cs RN)->Hm P r #[pa,pb,pc,pd] 257 Zl (BD (dR P r (Q4 P b5 b2 b3 r (.pointer (some sa)) n))) (I7 cs RN sa p) 35 (BD (zz4 P q0 q1 q3 x x0 y0 fn ca cb (AL f (sl6 r (.pointer (some sa)) n i 1 x)) (TQ P b5 b2 b3 r (.pointer (some sa)) n) k p)) w:=by
  intro k w hw
  refine⟨rfl,λw1 d _=>?_⟩
  have b:w1.heap[sa.block]?=some (O_ cs RN):=by rw[d _ h1];exact hw
  obtain⟨u,c2⟩:=g b
  have j:=(y_.1 b).1
  refine⟨_,_,_,U3 (F.c9 f _ i x x0 y0 fn ca cb k p) ⟨⟨_,u⟩,c2,trivial⟩,λe m=>?_,?_,O k _ ?_⟩
  .simp only[Ic,List.map_cons,List.map_nil,List.mem_toArray,r_,List.not_mem_nil,or_false]at m;subst m;exact⟨_,_,rfl,h1,by simpa [I8,World.setCell,Addr.add]using j⟩
  .refine⟨by simp[I8,World.setCell],λy z=>?_,rfl,rfl,rfl⟩;have:sa.block≠y:=λe=>z (e ▸ h1)
   simp[I8,World.setCell,Addr.add,Array.getElem?_modify,this]
  .simp[I7,Uh,I8,World.setCell,Addr.add,Array.getElem?_modify,b]
 have M:∀(k:Nat) (w:o_),w.heap[sa.block]?=some (O_ cs RN)->Hm P r #[pa,pb,pc,pd] 257 Zl (BD (dR P r (Q4 P b5 b2 b3 r (.pointer (some sa)) n))) (I7 cs RN sa p) 39 (BD (zz3 P q0 q1 q3 x x0 y0 fn ca cb (AL f (sl6 r (.pointer (some sa)) n i 1 x)) (TQ P b5 b2 b3 r (.pointer (some sa)) n) k)) w:=by
  intro k w hw
  refine⟨rfl,λw1 d _=>?_⟩
  have b:w1.heap[sa.block]?=some (O_ cs RN):=by rw[d _ h1];exact hw
  obtain⟨u,c2⟩:=g b
  have j:=(y_.1 b).1
  have E:=RW.at (main:=false) (K:=λw=>w=w1) (Still:=λl=>l=.cell (sa.add 2)) (F.c7 f (TQ P b5 b2 b3 r (.pointer (some sa)) n) i x x0 y0 fn ca cb k p) (λw hw=>by rw[hw];exact u) rfl
  obtain⟨_,D,Q,B,A,e⟩:=E
  have C:D=BD (BB (zz3 P q0 q1 q3 x x0 y0 fn ca cb (AL f (sl6 r (.pointer (some sa)) n i 1 x)) (TQ P b5 b2 b3 r (.pointer (some sa)) n) k) (a_ p)):=e
  subst C
  refine⟨_,_,_,A w1 rfl,λe m=>?_,BZ.refl w1,Hm.RH v (n:=35) (N k w1 b) (Dv (F.c8 f _ i x x0 y0 fn ca cb k p))⟩
  obtain⟨a,rfl,c⟩:=B e m
  injection c with c
  subst c
  exact⟨_,_,rfl,h1,j⟩
 have L:∀(k:Nat) (w:o_),S0<=k->w.heap[sa.block]?=some (O_ cs RN)->w.heap[k]?=some (O_ #[a_ x0,a_ y0,.func fn ca cb] 206)->Hm P r #[pa,pb,pc,pd] 257 Zl (BD (dR P r (Q4 P b5 b2 b3 r (.pointer (some sa)) n))) (I7 cs RN sa p) 51 (BD (zz2 P q0 q1 q3 x x0 y0 fn ca cb (AL f (sl6 r (.pointer (some sa)) n i 1 x)) (TQ P b5 b2 b3 r (.pointer (some sa)) n) k)) w:=by
  intro k w q hw s
  refine⟨rfl,λw1 d _=>?_⟩
  have b:w1.heap[sa.block]?=some (O_ cs RN):=by rw[d _ h1];exact hw
  have t:w1.heap[k]?=some (O_ #[a_ x0,a_ y0,.func fn ca cb] 206):=by rw[d _ (h2 k q)];exact s
  have o:=(y_.1 t).1
  have u:w1.cell? (T_ k 2)=some (.func fn ca cb):=by simp[World.cell?,t]
  have E:=RW.at (main:=false) (K:=λw=>w=w1) (Still:=λl=>l=.cell (T_ k 2)) (F.c5 f (TQ P b5 b2 b3 r (.pointer (some sa)) n) i x x0 y0 fn ca cb k) (λw hw=>by rw[hw];exact u) rfl
  obtain⟨_,D,Q,B,A,e⟩:=E
  have C:D=BD (BB (zz2 P q0 q1 q3 x x0 y0 fn ca cb (AL f (sl6 r (.pointer (some sa)) n i 1 x)) (TQ P b5 b2 b3 r (.pointer (some sa)) n) k) (.func fn ca cb)):=e
  subst C
  refine⟨_,_,_,A w1 rfl,λe m=>?_,BZ.refl w1,Hm.RH v (n:=39) (M k w1 b) (Dv (F.c6 f _ i x x0 y0 fn ca cb k))⟩
  obtain⟨a,rfl,c⟩:=B e m
  injection c with c
  subst c
  exact⟨_,_,rfl,h2 k q,o⟩
 have J:∀(k:Nat) (w:o_),S0<=k->w.heap[sa.block]?=some (O_ cs RN)->w.heap[k]?=some x9->Hm P r #[pa,pb,pc,pd] 257 Zl (BD (dR P r (Q4 P b5 b2 b3 r (.pointer (some sa)) n))) (I7 cs RN sa p) 57 (BD (zz1 P q0 q1 q3 x x0 y0 fn ca cb (AL f (sl6 r (.pointer (some sa)) n i 1 x)) (TQ P b5 b2 b3 r (.pointer (some sa)) n) k)) w:=by
  intro k w q hw s
  refine⟨rfl,λw1 d _=>?_⟩
  have b:w1.heap[sa.block]?=some (O_ cs RN):=by rw[d _ h1];exact hw
  have t:w1.heap[k]?=some x9:=by rw[d _ (h2 k q)];exact s
  have o:=(y_.1 t).1
  have G:k≠sa.block:=by omega
  refine⟨_,_,_,U3 (F.c3 f _ i x x0 y0 fn ca cb k) ?_,λe m=>?_,?_,Hm.RH v (n:=51) (L k _ q ?_ ?_) (Dv (F.c4 f _ i x x0 y0 fn ca cb k))⟩
  .refine⟨⟨a_ 0,?_⟩,?_,⟨a_ 0,?_⟩,?_,⟨.nilFunc,?_⟩,?_,trivial⟩<;>simp[World.cell?,World.frozen?,World.setCell,Array.getElem?_modify,t,x9]
  .simp only[Ic,List.map_cons,List.map_nil,List.mem_toArray,r_,List.not_mem_nil,or_false]at m;obtain rfl|rfl|rfl:=m<;>exact⟨_,_,rfl,h2 k q,by simpa [I8,World.setCell]using o⟩
  .refine⟨by simp[I8,World.setCell],λy z=>?_,rfl,rfl,rfl⟩;have:k≠y:=λe=>z (e ▸ h2 k q)
   simp[I8,World.setCell,Array.getElem?_modify,this]
  .simp[I8,World.setCell,Array.getElem?_modify,G,b]
  .simp[I8,World.setCell,Array.getElem?_modify,t,x9]
 have I:Hm P r #[pa,pb,pc,pd] 257 Zl (BD (dR P r (Q4 P b5 b2 b3 r (.pointer (some sa)) n))) (I7 cs RN sa p) 58 (BD (zz0 P q0 q1 q3 x x0 y0 fn ca cb (AL f (sl6 r (.pointer (some sa)) n i 1 x)) (TQ P b5 b2 b3 r (.pointer (some sa)) n))) w:=by
  refine⟨rfl,λw1 d _=>?_⟩
  have b:w1.heap[sa.block]?=some (O_ cs RN):=by rw[d _ h1];exact hw
  have H:S0<=w1.heap.size:=by
   have e1:=d S0 (h2 S0 (w_ _))
   rw[v_ hS]at e1
   exact Nat.le_of_lt (y_.1 e1).1
  refine⟨_,_,_,F.c2 f _ i x x0 y0 fn ca cb w1,by simp,?_,J w1.heap.size _ H ?_ ?_⟩
  .refine⟨by simp,λy z=>?_,rfl,rfl,rfl⟩;have:y≠w1.heap.size:=λe=>z (h2 y (by omega))
   simp only[Array.getElem?_push,this,if_false]
  .have:=(y_.1 b).1;simp only[Array.getElem?_push];rw[if_neg (by omega)];exact b
  .simp
 rw[Rq];exact Hm.RH v (n:=58) I (Dv (F.c1 f _ i x x0 y0 fn ca cb))
end
end Go.Fxa
namespace Go.Fxa
open Go.Conc
open Go.ConcN (sumTo upd sumTo_upd upd_ne upd_same)
theorem IE {a b cc:CommCase} {m:Nat} (h:(#[a,b]:Array CommCase)[m]?=some cc):(m=0/\cc=a)\/(m=1/\cc=b):=by
 match m,h with
 |0,h=>simp at h;exact .inl ⟨rfl,h.symm⟩
 |1,h=>simp at h;exact .inr ⟨rfl,h.symm⟩
 |m+2,h=>simp at h
structure Env (Z:Nat->Prop) (Ac:Loc->Prop) (s:JF) (c:Nat):Prop where
 J7:∀x,s.own x->Z x
 under:FT Ac Z
 ofw:∀l,KD s.r s.pre l->Ac l
 ss:∀l,s.Still l->¬Ac l
 ok:s.Ok
 c0:c≠0
def ByK (P:l_) (s:JF) (c:Nat) (gS:m_):Nat->m_->o_->Trace->Prop:=NT P true s.KW s.KS (JO c s.r s.pre) s.Still (NZ s.q0 s.q2) .select (·=gS)
def jl (P:l_) (s:JF) (c:Nat) (gC:m_):Nat->m_->o_->Trace->Prop:=NT P (c==0) s.KW s.KS (JO c s.r s.pre) s.Still (Gl s.q1 s.q3) .select (·=gC)
def ER (P:l_) (s:JF):QJ:=outs P s.r (Q4 P s.b5 s.b2 s.b3 s.r s.sv s.n)
def ByX (P:l_) (s:JF) (c:Nat) (Ph:Bool->Nat->m_->o_->Trace->Prop) (X:o_->Prop) (k:Nat) (n:Nat) (g:m_) (w:o_) (t:Trace):Prop:=Ce P c s.r s.pre 257 (ER P s) Ph X false n g w t/\(w.heap[s.q3]?=some (.chan 0 #[] false k k false)/\s.cells w)
def ByT (P:l_) (s:JF) (c k:Nat):Nat->m_->o_->Trace->Prop:=ByX P s c bc5 (λ_=>True) k
def IC (c g:Nat):Prop:=g=0\/g=c
section
variable {P:l_} {Z:Nat->Prop} {Ac:Loc->Prop} {s:JF} {c:Nat}
theorem Env.w (E:Env Z Ac s c):∀l,KD s.r s.pre l->Ac l/\¬s.Still l:=λl h=>⟨E.ofw l h,Ut h⟩
theorem as2:s.wZ s.q0:=.inl rfl
theorem xZ:s.wZ s.q1:=.inr (.inl rfl)
theorem ab1:s.wZ s.q2:=.inr (.inr (.inl rfl))
theorem XR:s.wZ s.q3:=.inr (.inr (.inr rfl))
theorem Env.zq (E:Env Z Ac s c) {q:Nat} (h:s.wZ q):Z q:=E.J7 q (by obtain e|e|e|e:=h<;>simp[JF.own,e])
theorem Ls {w:o_} {q:Nat} {z:n_} (h:s.Open w) (hq:s.wZ q):FY w (rcase q z):=by
 obtain⟨k,e⟩:=h q hq;exact⟨q,z,k,rfl,e⟩
theorem rZ {w:o_} (h:s.KS w):∀cc∈NZ s.q0 s.q2,FY w cc:=by
 intro cc a;simp only[NZ,List.mem_toArray,r_,List.not_mem_nil,or_false]at a;obtain rfl|rfl:=a
 .exact Ls h.2.2 as2
 .exact Ls h.2.2 ab1
theorem κ {w:o_} (h:s.KS w):∀cc∈Gl s.q1 s.q3,FY w cc:=by
 intro cc a;simp only[Gl,List.mem_toArray,r_,List.not_mem_nil,or_false]at a;obtain rfl|rfl:=a
 .exact Ls h.2.2 xZ
 .exact Ls h.2.2 XR
theorem ap3 (E:Env Z Ac s c):∀cc∈NZ s.q0 s.q2,∃q z,cc=rcase q z/\Z q:=by
 intro cc a;simp only[NZ,List.mem_toArray,r_,List.not_mem_nil,or_false]at a;obtain rfl|rfl:=a
 .exact⟨_,_,rfl,E.zq as2⟩
 .exact⟨_,_,rfl,E.zq ab1⟩
theorem qB (E:Env Z Ac s c):∀cc∈Gl s.q1 s.q3,∃q z,cc=rcase q z/\Z q:=by
 intro cc a;simp only[Gl,List.mem_toArray,r_,List.not_mem_nil,or_false]at a;obtain rfl|rfl:=a
 .exact⟨_,_,rfl,E.zq xZ⟩
 .exact⟨_,_,rfl,E.zq XR⟩
theorem uU {c c':Nat} {z z':n_} (h:rcase c z=rcase c' z'):c=c':=by simp[rcase]at h;exact h.1
theorem aa0 {cs:Array CommCase} (h:∀cc∈cs,∃q z,cc=rcase q z/\Z q):∀cc∈cs,∀c z,cc=rcase c z->Z c:=λcc b c z e=>by
 obtain⟨q,f,a,d⟩:=h cc b;rw[e]at a;rw[uU a];exact d
theorem lq {gS:m_} (E:Env Z Ac s c):Gp P Z Ac s.Still (λB t=>PX Ac s.Still (IC c) (λg=>g=0) B c t) 0 (ByK P s c gS):=
 VB (Np E.J7) (λ_ h=>h.weak) (Jy E.w E.ss) (aa0 (ap3 E)) (.inl rfl) rfl
theorem Wh {gC:m_} (E:Env Z Ac s c):Gp P Z Ac s.Still (λB t=>PX Ac s.Still (IC c) (λg=>g=c) B 0 t) c (jl P s c gC):=
 VB (Np E.J7) (λ_ h=>h.weak) (Jy E.w E.ss) (aa0 (qB E)) (.inr rfl) rfl
theorem lh {Z0:Nat->Prop} {Sh St:Loc->Prop} {Z':Nat->Prop} {Ph:Bool->Nat->m_->o_->Trace->Prop} {X:o_->Prop} {k:Nat} (hd:∀r tm td,Ou P r tm td) (hO:s.Ok) (hc:c≠0) (H:LQ P Z0 Sh St (fun g=>g=c) c s.r s.pre 257 (ER P s) Ph X) (h0:Z0 s.r) (hs:∀x,Z0 x->Z' x) (hW:∀l,KD s.r s.pre l->Sh l/\¬St l) (hz:∀x,s.own x->Z' x) (hq:∀x,s.own x->x≠s.r->¬Z0 x):
  Gp P Z' Sh St (λB t=>PX Sh St (λg=>g=0) (λg=>g=c) B 0 t) c (ByX P s c Ph X k):=
 pz H (VJ (hd _ _ _)) h0 hW hc hc hs λw i h e=>by
  have a:s.own s.q3:=by simp[JF.own]
  refine⟨by rw[e _ (hq _ a (hO.bq _ (.inr (.inr (.inr rfl)))).2.2.2) (hz _ a)];exact h.1,h.2.keep λx d=>?_⟩
  have b:s.own x:=by obtain e|e|e:=d<;>simp[JF.own,e]
  have f:x≠s.r:=by obtain e|e|e:=d<;>subst e<;>first|exact hO.br.2.2|exact hO.br.1|exact hO.br.2.1
  exact e x (hq x b f) (hz x b)
theorem bl5 {Z0:Nat->Prop} {Sh St:Loc->Prop} {Ph:Bool->Nat->m_->o_->Trace->Prop} {X:o_->Prop} {k:Nat} (H:LQ P Z0 Sh St (λg=>g=c) c s.r s.pre 257 (ER P s) Ph X) (n:Nat) (b:m_) (w:o_) (t:Trace) (h:ByX P s c Ph X k n b w t) (d:Nat):s.KW (w.at d):=by
 obtain⟨f,e,a⟩:=WI H h.1;exact⟨⟨f,e,a⟩,h.2.2⟩
theorem zL {k:Nat} (hd:∀r tm td,Ou P r tm td) (E:Env Z Ac s c):Gp P Z Ac s.Still (λB t=>PX Ac s.Still (λg=>g=0) (λg=>g=c) B 0 t) c (ByT P s c k):=
 lh (Z0:=λx=>x=s.r) hd E.ok E.c0 an0 rfl (λx a=>E.J7 _ (by rw[a];simp[JF.own])) E.w E.J7 (λ_ _ h=>h)
theorem qU {gS:m_} (n:Nat) (b:m_) (w:o_) (t:Trace) (h:ByK P s c gS n b w t) (d:Nat):s.KW (w.at d):=(h.1.1:s.KS w).weak
theorem ao3 {gC:m_} (n:Nat) (b:m_) (w:o_) (t:Trace) (h:jl P s c gC n b w t) (d:Nat):s.KW (w.at d):=(h.1.1:s.KS w).weak
theorem oQ (E:Env Z Ac s c) (x:n_):Gives P Z Ac s.Still (IC c) c 0 s.KW s.KS (JO c s.r s.pre) (NZ s.q0 s.q2) (bM s.q0 s.q3 x) 0 0 s.q0 x (a_ 0) (a_ 0) where
 leans:=Np E.J7
 weak:=λ_ h=>h.weak
 lasts:=Jy E.w E.ss
 meets:={
  hkh:=rfl
  hoh:=λm b a h=>by
   obtain⟨e,_⟩|⟨_,rfl⟩:=IE h
   .exact(a e).elim
   .exact⟨_,_,rfl,E.ok.qq.2.2.1.symm,E.zq XR⟩
  hkj:=rfl
  hoj:=λm b a h=>by
   obtain⟨e,_⟩|⟨_,rfl⟩:=IE h
   .exact(a e).elim
   .simp[rcase,E.ok.qq.2.1.symm]
  hrj:=ap3 E }
 uw:=.inr rfl
 uu:=.inl rfl
 opens:=λw h m b a f=>by
  obtain⟨e,_⟩|⟨_,rfl⟩:=IE f
  .exact(a e).elim
  .exact Ls h.2.2 XR
 keeps:=λ_ d k h=>h.chan E.ok as2 d k
theorem vN (E:Env Z Ac s c) (o:Int):Gives P Z Ac s.Still (IC c) c 0 s.KW s.KS (JO c s.r s.pre) (NZ s.q0 s.q2) (Zh s.q2 s.q3 o) 0 1 s.q2 (b_ o) (b_ 0) (b_ 0) where
 leans:=Np E.J7
 weak:=λ_ h=>h.weak
 lasts:=Jy E.w E.ss
 meets:={
  hkh:=rfl
  hoh:=λm b a h=>by
   obtain⟨e,_⟩|⟨_,rfl⟩:=IE h
   .exact(a e).elim
   .exact⟨_,_,rfl,E.ok.qq.2.2.2.2.2.symm,E.zq XR⟩
  hkj:=rfl
  hoj:=λm b a h=>by
   obtain⟨_,rfl⟩|⟨e,_⟩:=IE h
   .simp[rcase,E.ok.qq.2.1]
   .exact(a e).elim
  hrj:=ap3 E }
 uw:=.inr rfl
 uu:=.inl rfl
 opens:=λw h m b a f=>by
  obtain⟨e,_⟩|⟨_,rfl⟩:=IE f
  .exact(a e).elim
  .exact Ls h.2.2 XR
 keeps:=λ_ d k h=>h.chan E.ok ab1 d k
theorem TE (E:Env Z Ac s c) (A:n_):Gives P Z Ac s.Still (IC c) 0 c s.KW s.KS (JO c s.r s.pre) (Gl s.q1 s.q3) (bg s.q1 A) 0 0 s.q1 A (.tuple #[]) jG where
 leans:=Np E.J7
 weak:=λ_ h=>h.weak
 lasts:=Jy E.w E.ss
 meets:={
  hkh:=rfl
  hoh:=λm b a h=>by
   match m,h with
   |0,_=>exact(a rfl).elim
   |m+1,h=>simp[bg]at h
  hkj:=rfl
  hoj:=λm b a h=>by
   obtain⟨e,_⟩|⟨_,rfl⟩:=IE h
   .exact(a e).elim
   .simp[rcase,E.ok.qq.2.2.2.2.1.symm]
  hrj:=qB E }
 uw:=.inl rfl
 uu:=.inr rfl
 opens:=λw h m b a f=>by
  match m,f with
  |0,_=>exact(a rfl).elim
  |m+1,h=>simp[bg]at h
 keeps:=λ_ d k h=>h.chan E.ok xZ d k
theorem Holds.last {Od:Old} {gs:Array m_} {w:o_} {sl:d_ (W_)} {t:Trace} {a gS:m_} {J:o_->Prop} {k:Nat} (o:Int) (E:Env Z Ac s c) (Bi:a.status=.running) (Ip:∀w,stepG P (c==0) a w=.comm a (Zh s.q2 s.q3 o) true .select w #[])
  (hout:J5 P (Dj s.r s.pre 257) false k (Conc.served a (commResult (Zh s.q2 s.q3 o) .select 0 undef false)) (ER P s).gR)
  (H:Holds Od P Z Ac s.Still (IC c) (λg=>g=0) c 0 (ByK P s c gS) (λg v=>g=a/\J v) gs w t):
  AA P gs w sl t λA7 w' t'=>∃kq,Holds Od P Z Ac s.Still (λg=>g=0) (λg=>g=c) 0 c (ByT P s c kq) (λg v=>g=Conc.served gS (commResult (NZ s.q0 s.q2) .select 1 (b_ o) true)/\J v) A7 w' t':=by
 have M:=vN (P:=P) E o;obtain⟨q,n,B,g,v0,j,⟨rfl,l⟩,T,y,D⟩:=H;obtain⟨b,O,m⟩:=D.idle;have z:s.KS w:=m.1.1;refine(WB (Ai:=λg=>g=0) M.leans M.weak M.lasts M.meets M.uw M.uu rfl (es:=#[]) (n+sumTo gs.size q+1) n gs g w sl t q B (by omega) j Bi D (M.opens w z) (λd=>Ip (w.at d)) (by simp)).bind λA7 w' N t' L C=>?_
 obtain⟨K,x,d,h,m1,m2,m3,Q,R,rfl,G,I,A,u,_⟩:=C;have off:BZ Z w ((w.at d).setChan s.q2 0 #[] false (h+1) (h+1) false):=Lu (E.zq ab1) w d (h+1) false;have e:s.KS ((w.at d).setChan s.q2 0 #[] false (h+1) (h+1) false):=M.keeps w d (h+1) z;obtain⟨kq,p⟩:=e.2.2 s.q3 XR;refine .now ⟨kq,K,_,B,_,v0,m2,⟨by rw[m3];rfl,l⟩,T.off y off,y,⟨D.ne.symm,.inl rfl,λg f=>.inl f,⟨_,m1,.inr ⟨⟨u,.inl ⟨k,rfl,hout,e.1,?_⟩⟩,trivial⟩,p,e.2.1⟩,λi g j l F=>G i g l j F,I,?_,?_⟩⟩
 .exact A.hears c (.inr rfl)
 .exact(A.fewer (Ko:=λg=>g=0) λg f=>.inl f).loosen (λg f=>(f.2 f.1).elim)
 .rw[Jd];exact D.size
end
structure EK (P:l_):Prop where
 Fz:Tm P
 child:∀(b5 b2 b3 r q0 q1 q2 q3:Nat) (sv:n_) (n:Int),Eb P b5 b2 b3 r q0 q1 q2 q3 sv n
 ans:∀(r q0 q1 q3:Nat) (sv:n_) (n:Int),Tn P r q0 q1 q3 sv n
 done:∀(r:Nat) (tm:X_) (td:List Item),Ou P r tm td
 add:∀(r:Nat) (c:Frame) (Y:Z_),WL P r c Y
 wait:∀(r:Nat) (c:Frame) (Y:Z_),QF P r c Y
 mixed:P.follows .mixedOrders=true
 blk:fO P
 back:∀(b5 b2 b3 r q0 q1 q3:Nat) (sa:f_) (n:Int),UC P b5 b2 b3 r q0 q1 q3 sa n
def gC (P:l_) (s:JF) (f:Y_) (i:Int) (x:n_):m_:=BD (m3 P s.q0 s.q1 s.q3 x (AL f (sl6 s.r s.sv s.n i 1 x)) (TQ P s.b5 s.b2 s.b3 s.r s.sv s.n))
def Ui (P:l_) (s:JF) (f:Y_) (td:List Item) (told:n_) (c0:Frame) (cs:Z_):Frame×Z_:=sR P (uz (AL f [(6,told)]) td::c0::cs) s.r
theorem Uo {s:JF} (x:Nat):¬s.Still (.obj x):=by
 intro h;obtain e|e|e|e|e|e|e:=h<;>cases e
section
variable {P:l_} {Z:Nat->Prop} {Ac:Loc->Prop} {s:JF} {c:Nat} {gs:Array m_} {w:o_} {sl:d_ (W_)} {t:Trace} {J:o_->Prop} {f fc:Nat->n_} {i:Int} {x told:n_} {td:List Item} {c0:Frame} {cs:Z_}
theorem bd0 (A:EK P) (g₂:m_) (h:g₂=gC P s fc i x):Gs P false s.KW s.Still (Gl s.q1 s.q3) .select (·=gC P s fc i x) 0 { parked g₂ (Gl s.q1 s.q3) .select with status:=.running }:=by
 subst h;refine⟨gC P s fc i x,#[],rfl,rfl,by simp,λw _=>?_⟩;exact IA ((A.child s.b5 s.b2 s.b3 s.r s.q0 s.q1 s.q2 s.q3 s.sv s.n).m16 fc _ i x) w
theorem Χ (A:EK P) (g₂:m_) (h:g₂=gC P s fc i x):J5 P (Dj s.r s.pre 257) false 37 (Conc.served g₂ (commResult (Gl s.q1 s.q3) .select 1 (.agg #[]) false)) (ER P s).gR:=by
 subst h;exact iU (A.child s.b5 s.b2 s.b3 s.r s.q0 s.q1 s.q2 s.q3 s.sv s.n) fc i x
theorem Ϗ (O:s.Ok):∀(m:Nat) cc,m≠1->(Gl s.q1 s.q3)[m]?=some cc->cc.chan≠.chan (some s.q3):=λm cc a h=>by
 obtain⟨_,rfl⟩|⟨e,_⟩:=IE h
 .simp[rcase,O.qq.2.2.2.2.1]
 .exact(a e).elim
def bQ (P:l_) (Z:Nat->Prop) (Ac:Loc->Prop) (X:o_->Prop) (c0:Frame) (cs:Z_) (told:n_) (w:o_) (A7:Array m_) (w':o_) (t':Trace):Prop:=
 ∃q' B',A7[0]?=some (G (c0.finish told) cs)/\BZ Z w w'/\Leavers P t' A7 q'/\Past Ac B' t'/\w'.heap.size<=B'/\X w'
theorem bQ.off {Z:Nat->Prop} {Ac:Loc->Prop} {X:o_->Prop} {w1:o_} {A7:Array m_} {w':o_} {t':Trace} (ho:BZ Z w w1) (h:bQ P Z Ac X c0 cs told w1 A7 w' t'):bQ P Z Ac X c0 cs told w A7 w' t':=by
 obtain⟨e,a,b,c,d⟩:=h;exact⟨e,a,b,ho.trans c,d⟩
theorem QW {Sh St:Loc->Prop} {Ph:Bool->Nat->m_->o_->Trace->Prop} {X:o_->Prop} (A:EK P) (HP:LQ P Z Sh St (fun g=>g=c) c s.r s.pre 257 (ER P s) Ph X) (hS0:∀l,Sh l->¬St l->Ac l) (hr:Z s.r) (hW:∀l,KD s.r s.pre l->Sh l/\¬St l) (hc:c≠0) (hX:∀w d,X w->X (w.at d))
  {n B:Nat} {q:Nat->Nat} (h0:gs[0]?=some (BD (sD P (uz (AL f [(6,told)]) td::c0::cs) s.r s.q3)))
  (D:Duo P Sh St (λg=>g=0) (λg=>g=c) B 0 c (Ce P c s.r s.pre 257 (ER P s) Ph X false) n gs w t q):
  AA P gs w sl t (bQ P Z Ac X c0 cs told w):=by
 have i:Gp P Z Sh St (λB t=>PX Sh St (λg=>g=0) (λg=>g=c) B 0 t) c (Ce P c s.r s.pre 257 (ER P s) Ph X false):=Oj HP (VJ (A.done _ _ _)) hr hW hc hc;refine(GM (J:=λ_=>True) (λ_ _ _ _ _ _=>trivial) i 6 (Dv (A.Fz.sDa _ _ _)) h0 D).bind λo w1 I N _ ⟨q1,L,H,a,E,_,e⟩=>?_
 rw[A.Fz.sDb]at a;refine(join HP hS0 (VJ (A.done _ _ _)) (ab6 (A.wait _ _ _)) hr hW hc a e).bind λp w2 G O _ ⟨M,b,v,F,_,h,j,k,m⟩=>?_
 refine(JS Ru _ (IK (K:=λ_=>True) (A.Fz.end_ _ _ _ _ _ _ _)) (λ_=>trivial) v h j).mono λu w3 Q ⟨q3,d,x,y,z,C⟩=>?_
 subst y;exact⟨q3,b,x,(E.trans F).trans (BZ.at w2 d),z,C,k,hX w2 d m⟩
theorem iQ {Od:Old} (A:EK P) (E:Env Z Ac s c) (H:Holds Od P Z Ac s.Still (IC c) (fun g=>g=c) 0 c (jl P s c (gC P s fc i x)) (fun g v=>g=BD (Ui P s f td told c0 cs)/\J v) gs w t):
  AA P gs w sl t λA7 w' t'=>∃v B,J v/\A7[0]?=some (G (c0.finish told) cs)/\Beside Od P Ac Z B v A7 w' t':=by
 refine(H.walk (sl:=sl) ao3 (λw a h C=>Jc h C) E.ss (Wh E) (RW.at (A.Fz.sRa _ _ s.q3) (λw h=>let ⟨_,_,b⟩:=h.1;(JU b).2.2.2) (NK (s:=s)).t3)).bind λp w1 S X _ m=>?_
 obtain⟨q1,U,Q,g,v,u,⟨rfl,y⟩,T,e,D⟩:=m;have b:Z s.r:=E.J7 _ (by simp[JF.own]);refine(pF (Ai:=λg=>g=c) (home:=(·=gC P s fc i x)) (o:=ER P s) (kR:=37) (zq:=.agg #[]) (Np E.J7) (λ_ h=>h.weak) (Jy E.w E.ss) E.c0 Uo (aa0 (qB E)) rfl (λ_ h=>h) (λ_ h=>h.1) (λ_ k h=>h.shut E.ok k) (E.ok.bq _ XR).2.2.2.symm rfl (Ϗ E.ok) (bd0 A) (A.Fz.sCw _ _ _) rfl rfl (λw1 k _ z d=>Xo (A.Fz.sCa _ _ _) z) u D).bind λq w2 O Y _ ⟨W,V,R,k1,k2,_,l⟩=>?_
 refine(QW (Ac:=Ac) A (ac4 (ag8 E.J7) (aa0 (qB E)) b E.w E.c0 rfl (Χ A) λw n d h=>h.set E.ok n d) (λ_ h _=>h) b E.w E.c0 (λ_ _ h=>h) k1 l).mono λA7 w' t' ⟨N,j,F,I,K,L,M,_⟩=>?_
 exact⟨v,j,y,F,N,(T.off e k2).off e I,e,K,L,M⟩
theorem Xn {Z0:Nat->Prop} {Sh St:Loc->Prop} {Ph:Bool->Nat->m_->o_->Trace->Prop} {X:o_->Prop} {kq:Nat} (A:EK P) (hO:s.Ok) (hc:c≠0) (H:LQ P Z0 Sh St (fun g=>g=c) c s.r s.pre 257 (ER P s) Ph X) (hr0:Z0 s.r) (hs:∀x,Z0 x->Z x) (hW:∀l,KD s.r s.pre l->Sh l/\¬St l) (hz:∀x,s.own x->Z x) (hq:∀x,s.own x->x≠s.r->¬Z0 x)
  (hSS:∀l,s.Still l->¬Sh l) (hSo:∀x,¬St (.obj x)) (hS0:∀l,Sh l->¬St l->Ac l) (hX:∀w d,X w->X (w.at d)) {n B:Nat} {q:Nat->Nat} (h0:gs[0]?=some (BD (Ui P s f td told c0 cs))) (D:Duo P Sh St (λg=>g=0) (λg=>g=c) B 0 c (ByX P s c Ph X kq) n gs w t q):
  AA P gs w sl t (bQ P Z Ac X c0 cs told w):=by
 have e:=lh (k:=kq) A.done hO hc H hr0 hs hW hz hq;refine(kD (S0:=s.Still) (bl5 H) (λw a h hs=>Jc h hs) hSS e 1 (RW.at (A.Fz.sRa _ _ s.q3) (λw h=>let ⟨_,_,hr⟩:=h.1;(JU hr).2.2.2) (NK (s:=s)).t3) h0 D).bind λm w1 E K _ ⟨q1,F,z,p,u,_,i⟩=>?_
 have b:s.own s.q3:=by simp[JF.own]
 refine(wC (Z:=Z) (X2:=λw=>w.heap[s.q3]?=some (.chan 0 #[] false kq kq false)/\s.cells w) H (VJ (A.done _ _ _)) hr0 hW hc hSo (hz _ b) (hq _ b (hO.bq _ XR).2.2.2) rfl (λ_ h=>h.1) (λw1 hq d=>Xo (A.Fz.sCa _ _ _) hq) p e i).bind λo w2 v L _ ⟨I,G,C,k1,k2,_,j⟩=>?_
 exact(QW (Ac:=Ac) A (H.sub hs) hS0 (hs _ hr0) hW hc hX k1 j).mono λy M J h=>(h.off k2).off u
theorem Vf {Od:Old} (A:EK P) (E:Env Z Ac s c) {kq:Nat} (H:Holds Od P Z Ac s.Still (fun g=>g=0) (fun g=>g=c) 0 c (ByT P s c kq) (fun g v=>g=BD (Ui P s f td told c0 cs)/\J v) gs w t):
  AA P gs w sl t λA7 w' t'=>∃v B,J v/\A7[0]?=some (G (c0.finish told) cs)/\Beside Od P Ac Z B v A7 w' t':=by
 obtain⟨q1,q,p,g,v,d,⟨rfl,e⟩,T,a,D⟩:=H;refine(Xn (Z0:=λx=>x=s.r) (Ac:=Ac) A E.ok E.c0 an0 rfl (λx i=>E.J7 _ (by rw[i];simp[JF.own])) E.w E.J7 (λ_ _ h=>h) E.ss Uo (λ_ h _=>h) (λ_ _ h=>h) d D).mono λA7 w' t' ⟨o,b,j,k,l,m,n,_⟩=>?_
 exact⟨v,b,e,j,o,T.off a k,a,l,m,n⟩
end
end Go.Fxa
