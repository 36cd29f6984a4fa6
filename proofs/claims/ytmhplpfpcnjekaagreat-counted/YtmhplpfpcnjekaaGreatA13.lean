/- Where a process goes on: the b -/
import Derived.Test.YtmhplpfpcnjekaaGreatA12
open Go.Proofs.Tryz
namespace Go.Fxa
open Go.Conc
open Go.ConcN (sumTo upd sumTo_upd upd_ne upd_same)
structure JH where
 b2:Nat
 b3:Nat
 b5:Nat
 r:Nat
 q0:Nat
 q1:Nat
 q2:Nat
 q3:Nat
 sv:n_
 n:Int
namespace JH
variable (s:JH)
def own (x:Nat):Prop:=x=s.b2\/x=s.b3\/x=s.b5\/x=s.r\/x=s.q0\/x=s.q1\/x=s.q2\/x=s.q3
def pre:X_:=#[DU s.q0,DU s.q1,DU s.q2,DU s.q3]
def Still (l:Loc):Prop:=l=.cell (S_ s.b5)\/l=.cell (S_ s.b2)\/l=.cell (S_ s.b3)\/l=.cell (S_ s.r)\/l=.cell (T_ s.r 1)\/l=.cell (T_ s.r 2)\/l=.cell (T_ s.r 3)
def cells (w:o_):Prop:=w.cell? (S_ s.b5)=some (pr s.r)/\w.cell? (S_ s.b2)=some s.sv/\w.cell? (S_ s.b3)=some (b_ s.n)
def KW (w:o_):Prop:=DC s.r s.pre 257 w/\s.cells w
def yt (q:Nat):Prop:=q=s.q0\/q=s.q1\/q=s.q2\/q=s.q3
def Open (w:o_):Prop:=∀q,s.yt q->∃k,w.heap[q]?=some (.chan 0 #[] false k k false)
def KS (w:o_):Prop:=Bv s.r s.pre 257 w KK 0/\s.cells w/\s.Open w
structure Ok:Prop where
 bq:∀q,s.yt q->q≠s.b2/\q≠s.b3/\q≠s.b5/\q≠s.r
 br:s.b2≠s.r/\s.b3≠s.r/\s.b5≠s.r
 qq:s.q0≠s.q1/\s.q0≠s.q2/\s.q0≠s.q3/\s.q1≠s.q2/\s.q1≠s.q3/\s.q2≠s.q3
end JH
section
variable {s:JH} {Z:Nat->Prop} {w w':o_}
theorem Hr {a:f_} {v:n_} (h:w.cell? a=some v) (e:w'.heap[a.block]?=w.heap[a.block]?):w'.cell? a=some v:=by
 unfold World.cell? at*;rw[e];exact h
theorem JH.KS.weak (h:s.KS w):s.KW w:=⟨⟨_,_,h.1⟩,h.2.1⟩
theorem JH.cells.keep (h:s.cells w) (e:∀x,(x=s.b5\/x=s.b2\/x=s.b3)->w'.heap[x]?=w.heap[x]?):s.cells w':=
 ⟨Hr h.1 (e _ (.inl rfl)),Hr h.2.1 (e _ (.inr (.inl rfl))),Hr h.2.2 (e _ (.inr (.inr rfl)))⟩
theorem JZ {st sm:Int} (h:Bv s.r s.pre 257 w st sm):w.cell? (S_ s.r)=some (DU s.q0)/\w.cell? (T_ s.r 1)=some (DU s.q1)/\w.cell? (T_ s.r 2)=some (DU s.q2)/\w.cell? (T_ s.r 3)=some (DU s.q3):=by
 unfold Bv at h;refine⟨?_,?_,?_,?_⟩<;>simp[World.cell?,h,JH.pre]
theorem cell_lt {a:f_} {v:n_} (h:w.cell? a=some v):a.block<w.heap.size:=by
 unfold World.cell? at h;cases e:w.heap[a.block]? with
 |none=>rw[e]at h;simp at h
 |some o=>exact(y_.1 e).1
theorem Jg (h:s.KW w) {a:f_} (hs:s.Still (.cell a)):a.block<w.heap.size:=by
 obtain⟨⟨k,j,i⟩,g,d,f⟩:=h;obtain⟨b,c,c2,c3⟩:=JZ i;obtain e|e|e|e|e|e|e:=hs<;>(injection e with e;subst e;first|exact cell_lt g|exact cell_lt d|exact cell_lt f|exact cell_lt b|exact cell_lt c|exact cell_lt c2|exact cell_lt c3)
theorem NQ (hZ:∀x,s.own x->Z x):Q7 Z s.Still s.KS where
 keep:=λw g b h=>⟨h.1.keep (hZ _ (by simp[JH.own])) b,h.2.1.keep λx f=>b x (hZ _ (by obtain e|e|e:=f<;>simp[JH.own,e])),λq c=>by
  obtain⟨k,e⟩:=h.2.2 q c
  exact⟨k,by rw[b q (hZ _ (by obtain e|e|e|e:=c<;>simp[JH.own,e]))];exact e⟩⟩
 still:=λw a h d=>Jg h.weak d
theorem ai6 (hZ:∀x,s.own x->Z x):Q7 Z s.Still s.KW where
 keep:=λw k b h=>by
  obtain⟨⟨j,i,d⟩,c⟩:=h
  exact⟨⟨j,i,d.keep (hZ _ (by simp[JH.own])) b⟩,c.keep λx g=>b x (hZ _ (by obtain e|e|e:=g<;>simp[JH.own,e]))⟩
 still:=λw a h f=>Jg h f
theorem Oe:RG s.KW s.Still s.b5 s.b2 s.b3 s.r s.q0 s.q1 s.q2 s.q3 s.sv s.n where
 c5:=λ_ h=>h.2.1
 s5:=.inl rfl
 c2:=λ_ h=>h.2.2.1
 s2:=.inr (.inl rfl)
 c3:=λ_ h=>h.2.2.2
 s3:=.inr (.inr (.inl rfl))
 r0:=λ_ h=>let ⟨_,_,hr⟩:=h.1;(JZ hr).1
 t0:=.inr (.inr (.inr (.inl rfl)))
 r1:=λ_ h=>let ⟨_,_,hr⟩:=h.1;(JZ hr).2.1
 t1:=.inr (.inr (.inr (.inr (.inl rfl))))
 r2:=λ_ h=>let ⟨_,_,hr⟩:=h.1;(JZ hr).2.2.1
 t2:=.inr (.inr (.inr (.inr (.inr (.inl rfl)))))
 r3:=λ_ h=>let ⟨_,_,hr⟩:=h.1;(JZ hr).2.2.2
 t3:=.inr (.inr (.inr (.inr (.inr (.inr rfl)))))
theorem Ju {q x d cap k k':Nat} {buf:X_} {cl tm:Bool} (h:q≠x):((w.at d).setChan q cap buf cl k k' tm).heap[x]?=w.heap[x]?:=by
 simp[World.setChan,World.at,z_ h]
theorem JH.KS.chan (O:s.Ok) {q:Nat} (hq:s.yt q) (h:s.KS w) (d k:Nat):s.KS ((w.at d).setChan q 0 #[] false k k false):=by
 obtain⟨e2,e3,g,i⟩:=O.bq q hq;refine⟨?_,h.2.1.keep λx j=>?_,λf b=>?_⟩
 .unfold Bv;rw[Ju i];exact h.1
 .obtain e|e|e:=j<;>subst e
  .exact Ju g
  .exact Ju e2
  .exact Ju e3
 .by_cases e:q=f
  .subst e;obtain⟨c,a⟩:=h.2.2 q hq;have:=(y_.1 a).1;exact⟨k,by simp[World.setChan,World.at,this]⟩
  .obtain⟨c,a⟩:=h.2.2 f b;exact⟨c,by rw[Ju e];exact a⟩
theorem JH.KW.shut (O:s.Ok) (h:s.KW w) (k:Nat):s.KW (w.setChan s.q3 0 #[] true k k false):=by
 obtain⟨e2,e3,c,d⟩:=O.bq s.q3 (.inr (.inr (.inr rfl)));have a:∀x,s.q3≠x->(w.setChan s.q3 0 #[] true k k false).heap[x]?=w.heap[x]?:=λx b=>by simp[World.setChan,z_ b]
 obtain⟨⟨j,i,g⟩,f⟩:=h;refine⟨⟨j,i,by unfold Bv;rw[a _ d];exact g⟩,f.keep λx b=>?_⟩;obtain e|e|e:=b<;>subst e
 .exact a _ c
 .exact a _ e2
 .exact a _ e3
theorem JH.KW.set (O:s.Ok) (h:s.KW w) (m:Int) (d:Nat):s.KW ((w.at d).setCell (stA s.r s.pre) (.int .u64 m)):=by
 obtain⟨⟨i,a,f⟩,c⟩:=h;have b:Bv s.r s.pre 257 (w.at d) i a:=f;refine⟨⟨m,a,b.setSt m⟩,c.keep λx g=>?_⟩;have:s.r≠x:=by obtain e|e|e:=g<;>subst e<;>first|exact O.br.2.2.symm|exact O.br.1.symm|exact O.br.2.1.symm
 simp[World.setCell,World.at,stA,Array.getElem?_modify,this]
theorem UK {l:Loc} (h:Lj s.r s.pre l):¬s.Still l:=by
 have a:s.pre.size=4:=rfl;intro b;obtain e|e:=h<;>subst e<;>obtain e|e|e|e|e|e|e:=b<;>simp[stA,smA,a]at e
theorem Jy {Ac:Loc->Prop} {c j:Nat} (hW:∀l,Lj s.r s.pre l->Ac l/\¬s.Still l) (hss:∀l,s.Still l->¬Ac l):YT Ac s.Still j (JS c s.r s.pre) where
 ss:=hss
 calm:=λ_ _ h f=>h.app λop a b d e=>((f op a).2.1 b d).2 (hW _ e).1
 reads:=λ_ _ h f=>h.app λop a b d e=>((hW _ e).2 (f op a b d).2).elim
theorem IU (hZ:∀x,s.own x->Z x):F9 s.Still Z:=by
 refine⟨λa b=>?_,λr b=>?_⟩
 .obtain e|e|e|e|e|e|e:=b<;>(injection e with e;subst e;apply hZ;simp[JH.own])
 .obtain e|e|e|e|e|e|e:=b<;>cases e
end
/-! ### silent steps, reckoned -/
theorem IM {P:l_} {K:o_->Prop} {main:Bool} {s:d_ (j_×Nat)}:∀{n:Nat} {x y:Frame×Z_},DZ P s n x=some ([],y)->Kr P K main n (BL x) (BL y):=by
 intro n
 induction n with
 |zero=>
  intro x y h
  simp only[DZ,Option.some.injEq,Prod.mk.injEq,true_and]at h
  subst h;exact rfl
 |succ n c=>
  intro x y h
  simp only[DZ]at h
  split at h
  .rename_i d z b;split at h
   .rename_i e f a;simp only[Option.some.injEq,Prod.mk.injEq,List.append_eq_nil_iff]at h;obtain⟨⟨rfl,rfl⟩,rfl⟩:=h;exact⟨rfl,_,λw _=>QQ b (by simp),c a⟩
   .cases h
  .cases h
theorem DI {P:l_} {K:o_->Prop} {main:Bool} {n:Nat} {x:Frame×Z_} (h:AB P n x=some []):Kr P K main n (BL x) (BL (run P n x)):=by
 unfold Fxa.AB at h;obtain⟨⟨l,y⟩,a,rfl⟩:=Option.map_eq_some_iff.1 h;have e:run P n x=y:=by unfold run;rw[a]
 rw[e];exact IM a
/-! ### beside leavers -/
def MS (P:l_) (gs:Array m_) (w:o_) (sl:d_ (W_)) (t:Trace) (Q:Array m_->o_->Trace->Prop):Prop:=
 ∃N Bg w' DJ t',runNT P N (crowd gs w sl) t=(.next (crowd Bg w' DJ),t')/\Q Bg w' t'
section
variable {P:l_} {gs:Array m_} {w:o_} {sl:d_ (W_)} {t:Trace} {Q Q':Array m_->o_->Trace->Prop}
theorem AO.leads (h:AO P gs w sl t Q):MS P gs w sl t Q:=by
 obtain⟨N,a,w1,b,e,d,_,c⟩:=h;exact⟨N,a,w1,b,e,d,c⟩
theorem MS.now (hq:Q gs w t):MS P gs w sl t Q:=⟨0,gs,w,sl,t,rfl,hq⟩
theorem MS.bind (hq:MS P gs w sl t Q) (hk:∀Bg w' DJ t',Q Bg w' t'->MS P Bg w' DJ t' Q'):MS P gs w sl t Q':=by
 obtain⟨N,a,w1,e,j,i,g⟩:=hq;obtain⟨f,b,w2,d,k,c,h⟩:=hk a w1 e j g;exact⟨N+f,b,w2,d,k,by rw[runNT_add,i];exact c,h⟩
theorem AO.then (hq:AO P gs w sl t Q) (hk:∀Bg w' DJ t',Bg.size=gs.size->Q Bg w' t'->MS P Bg w' DJ t' Q'):MS P gs w sl t Q':=by
 obtain⟨N,a,w1,e,k,i,j,g⟩:=hq;obtain⟨f,b,w2,d,l,c,h⟩:=hk a w1 e k j g;exact⟨N+f,b,w2,d,l,by rw[runNT_add,i];exact c,h⟩
theorem MS.mono (hq:MS P gs w sl t Q) (hk:∀Bg w' t',Q Bg w' t'->Q' Bg w' t'):MS P gs w sl t Q':=by
 obtain⟨N,a,w1,b,e,d,c⟩:=hq;exact⟨N,a,w1,b,e,d,hk _ _ _ c⟩
variable {Ac:Loc->Prop} {Z:Nat->Prop} {B:Nat} {v:o_}
theorem O7:RI (Past Ac B):=λ_ _ _ _ _ b a h=>h.mute b a
theorem Beside.Si {Od:Old} {k:Nat} {a a':m_} (Bs:Beside Od P Ac Z B v gs w t) (h0:gs[0]?=some a) (hs:Kr P (λ_=>True) true k a a'):AO P gs w sl t λBg w' t'=>Bg[0]?=some a'/\Beside Od P Ac Z B v Bg w' t'/\w'.heap=w.heap:=by
 obtain⟨q,T,f,c,e,b⟩:=Bs;refine(JY O7 k hs (λ_=>trivial) h0 c e).mono λBg w' t' ⟨l,d,g,h,i,j⟩=>?_
 subst h;exact⟨g,⟨l,T.Rz v.tape w.tape v.drawn d,f,i,j,b⟩,rfl⟩
theorem Beside.read {Od:Old} {x:Frame×Z_} {ad:f_} {y u:n_} (Bs:Beside Od P Ac Z B v gs w t) (h0:gs[0]?=some (BL x)) (hr:DY P x u=some ([ad],y)) (hc:w.cell? ad=some u) (hs:¬Ac (.cell ad)):
  AO P gs w sl t λBg w' t'=>Bg[0]?=some (BL (BG x y))/\Beside Od P Ac Z B v Bg w' t'/\w'.heap=w.heap:=by
 obtain⟨q,T,z,r,s,p⟩:=Bs;have D:RW P true (λw=>w.cell? ad=some u) (λl=>l=.cell ad) 1 (BL x) (BL (BG x y)):=RW.at hr (λ_ h=>h) rfl;obtain⟨_,n,G,k,j,e⟩:=D;have m:n=BL (BG x y):=e;subst m;refine go_mute O7 h0 rfl r s λd H f=>⟨_,_,_,j (w.at d) hc,λBg E _ o c F=>.now ⟨o,⟨E,T.Rz v.tape w.tape v.drawn d,z,c,f.own λe C=>?_,p⟩,rfl⟩⟩
 obtain⟨a,rfl,g⟩:=k e C;injection g with g;subst g;refine⟨λb A i=>?_,by simp,by simp,?_⟩
 .obtain rfl:=x_ A;exact(hs i).elim
 .have:=cell_lt hc;show a.block<B;omega
end
end Go.Fxa
namespace Go.Fxa
open Go.Conc Go.Proofs
def puts (P:l_) {α:Type}:Sem α->d_ (List (f_×n_)×α)
 |.pure a=>some ([],a)
 |.program k=>puts P (k P)
 |.store .plain a (.int t v) k=>(puts P k).map λx=>((a,.int t v)::x.1,x.2)
 |.store .plain a (.func f x y) k=>(puts P k).map λz=>((a,.func f x y)::z.1,z.2)
 |_=>none
def nT (w:o_):List (f_×n_)->Prop
 |[]=>True
 |x::l=>(∃u,w.cell? x.1=some u)/\w.frozen? x.1=false/\nT (w.setCell x.1 x.2) l
def Jb (w:o_) (l:List (f_×n_)):o_:=l.foldl (λw x=>w.setCell x.1 x.2) w
def Ik (l:List (f_×n_)):Array Event:=(l.map λx=>(⟨.cell x.1,true,false⟩:Event)).toArray
section
variable {P:l_}
theorem wP {α:Type} {e:Sem α} {a:α}:∀{l:List (f_×n_)} {w:o_},puts P e=some (l,a)->nT w l->∀es,e.runT P w es=(.ok a (Jb w l),es++Ik l):=by
 induction e with
 |pure b=>
  intro l w h _ es
  simp only[puts,Option.some.injEq,Prod.mk.injEq]at h
  obtain⟨rfl,rfl⟩:=h
  simp[Sem.runT,Jb,Ik]
 |program k p=>intro l w h i es;exact p P h i es
 |store m g v k p=>
  intro l w h i es
  have key:∀q,l=(g,v)::q->m=.plain->puts P k=some (q,a)->(∀u:o_,(∃x,u.cell? g=some x)->u.frozen? g=false->(Sem.store m g v k).runT P u es=k.runT P (u.setCell g v) (es.push ⟨.cell g,true,false⟩))->(Sem.store m g v k).runT P w es=(.ok a (Jb w l),es++Ik l):=by
   rintro q rfl rfl C r
   obtain⟨s,A,B⟩:=i
   rw[r w s A,p C B]
   simp[Jb,Ik]
  cases m with
  |atomic=>cases v<;>simp[puts]at h
  |plain=>
   cases v with
   |int t x=>
    obtain⟨y,n,e⟩:=Option.map_eq_some_iff.1 h
    simp only[Prod.mk.injEq]at e
    obtain⟨e1,e2⟩:=e
    refine key y.1 e1.symm rfl (by rw[n,<-e2]) λu ⟨z,o⟩ j=>?_
    simp only[Sem.runT,o,j,Bool.false_eq_true,if_false]
    rfl
   |func f c d=>
    obtain⟨y,n,e⟩:=Option.map_eq_some_iff.1 h
    simp only[Prod.mk.injEq]at e
    obtain⟨e1,e2⟩:=e
    refine key y.1 e1.symm rfl (by rw[n,<-e2]) λu ⟨z,o⟩ j=>?_
    simp only[Sem.runT,o,j,Bool.false_eq_true,if_false]
    rfl
   |_=>simp[puts]at h
 |_=>intro l w h;simp[puts]at h
def TD (P:l_) (x:Frame×Z_):d_ (List (f_×n_)):=match opAt x with
 |some o=>match puts P (execOp x.1.eval o)with
  |some (l,.skip)=>if(P.funcs[x.1.fn]?).any (·.norace)then none else some l
  |_=>none
 |none=>none
theorem Vf {main:Bool} {x:Frame×Z_} {l:List (f_×n_)} {w:o_} (h:TD P x=some l) (hc:nT w l):stepG P main (BL x) w=.go (BL (BG x undef)) (Jb w l) (Ik l):=by
 unfold TD at h;split at h
 .rename_i o j;split at h
  .rename_i c i;split at h
   .cases h
   .rename_i k;obtain rfl:=x_ h;obtain⟨d,g⟩:=Qc (P:=P) (main:=main) (w:=w) j;show stepG P main (G x.1 x.2) w=_;rw[d];have m:seen P x.1.fn (#[]++Ik c)=Ik c:=by
     rw[Array.empty_append]
     exact seen_eq (by simpa using k) (λe b f=>by
      simp only[Ik,List.mem_toArray,List.mem_map]at b
      obtain⟨a,_,rfl⟩:=b
      simp)
    simp only[stepG.apply,wP i hc #[],if_true,GStep.after,Array.append_empty,g,Bool.false_eq_true,if_false,m]
    rfl
  .cases h
 .cases h
end
def zk:Obj:=.cells #[a_ 0,a_ 0,.nilFunc] 206 (0,0)
def OV (x0 y0:Int) (fn:Fn) (ca cb:X_):n_:=.agg #[a_ x0,a_ y0,.func fn ca cb]
section
variable (P:l_) (q0 q1 q3:Nat) (x:n_) (x0 y0:Int) (fn:Fn) (ca cb:X_) (f:Y_) (Y:Z_) (k:Nat) (p:Int)
def zz0:=run P 9 (a0 P q0 q1 q3 x (OV x0 y0 fn ca cb) f Y)
def zz1:=BG (zz0 P q0 q1 q3 x x0 y0 fn ca cb f Y) (pr k)
def zz2:=run P 5 (BG (zz1 P q0 q1 q3 x x0 y0 fn ca cb f Y k) undef)
def zz3:=run P 11 (BG (zz2 P q0 q1 q3 x x0 y0 fn ca cb f Y k) (.func fn ca cb))
def zz4:=run P 3 (BG (zz3 P q0 q1 q3 x x0 y0 fn ca cb f Y k) (a_ p))
end
structure UU (P:l_) (b5 b2 b3 r q0 q1 q3:Nat) (sa:f_) (n:Int):Prop where
 c1:∀(f:Y_) (Y:Z_) (i:Int) (x:n_) (x0 y0:Int) (fn:Fn) (ca cb:X_),AB P 9 (a0 P q0 q1 q3 x (OV x0 y0 fn ca cb) (AY f (sl6 r (.pointer (some sa)) n i 1 x)) Y)=some []
 c2:∀(f:Y_) (Y:Z_) (i:Int) (x:n_) (x0 y0:Int) (fn:Fn) (ca cb:X_) (w:o_),stepG P false (BL (zz0 P q0 q1 q3 x x0 y0 fn ca cb (AY f (sl6 r (.pointer (some sa)) n i 1 x)) Y)) w=.go (BL (zz1 P q0 q1 q3 x x0 y0 fn ca cb (AY f (sl6 r (.pointer (some sa)) n i 1 x)) Y w.heap.size)) { w with heap:=w.heap.push zk } #[]
 c3:∀(f:Y_) (Y:Z_) (i:Int) (x:n_) (x0 y0:Int) (fn:Fn) (ca cb:X_) (k:Nat),TD P (zz1 P q0 q1 q3 x x0 y0 fn ca cb (AY f (sl6 r (.pointer (some sa)) n i 1 x)) Y k)=some [((S_ k),a_ x0),((T_ k 1),a_ y0),((T_ k 2),.func fn ca cb)]
 c4:∀(f:Y_) (Y:Z_) (i:Int) (x:n_) (x0 y0:Int) (fn:Fn) (ca cb:X_) (k:Nat),AB P 5 (BG (zz1 P q0 q1 q3 x x0 y0 fn ca cb (AY f (sl6 r (.pointer (some sa)) n i 1 x)) Y k) undef)=some []
 c5:∀(f:Y_) (Y:Z_) (i:Int) (x:n_) (x0 y0:Int) (fn:Fn) (ca cb:X_) (k:Nat),DY P (zz2 P q0 q1 q3 x x0 y0 fn ca cb (AY f (sl6 r (.pointer (some sa)) n i 1 x)) Y k) (.func fn ca cb)=some ([(T_ k 2)],.func fn ca cb)
 c6:∀(f:Y_) (Y:Z_) (i:Int) (x:n_) (x0 y0:Int) (fn:Fn) (ca cb:X_) (k:Nat),AB P 11 (BG (zz2 P q0 q1 q3 x x0 y0 fn ca cb (AY f (sl6 r (.pointer (some sa)) n i 1 x)) Y k) (.func fn ca cb))=some []
 c7:∀(f:Y_) (Y:Z_) (i:Int) (x:n_) (x0 y0:Int) (fn:Fn) (ca cb:X_) (k:Nat) (p:Int),DY P (zz3 P q0 q1 q3 x x0 y0 fn ca cb (AY f (sl6 r (.pointer (some sa)) n i 1 x)) Y k) (a_ p)=some ([sa.add 2],a_ p)
 c8:∀(f:Y_) (Y:Z_) (i:Int) (x:n_) (x0 y0:Int) (fn:Fn) (ca cb:X_) (k:Nat) (p:Int),AB P 3 (BG (zz3 P q0 q1 q3 x x0 y0 fn ca cb (AY f (sl6 r (.pointer (some sa)) n i 1 x)) Y k) (a_ p))=some []
 c9:∀(f:Y_) (Y:Z_) (i:Int) (x:n_) (x0 y0:Int) (fn:Fn) (ca cb:X_) (k:Nat) (p:Int),TD P (zz4 P q0 q1 q3 x x0 y0 fn ca cb (AY f (sl6 r (.pointer (some sa)) n i 1 x)) Y k p)=some [(sa.add 2,a_ (IntKind.u16.wrap (p-2)))]
 ca:∀(f:Y_) (i:Int) (x:n_) (x0 y0:Int) (fn:Fn) (ca cb:X_) (k:Nat) (p:Int),DZ P (some (257,6)) 34 (BG (zz4 P q0 q1 q3 x x0 y0 fn ca cb (AY f (sl6 r (.pointer (some sa)) n i 1 x)) (Un P b5 b2 b3 r (.pointer (some sa)) n) k p) undef)=some ([r,r],dR P r (Ry P b5 b2 b3 r (.pointer (some sa)) n))
theorem qU {b5 b2 b3 r q0 q1 q3:Nat} {sa:f_} {n:Int}:UU prog b5 b2 b3 r q0 q1 q3 sa n:=by
 constructor<;>intros<;>kernel_rfl
section
variable {P:l_} {b5 b2 b3 r q0 q1 q3:Nat} {sa:f_} {n:Int} {Zl:Nat->Prop} {S0:Nat} {cs:X_} {Sl:j_} {p:Int} {pa pb pc pd:n_}
def Uy (cs:X_) (Sl:j_) (sa:f_) (p:Int):Obj:=.cells (cs.setIfInBounds (sa.off+2) (a_ (IntKind.u16.wrap (p-2)))) Sl (0,0)
def Ja (cs:X_) (Sl:j_) (sa:f_) (p:Int) (w:o_):Prop:=w.heap[sa.block]?=some (Uy cs Sl sa p)
theorem Vs (h1:Zl sa.block) (w w1:o_) (ha:AgL Zl w w1) (h:Ja cs Sl sa p w):Ja cs Sl sa p w1:=by
 unfold Ja;rw[ha _ h1];exact h
theorem qN (F:UU P b5 b2 b3 r q0 q1 q3 sa n) (h1:Zl sa.block) (h2:∀x,S0<=x->Zl x) (BI:sa.block<S0) (hp:cs[sa.off+2]?=some (a_ p)) (f:Y_) (i:Int) (x:n_) (x0 y0:Int) (fn:Fn) (ca cb:X_) {w:o_} (hw:w.heap[sa.block]?=some (O_ cs Sl)) (hS:S0<w.heap.size):
  Ia P r #[pa,pb,pc,pd] 257 Zl (BL (dR P r (Ry P b5 b2 b3 r (.pointer (some sa)) n))) (Ja cs Sl sa p) 67 (Conc.served (BL (m3 P q0 q1 q3 x (AY f (sl6 r (.pointer (some sa)) n i 1 x)) (Un P b5 b2 b3 r (.pointer (some sa)) n))) (commResult (Gv q1 q3) .select 0 (OV x0 y0 fn ca cb) true)) w:=by
 have v:=Vs (Zl:=Zl) (cs:=cs) (Sl:=Sl) (p:=p) (sa:=sa) h1;have g:∀{w1:o_},w1.heap[sa.block]?=some (O_ cs Sl)->w1.cell? (sa.add 2)=some (a_ p)/\w1.frozen? (sa.add 2)=false:=fun {w1} h=>by
  constructor
  .simp[World.cell?,Addr.add,h,hp]
  .simp[World.frozen?,Addr.add,h]
 have O:∀(k:Nat) (w:o_),Ja cs Sl sa p w->Ia P r #[pa,pb,pc,pd] 257 Zl (BL (dR P r (Ry P b5 b2 b3 r (.pointer (some sa)) n))) (Ja cs Sl sa p) (34+0) (BL (BG (zz4 P q0 q1 q3 x x0 y0 fn ca cb (AY f (sl6 r (.pointer (some sa)) n i 1 x)) (Un P b5 b2 b3 r (.pointer (some sa)) n) k p) undef)) w:=
  λk w R=>Ia.Si v (n:=0) ⟨rfl,R⟩ (Gf GX (F.ca f i x x0 y0 fn ca cb k p) (by simp))
 have N:∀(k:Nat) (w:o_),w.heap[sa.block]?=some (O_ cs Sl)->Ia P r #[pa,pb,pc,pd] 257 Zl (BL (dR P r (Ry P b5 b2 b3 r (.pointer (some sa)) n))) (Ja cs Sl sa p) 35 (BL (zz4 P q0 q1 q3 x x0 y0 fn ca cb (AY f (sl6 r (.pointer (some sa)) n i 1 x)) (Un P b5 b2 b3 r (.pointer (some sa)) n) k p)) w:=by
  intro k w hw
  refine⟨rfl,λw1 d _=>?_⟩
  have b:w1.heap[sa.block]?=some (O_ cs Sl):=by rw[d _ h1];exact hw
  obtain⟨u,c2⟩:=g b
  have j:=(y_.1 b).1
  refine⟨_,_,_,Vf (F.c9 f _ i x x0 y0 fn ca cb k p) ⟨⟨_,u⟩,c2,trivial⟩,λe m=>?_,?_,O k _ ?_⟩
  .simp only[Ik,List.map_cons,List.map_nil,List.mem_toArray,r_,List.not_mem_nil,or_false]at m;subst m;exact⟨_,_,rfl,h1,by simpa [Jb,World.setCell,Addr.add]using j⟩
  .refine⟨by simp[Jb,World.setCell],λy z=>?_,rfl,rfl,rfl⟩;have:sa.block≠y:=λe=>z (e ▸ h1)
   simp[Jb,World.setCell,Addr.add,Array.getElem?_modify,this]
  .simp[Ja,Uy,Jb,World.setCell,Addr.add,Array.getElem?_modify,b]
 have M:∀(k:Nat) (w:o_),w.heap[sa.block]?=some (O_ cs Sl)->Ia P r #[pa,pb,pc,pd] 257 Zl (BL (dR P r (Ry P b5 b2 b3 r (.pointer (some sa)) n))) (Ja cs Sl sa p) 39 (BL (zz3 P q0 q1 q3 x x0 y0 fn ca cb (AY f (sl6 r (.pointer (some sa)) n i 1 x)) (Un P b5 b2 b3 r (.pointer (some sa)) n) k)) w:=by
  intro k w hw
  refine⟨rfl,λw1 d _=>?_⟩
  have b:w1.heap[sa.block]?=some (O_ cs Sl):=by rw[d _ h1];exact hw
  obtain⟨u,c2⟩:=g b
  have j:=(y_.1 b).1
  have E:=RW.at (main:=false) (K:=λw=>w=w1) (Still:=λl=>l=.cell (sa.add 2)) (F.c7 f (Un P b5 b2 b3 r (.pointer (some sa)) n) i x x0 y0 fn ca cb k p) (λw hw=>by rw[hw];exact u) rfl
  obtain⟨_,D,Q,B,A,e⟩:=E
  have C:D=BL (BG (zz3 P q0 q1 q3 x x0 y0 fn ca cb (AY f (sl6 r (.pointer (some sa)) n i 1 x)) (Un P b5 b2 b3 r (.pointer (some sa)) n) k) (a_ p)):=e
  subst C
  refine⟨_,_,_,A w1 rfl,λe m=>?_,CB.refl w1,Ia.Si v (n:=35) (N k w1 b) (DI (F.c8 f _ i x x0 y0 fn ca cb k p))⟩
  obtain⟨a,rfl,c⟩:=B e m
  injection c with c
  subst c
  exact⟨_,_,rfl,h1,j⟩
 have L:∀(k:Nat) (w:o_),S0<=k->w.heap[sa.block]?=some (O_ cs Sl)->w.heap[k]?=some (O_ #[a_ x0,a_ y0,.func fn ca cb] 206)->Ia P r #[pa,pb,pc,pd] 257 Zl (BL (dR P r (Ry P b5 b2 b3 r (.pointer (some sa)) n))) (Ja cs Sl sa p) 51 (BL (zz2 P q0 q1 q3 x x0 y0 fn ca cb (AY f (sl6 r (.pointer (some sa)) n i 1 x)) (Un P b5 b2 b3 r (.pointer (some sa)) n) k)) w:=by
  intro k w q hw s
  refine⟨rfl,λw1 d _=>?_⟩
  have b:w1.heap[sa.block]?=some (O_ cs Sl):=by rw[d _ h1];exact hw
  have t:w1.heap[k]?=some (O_ #[a_ x0,a_ y0,.func fn ca cb] 206):=by rw[d _ (h2 k q)];exact s
  have o:=(y_.1 t).1
  have u:w1.cell? (T_ k 2)=some (.func fn ca cb):=by simp[World.cell?,t]
  have E:=RW.at (main:=false) (K:=λw=>w=w1) (Still:=λl=>l=.cell (T_ k 2)) (F.c5 f (Un P b5 b2 b3 r (.pointer (some sa)) n) i x x0 y0 fn ca cb k) (λw hw=>by rw[hw];exact u) rfl
  obtain⟨_,D,Q,B,A,e⟩:=E
  have C:D=BL (BG (zz2 P q0 q1 q3 x x0 y0 fn ca cb (AY f (sl6 r (.pointer (some sa)) n i 1 x)) (Un P b5 b2 b3 r (.pointer (some sa)) n) k) (.func fn ca cb)):=e
  subst C
  refine⟨_,_,_,A w1 rfl,λe m=>?_,CB.refl w1,Ia.Si v (n:=39) (M k w1 b) (DI (F.c6 f _ i x x0 y0 fn ca cb k))⟩
  obtain⟨a,rfl,c⟩:=B e m
  injection c with c
  subst c
  exact⟨_,_,rfl,h2 k q,o⟩
 have J:∀(k:Nat) (w:o_),S0<=k->w.heap[sa.block]?=some (O_ cs Sl)->w.heap[k]?=some zk->Ia P r #[pa,pb,pc,pd] 257 Zl (BL (dR P r (Ry P b5 b2 b3 r (.pointer (some sa)) n))) (Ja cs Sl sa p) 57 (BL (zz1 P q0 q1 q3 x x0 y0 fn ca cb (AY f (sl6 r (.pointer (some sa)) n i 1 x)) (Un P b5 b2 b3 r (.pointer (some sa)) n) k)) w:=by
  intro k w q hw s
  refine⟨rfl,λw1 d _=>?_⟩
  have b:w1.heap[sa.block]?=some (O_ cs Sl):=by rw[d _ h1];exact hw
  have t:w1.heap[k]?=some zk:=by rw[d _ (h2 k q)];exact s
  have o:=(y_.1 t).1
  have H:k≠sa.block:=by omega
  refine⟨_,_,_,Vf (F.c3 f _ i x x0 y0 fn ca cb k) ?_,λe m=>?_,?_,Ia.Si v (n:=51) (L k _ q ?_ ?_) (DI (F.c4 f _ i x x0 y0 fn ca cb k))⟩
  .refine⟨⟨a_ 0,?_⟩,?_,⟨a_ 0,?_⟩,?_,⟨.nilFunc,?_⟩,?_,trivial⟩<;>simp[World.cell?,World.frozen?,World.setCell,Array.getElem?_modify,t,zk]
  .simp only[Ik,List.map_cons,List.map_nil,List.mem_toArray,r_,List.not_mem_nil,or_false]at m;obtain rfl|rfl|rfl:=m<;>exact⟨_,_,rfl,h2 k q,by simpa [Jb,World.setCell]using o⟩
  .refine⟨by simp[Jb,World.setCell],λy z=>?_,rfl,rfl,rfl⟩;have:k≠y:=λe=>z (e ▸ h2 k q)
   simp[Jb,World.setCell,Array.getElem?_modify,this]
  .simp[Jb,World.setCell,Array.getElem?_modify,H,b]
  .simp[Jb,World.setCell,Array.getElem?_modify,t,zk]
 have I:Ia P r #[pa,pb,pc,pd] 257 Zl (BL (dR P r (Ry P b5 b2 b3 r (.pointer (some sa)) n))) (Ja cs Sl sa p) 58 (BL (zz0 P q0 q1 q3 x x0 y0 fn ca cb (AY f (sl6 r (.pointer (some sa)) n i 1 x)) (Un P b5 b2 b3 r (.pointer (some sa)) n))) w:=by
  refine⟨rfl,λw1 d _=>?_⟩
  have b:w1.heap[sa.block]?=some (O_ cs Sl):=by rw[d _ h1];exact hw
  have G:S0<=w1.heap.size:=by
   have e1:=d S0 (h2 S0 (w_ _))
   rw[v_ hS]at e1
   exact Nat.le_of_lt (y_.1 e1).1
  refine⟨_,_,_,F.c2 f _ i x x0 y0 fn ca cb w1,by simp,?_,J w1.heap.size _ G ?_ ?_⟩
  .refine⟨by simp,λy z=>?_,rfl,rfl,rfl⟩;have:y≠w1.heap.size:=λe=>z (h2 y (by omega))
   simp only[Array.getElem?_push,this,if_false]
  .have:=(y_.1 b).1;simp only[Array.getElem?_push];rw[if_neg (by omega)];exact b
  .simp
 rw[RQ];exact Ia.Si v (n:=58) I (DI (F.c1 f _ i x x0 y0 fn ca cb))
end
end Go.Fxa
namespace Go.Fxa
open Go.Conc
open Go.ConcN (sumTo upd sumTo_upd upd_ne upd_same)
theorem II {a b cc:CommCase} {m:Nat} (h:(#[a,b]:Array CommCase)[m]?=some cc):(m=0/\cc=a)\/(m=1/\cc=b):=by
 match m,h with
 |0,h=>simp at h;exact .inl ⟨rfl,h.symm⟩
 |1,h=>simp at h;exact .inr ⟨rfl,h.symm⟩
 |m+2,h=>simp at h
structure Env (Z:Nat->Prop) (Ac:Loc->Prop) (s:JH) (c:Nat):Prop where
 Ku:∀x,s.own x->Z x
 under:F9 Ac Z
 ofw:∀l,Lj s.r s.pre l->Ac l
 ss:∀l,s.Still l->¬Ac l
 ok:s.Ok
 c0:c≠0
def ByK (P:l_) (s:JH) (c:Nat) (gS:m_):Nat->m_->o_->Trace->Prop:=Om P true s.KW s.KS (JS c s.r s.pre) s.Still (Ou s.q0 s.q2) .select (·=gS)
def kT (P:l_) (s:JH) (c:Nat) (gC:m_):Nat->m_->o_->Trace->Prop:=Om P (c==0) s.KW s.KS (JS c s.r s.pre) s.Still (Gv s.q1 s.q3) .select (·=gC)
def EY (P:l_) (s:JH):QY:=outs P s.r (Ry P s.b5 s.b2 s.b3 s.r s.sv s.n)
def ByX (P:l_) (s:JH) (c:Nat) (Ph:Bool->Nat->m_->o_->Trace->Prop) (X:o_->Prop) (k:Nat) (n:Nat) (g:m_) (w:o_) (t:Trace):Prop:=CE P c s.r s.pre 257 (EY P s) Ph X false n g w t/\(w.heap[s.q3]?=some (.chan 0 #[] false k k false)/\s.cells w)
def ByT (P:l_) (s:JH) (c k:Nat):Nat->m_->o_->Trace->Prop:=ByX P s c bg6 (λ_=>True) k
def IG (c g:Nat):Prop:=g=0\/g=c
section
variable {P:l_} {Z:Nat->Prop} {Ac:Loc->Prop} {s:JH} {c:Nat}
theorem Env.w (E:Env Z Ac s c):∀l,Lj s.r s.pre l->Ac l/\¬s.Still l:=λl h=>⟨E.ofw l h,UK h⟩
theorem au4:s.yt s.q0:=.inl rfl
theorem zh:s.yt s.q1:=.inr (.inl rfl)
theorem ad2:s.yt s.q2:=.inr (.inr (.inl rfl))
theorem Yg:s.yt s.q3:=.inr (.inr (.inr rfl))
theorem Env.zq (E:Env Z Ac s c) {q:Nat} (h:s.yt q):Z q:=E.Ku q (by obtain e|e|e|e:=h<;>simp[JH.own,e])
theorem Md {w:o_} {q:Nat} {z:n_} (h:s.Open w) (hq:s.yt q):Gh w (rcase q z):=by
 obtain⟨k,e⟩:=h q hq;exact⟨q,z,k,rfl,e⟩
theorem tY {w:o_} (h:s.KS w):∀cc∈Ou s.q0 s.q2,Gh w cc:=by
 intro cc a;simp only[Ou,List.mem_toArray,r_,List.not_mem_nil,or_false]at a;obtain rfl|rfl:=a
 .exact Md h.2.2 au4
 .exact Md h.2.2 ad2
theorem ϧ {w:o_} (h:s.KS w):∀cc∈Gv s.q1 s.q3,Gh w cc:=by
 intro cc a;simp only[Gv,List.mem_toArray,r_,List.not_mem_nil,or_false]at a;obtain rfl|rfl:=a
 .exact Md h.2.2 zh
 .exact Md h.2.2 Yg
theorem aq4 (E:Env Z Ac s c):∀cc∈Ou s.q0 s.q2,∃q z,cc=rcase q z/\Z q:=by
 intro cc a;simp only[Ou,List.mem_toArray,r_,List.not_mem_nil,or_false]at a;obtain rfl|rfl:=a
 .exact⟨_,_,rfl,E.zq au4⟩
 .exact⟨_,_,rfl,E.zq ad2⟩
theorem rD (E:Env Z Ac s c):∀cc∈Gv s.q1 s.q3,∃q z,cc=rcase q z/\Z q:=by
 intro cc a;simp only[Gv,List.mem_toArray,r_,List.not_mem_nil,or_false]at a;obtain rfl|rfl:=a
 .exact⟨_,_,rfl,E.zq zh⟩
 .exact⟨_,_,rfl,E.zq Yg⟩
theorem wJ {c c':Nat} {z z':n_} (h:rcase c z=rcase c' z'):c=c':=by simp[rcase]at h;exact h.1
theorem ac2 {cs:Array CommCase} (h:∀cc∈cs,∃q z,cc=rcase q z/\Z q):∀cc∈cs,∀c z,cc=rcase c z->Z c:=λcc b c z e=>by
 obtain⟨q,f,a,d⟩:=h cc b;rw[e]at a;rw[wJ a];exact d
theorem nD {gS:m_} (E:Env Z Ac s c):Gx P Z Ac s.Still (λB t=>PX Ac s.Still (IG c) (λg=>g=0) B c t) 0 (ByK P s c gS):=
 VN (NQ E.Ku) (λ_ h=>h.weak) (Jy E.w E.ss) (ac2 (aq4 E)) (.inl rfl) rfl
theorem Wv {gC:m_} (E:Env Z Ac s c):Gx P Z Ac s.Still (λB t=>PX Ac s.Still (IG c) (λg=>g=c) B 0 t) c (kT P s c gC):=
 VN (NQ E.Ku) (λ_ h=>h.weak) (Jy E.w E.ss) (ac2 (rD E)) (.inr rfl) rfl
theorem nC {Z0:Nat->Prop} {Sh St:Loc->Prop} {Z':Nat->Prop} {Ph:Bool->Nat->m_->o_->Trace->Prop} {X:o_->Prop} {k:Nat} (hd:∀r tm td,OQ P r tm td) (hO:s.Ok) (hc:c≠0) (H:MO P Z0 Sh St (fun g=>g=c) c s.r s.pre 257 (EY P s) Ph X) (h0:Z0 s.r) (hs:∀x,Z0 x->Z' x) (hW:∀l,Lj s.r s.pre l->Sh l/\¬St l) (hz:∀x,s.own x->Z' x) (hq:∀x,s.own x->x≠s.r->¬Z0 x):
  Gx P Z' Sh St (λB t=>PX Sh St (λg=>g=0) (λg=>g=c) B 0 t) c (ByX P s c Ph X k):=
 qF H (VR (hd _ _ _)) h0 hW hc hc hs λw i h e=>by
  have a:s.own s.q3:=by simp[JH.own]
  refine⟨by rw[e _ (hq _ a (hO.bq _ (.inr (.inr (.inr rfl)))).2.2.2) (hz _ a)];exact h.1,h.2.keep λx d=>?_⟩
  have b:s.own x:=by obtain e|e|e:=d<;>simp[JH.own,e]
  have f:x≠s.r:=by obtain e|e|e:=d<;>subst e<;>first|exact hO.br.2.2|exact hO.br.1|exact hO.br.2.1
  exact e x (hq x b f) (hz x b)
theorem bo0 {Z0:Nat->Prop} {Sh St:Loc->Prop} {Ph:Bool->Nat->m_->o_->Trace->Prop} {X:o_->Prop} {k:Nat} (H:MO P Z0 Sh St (λg=>g=c) c s.r s.pre 257 (EY P s) Ph X) (n:Nat) (b:m_) (w:o_) (t:Trace) (h:ByX P s c Ph X k n b w t) (d:Nat):s.KW (w.at d):=by
 obtain⟨f,e,a⟩:=WW H h.1;exact⟨⟨f,e,a⟩,h.2.2⟩
theorem π {k:Nat} (hd:∀r tm td,OQ P r tm td) (E:Env Z Ac s c):Gx P Z Ac s.Still (λB t=>PX Ac s.Still (λg=>g=0) (λg=>g=c) B 0 t) c (ByT P s c k):=
 nC (Z0:=λx=>x=s.r) hd E.ok E.c0 ao1 rfl (λx a=>E.Ku _ (by rw[a];simp[JH.own])) E.w E.Ku (λ_ _ h=>h)
theorem rW {gS:m_} (n:Nat) (b:m_) (w:o_) (t:Trace) (h:ByK P s c gS n b w t) (d:Nat):s.KW (w.at d):=(h.1.1:s.KS w).weak
theorem ap3 {gC:m_} (n:Nat) (b:m_) (w:o_) (t:Trace) (h:kT P s c gC n b w t) (d:Nat):s.KW (w.at d):=(h.1.1:s.KS w).weak
theorem qw (E:Env Z Ac s c) (x:n_):Gives P Z Ac s.Still (IG c) c 0 s.KW s.KS (JS c s.r s.pre) (Ou s.q0 s.q2) (eH s.q0 s.q3 x) 0 0 s.q0 x (a_ 0) (a_ 0) where
 leans:=NQ E.Ku
 weak:=λ_ h=>h.weak
 lasts:=Jy E.w E.ss
 meets:={
  hkh:=rfl
  hoh:=λm b a h=>by
   obtain⟨e,_⟩|⟨_,rfl⟩:=II h
   .exact(a e).elim
   .exact⟨_,_,rfl,E.ok.qq.2.2.1.symm,E.zq Yg⟩
  hkj:=rfl
  hoj:=λm b a h=>by
   obtain⟨e,_⟩|⟨_,rfl⟩:=II h
   .exact(a e).elim
   .simp[rcase,E.ok.qq.2.1.symm]
  hrj:=aq4 E }
 vG:=.inr rfl
 vF:=.inl rfl
 opens:=λw h m b a f=>by
  obtain⟨e,_⟩|⟨_,rfl⟩:=II f
  .exact(a e).elim
  .exact Md h.2.2 Yg
 keeps:=λ_ d k h=>h.chan E.ok au4 d k
theorem xG (E:Env Z Ac s c) (o:Int):Gives P Z Ac s.Still (IG c) c 0 s.KW s.KS (JS c s.r s.pre) (Ou s.q0 s.q2) (ZH s.q2 s.q3 o) 0 1 s.q2 (b_ o) (b_ 0) (b_ 0) where
 leans:=NQ E.Ku
 weak:=λ_ h=>h.weak
 lasts:=Jy E.w E.ss
 meets:={
  hkh:=rfl
  hoh:=λm b a h=>by
   obtain⟨e,_⟩|⟨_,rfl⟩:=II h
   .exact(a e).elim
   .exact⟨_,_,rfl,E.ok.qq.2.2.2.2.2.symm,E.zq Yg⟩
  hkj:=rfl
  hoj:=λm b a h=>by
   obtain⟨_,rfl⟩|⟨e,_⟩:=II h
   .simp[rcase,E.ok.qq.2.1]
   .exact(a e).elim
  hrj:=aq4 E }
 vG:=.inr rfl
 vF:=.inl rfl
 opens:=λw h m b a f=>by
  obtain⟨e,_⟩|⟨_,rfl⟩:=II f
  .exact(a e).elim
  .exact Md h.2.2 Yg
 keeps:=λ_ d k h=>h.chan E.ok ad2 d k
theorem Uh (E:Env Z Ac s c) (A:n_):Gives P Z Ac s.Still (IG c) 0 c s.KW s.KS (JS c s.r s.pre) (Gv s.q1 s.q3) (dH s.q1 A) 0 0 s.q1 A (.tuple #[]) lq where
 leans:=NQ E.Ku
 weak:=λ_ h=>h.weak
 lasts:=Jy E.w E.ss
 meets:={
  hkh:=rfl
  hoh:=λm b a h=>by
   match m,h with
   |0,_=>exact(a rfl).elim
   |m+1,h=>simp[dH]at h
  hkj:=rfl
  hoj:=λm b a h=>by
   obtain⟨e,_⟩|⟨_,rfl⟩:=II h
   .exact(a e).elim
   .simp[rcase,E.ok.qq.2.2.2.2.1.symm]
  hrj:=rD E }
 vG:=.inl rfl
 vF:=.inr rfl
 opens:=λw h m b a f=>by
  match m,f with
  |0,_=>exact(a rfl).elim
  |m+1,h=>simp[dH]at h
 keeps:=λ_ d k h=>h.chan E.ok zh d k
theorem Holds.last {Od:Old} {gs:Array m_} {w:o_} {sl:d_ (W_)} {t:Trace} {a gS:m_} {J:o_->Prop} {k:Nat} (o:Int) (E:Env Z Ac s c) (BB:a.status=.running) (Gz:∀w,stepG P (c==0) a w=.comm a (ZH s.q2 s.q3 o) true .select w #[])
  (hout:Kr P (DC s.r s.pre 257) false k (Conc.served a (commResult (ZH s.q2 s.q3 o) .select 0 undef false)) (EY P s).gR)
  (H:Holds Od P Z Ac s.Still (IG c) (λg=>g=0) c 0 (ByK P s c gS) (λg v=>g=a/\J v) gs w t):
  AO P gs w sl t λBg w' t'=>∃kq,Holds Od P Z Ac s.Still (λg=>g=0) (λg=>g=c) 0 c (ByT P s c kq) (λg v=>g=Conc.served gS (commResult (Ou s.q0 s.q2) .select 1 (b_ o) true)/\J v) Bg w' t':=by
 have M:=xG (P:=P) E o;obtain⟨q,n,B,g,v0,j,⟨rfl,l⟩,T,y,D⟩:=H;obtain⟨b,O,m⟩:=D.idle;have A:s.KS w:=m.1.1;refine(WS (Ak:=λg=>g=0) M.leans M.weak M.lasts M.meets M.vG M.vF rfl (es:=#[]) (n+sumTo gs.size q+1) n gs g w sl t q B (by omega) j BB D (M.opens w A) (λd=>Gz (w.at d)) (by simp)).bind λBg w' N t' L C=>?_
 obtain⟨K,x,d,h,m1,m2,m3,Q,R,rfl,G,I,z,u,_⟩:=C;have off:CB Z w ((w.at d).setChan s.q2 0 #[] false (h+1) (h+1) false):=Me (E.zq ad2) w d (h+1) false;have e:s.KS ((w.at d).setChan s.q2 0 #[] false (h+1) (h+1) false):=M.keeps w d (h+1) A;obtain⟨kq,p⟩:=e.2.2 s.q3 Yg;refine .now ⟨kq,K,_,B,_,v0,m2,⟨by rw[m3];rfl,l⟩,T.off y off,y,⟨D.ne.symm,.inl rfl,λg f=>.inl f,⟨_,m1,.inr ⟨⟨u,.inl ⟨k,rfl,hout,e.1,?_⟩⟩,trivial⟩,p,e.2.1⟩,λi g j l F=>G i g l j F,I,?_,?_⟩⟩
 .exact z.hears c (.inr rfl)
 .exact(z.fewer (Ky:=λg=>g=0) λg f=>.inl f).loosen (λg f=>(f.2 f.1).elim)
 .rw[Jh];exact D.size
end
structure ES (P:l_):Prop where
 FH:TS P
 child:∀(b5 b2 b3 r q0 q1 q2 q3:Nat) (sv:n_) (n:Int),Eg P b5 b2 b3 r q0 q1 q2 q3 sv n
 ans:∀(r q0 q1 q3:Nat) (sv:n_) (n:Int),TU P r q0 q1 q3 sv n
 done:∀(r:Nat) (tm:X_) (td:List Item),OQ P r tm td
 add:∀(r:Nat) (c:Frame) (Y:Z_),Xd P r c Y
 wait:∀(r:Nat) (c:Frame) (Y:Z_),QU P r c Y
 mixed:P.follows .mixedOrders=true
 blk:iY P
 back:∀(b5 b2 b3 r q0 q1 q3:Nat) (sa:f_) (n:Int),UU P b5 b2 b3 r q0 q1 q3 sa n
def gC (P:l_) (s:JH) (f:Y_) (i:Int) (x:n_):m_:=BL (m3 P s.q0 s.q1 s.q3 x (AY f (sl6 s.r s.sv s.n i 1 x)) (Un P s.b5 s.b2 s.b3 s.r s.sv s.n))
def Uz (P:l_) (s:JH) (f:Y_) (td:List Item) (told:n_) (c0:Frame) (cs:Z_):Frame×Z_:=sR P (vJ (AY f [(6,told)]) td::c0::cs) s.r
theorem UF {s:JH} (x:Nat):¬s.Still (.obj x):=by
 intro h;obtain e|e|e|e|e|e|e:=h<;>cases e
section
variable {P:l_} {Z:Nat->Prop} {Ac:Loc->Prop} {s:JH} {c:Nat} {gs:Array m_} {w:o_} {sl:d_ (W_)} {t:Trace} {J:o_->Prop} {f fc:Nat->n_} {i:Int} {x told:n_} {td:List Item} {c0:Frame} {cs:Z_}
theorem bh5 (A:ES P) (g₂:m_) (h:g₂=gC P s fc i x):GM P false s.KW s.Still (Gv s.q1 s.q3) .select (·=gC P s fc i x) 0 { parked g₂ (Gv s.q1 s.q3) .select with status:=.running }:=by
 subst h;refine⟨gC P s fc i x,#[],rfl,rfl,by simp,λw _=>?_⟩;exact IC ((A.child s.b5 s.b2 s.b3 s.r s.q0 s.q1 s.q2 s.q3 s.sv s.n).m16 fc _ i x) w
theorem Ϡ (A:ES P) (g₂:m_) (h:g₂=gC P s fc i x):Kr P (DC s.r s.pre 257) false 37 (Conc.served g₂ (commResult (Gv s.q1 s.q3) .select 1 (.agg #[]) false)) (EY P s).gR:=by
 subst h;exact ku (A.child s.b5 s.b2 s.b3 s.r s.q0 s.q1 s.q2 s.q3 s.sv s.n) fc i x
theorem aa0 (O:s.Ok):∀(m:Nat) cc,m≠1->(Gv s.q1 s.q3)[m]?=some cc->cc.chan≠.chan (some s.q3):=λm cc a h=>by
 obtain⟨_,rfl⟩|⟨e,_⟩:=II h
 .simp[rcase,O.qq.2.2.2.2.1]
 .exact(a e).elim
def eU (P:l_) (Z:Nat->Prop) (Ac:Loc->Prop) (X:o_->Prop) (c0:Frame) (cs:Z_) (told:n_) (w:o_) (Bg:Array m_) (w':o_) (t':Trace):Prop:=
 ∃q' B',Bg[0]?=some (G (c0.finish told) cs)/\CB Z w w'/\Leavers P t' Bg q'/\Past Ac B' t'/\w'.heap.size<=B'/\X w'
theorem eU.off {Z:Nat->Prop} {Ac:Loc->Prop} {X:o_->Prop} {w1:o_} {Bg:Array m_} {w':o_} {t':Trace} (ho:CB Z w w1) (h:eU P Z Ac X c0 cs told w1 Bg w' t'):eU P Z Ac X c0 cs told w Bg w' t':=by
 obtain⟨e,a,b,c,d⟩:=h;exact⟨e,a,b,ho.trans c,d⟩
theorem Rk {Sh St:Loc->Prop} {Ph:Bool->Nat->m_->o_->Trace->Prop} {X:o_->Prop} (A:ES P) (HP:MO P Z Sh St (fun g=>g=c) c s.r s.pre 257 (EY P s) Ph X) (hS0:∀l,Sh l->¬St l->Ac l) (hr:Z s.r) (hW:∀l,Lj s.r s.pre l->Sh l/\¬St l) (hc:c≠0) (hX:∀w d,X w->X (w.at d))
  {n B:Nat} {q:Nat->Nat} (h0:gs[0]?=some (BL (sD P (vJ (AY f [(6,told)]) td::c0::cs) s.r s.q3)))
  (D:Duo P Sh St (λg=>g=0) (λg=>g=c) B 0 c (CE P c s.r s.pre 257 (EY P s) Ph X false) n gs w t q):
  AO P gs w sl t (eU P Z Ac X c0 cs told w):=by
 have i:Gx P Z Sh St (λB t=>PX Sh St (λg=>g=0) (λg=>g=c) B 0 t) c (CE P c s.r s.pre 257 (EY P s) Ph X false):=OI HP (VR (A.done _ _ _)) hr hW hc hc;refine(G9 (J:=λ_=>True) (λ_ _ _ _ _ _=>trivial) i 6 (DI (A.FH.sDa _ _ _)) h0 D).bind λo w1 I N _ ⟨q1,L,H,a,E,_,e⟩=>?_
 rw[A.FH.sDb]at a;refine(join HP hS0 (VR (A.done _ _ _)) (ad6 (A.wait _ _ _)) hr hW hc a e).bind λp w2 G O _ ⟨M,b,v,F,_,h,j,k,m⟩=>?_
 refine(JY O7 _ (IM (K:=λ_=>True) (A.FH.end_ _ _ _ _ _ _ _)) (λ_=>trivial) v h j).mono λu w3 Q ⟨q3,d,x,y,z,C⟩=>?_
 subst y;exact⟨q3,b,x,(E.trans F).trans (CB.at w2 d),z,C,k,hX w2 d m⟩
theorem jW {Od:Old} (A:ES P) (E:Env Z Ac s c) (H:Holds Od P Z Ac s.Still (IG c) (fun g=>g=c) 0 c (kT P s c (gC P s fc i x)) (fun g v=>g=BL (Uz P s f td told c0 cs)/\J v) gs w t):
  AO P gs w sl t λBg w' t'=>∃v B,J v/\Bg[0]?=some (G (c0.finish told) cs)/\Beside Od P Ac Z B v Bg w' t':=by
 refine(H.walk (sl:=sl) ap3 (λw a h C=>Jg h C) E.ss (Wv E) (RW.at (A.FH.sRa _ _ s.q3) (λw h=>let ⟨_,_,b⟩:=h.1;(JZ b).2.2.2) (Oe (s:=s)).t3)).bind λp w1 S X _ m=>?_
 obtain⟨q1,U,Q,g,v,u,⟨rfl,y⟩,T,e,D⟩:=m;have b:Z s.r:=E.Ku _ (by simp[JH.own]);refine(qG (Ak:=λg=>g=c) (home:=(·=gC P s fc i x)) (o:=EY P s) (kR:=37) (zq:=.agg #[]) (NQ E.Ku) (λ_ h=>h.weak) (Jy E.w E.ss) E.c0 UF (ac2 (rD E)) rfl (λ_ h=>h) (λ_ h=>h.1) (λ_ k h=>h.shut E.ok k) (E.ok.bq _ Yg).2.2.2.symm rfl (aa0 E.ok) (bh5 A) (A.FH.sCw _ _ _) rfl rfl (λw1 k _ z d=>XJ (A.FH.sCa _ _ _) z) u D).bind λq w2 O Y _ ⟨W,V,R,k1,k2,_,l⟩=>?_
 refine(Rk (Ac:=Ac) A (ae7 (ai6 E.Ku) (ac2 (rD E)) b E.w E.c0 rfl (Ϡ A) λw n d h=>h.set E.ok n d) (λ_ h _=>h) b E.w E.c0 (λ_ _ h=>h) k1 l).mono λBg w' t' ⟨N,j,F,I,K,L,M,_⟩=>?_
 exact⟨v,j,y,F,N,(T.off e k2).off e I,e,K,L,M⟩
theorem XH {Z0:Nat->Prop} {Sh St:Loc->Prop} {Ph:Bool->Nat->m_->o_->Trace->Prop} {X:o_->Prop} {kq:Nat} (A:ES P) (hO:s.Ok) (hc:c≠0) (H:MO P Z0 Sh St (fun g=>g=c) c s.r s.pre 257 (EY P s) Ph X) (hr0:Z0 s.r) (hs:∀x,Z0 x->Z x) (hW:∀l,Lj s.r s.pre l->Sh l/\¬St l) (hz:∀x,s.own x->Z x) (hq:∀x,s.own x->x≠s.r->¬Z0 x)
  (hSS:∀l,s.Still l->¬Sh l) (hSo:∀x,¬St (.obj x)) (hS0:∀l,Sh l->¬St l->Ac l) (hX:∀w d,X w->X (w.at d)) {n B:Nat} {q:Nat->Nat} (h0:gs[0]?=some (BL (Uz P s f td told c0 cs))) (D:Duo P Sh St (λg=>g=0) (λg=>g=c) B 0 c (ByX P s c Ph X kq) n gs w t q):
  AO P gs w sl t (eU P Z Ac X c0 cs told w):=by
 have e:=nC (k:=kq) A.done hO hc H hr0 hs hW hz hq;refine(l7 (S0:=s.Still) (bo0 H) (λw a h hs=>Jg h hs) hSS e 1 (RW.at (A.FH.sRa _ _ s.q3) (λw h=>let ⟨_,_,hr⟩:=h.1;(JZ hr).2.2.2) (Oe (s:=s)).t3) h0 D).bind λm w1 E K _ ⟨q1,F,y,p,u,_,i⟩=>?_
 have b:s.own s.q3:=by simp[JH.own]
 refine(xU (Z:=Z) (X2:=λw=>w.heap[s.q3]?=some (.chan 0 #[] false kq kq false)/\s.cells w) H (VR (A.done _ _ _)) hr0 hW hc hSo (hz _ b) (hq _ b (hO.bq _ Yg).2.2.2) rfl (λ_ h=>h.1) (λw1 hq d=>XJ (A.FH.sCa _ _ _) hq) p e i).bind λo w2 v L _ ⟨I,G,z,k1,k2,_,j⟩=>?_
 exact(Rk (Ac:=Ac) A (H.sub hs) hS0 (hs _ hr0) hW hc hX k1 j).mono λC M J h=>(h.off k2).off u
theorem Vp {Od:Old} (A:ES P) (E:Env Z Ac s c) {kq:Nat} (H:Holds Od P Z Ac s.Still (fun g=>g=0) (fun g=>g=c) 0 c (ByT P s c kq) (fun g v=>g=BL (Uz P s f td told c0 cs)/\J v) gs w t):
  AO P gs w sl t λBg w' t'=>∃v B,J v/\Bg[0]?=some (G (c0.finish told) cs)/\Beside Od P Ac Z B v Bg w' t':=by
 obtain⟨q1,q,p,g,v,d,⟨rfl,e⟩,T,a,D⟩:=H;refine(XH (Z0:=λx=>x=s.r) (Ac:=Ac) A E.ok E.c0 ao1 rfl (λx i=>E.Ku _ (by rw[i];simp[JH.own])) E.w E.Ku (λ_ _ h=>h) E.ss UF (λ_ h _=>h) (λ_ _ h=>h) d D).mono λBg w' t' ⟨o,b,j,k,l,m,n,_⟩=>?_
 exact⟨v,b,e,j,o,T.off a k,a,l,m,n⟩
end
end Go.Fxa
