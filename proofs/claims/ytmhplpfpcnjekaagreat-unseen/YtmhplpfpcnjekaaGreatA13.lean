/- Where a process goes on: the b -/
import Derived.Test.YtmhplpfpcnjekaaGreatA12
open Go.Proofs.Tryz
namespace Go.Fxa
open Go.Conc
open Go.ConcN (sumTo upd sumTo_upd upd_ne upd_same)
variable {a:f_} {v:n_} {q k:Nat} {P:l_} {K:o_->Prop} {main:Bool} {x:Frame×Z_} {Od:Old}
structure JY where
 b2:Nat
 b3:Nat
 b5:Nat
 r:Nat
 q0:Nat
 q1:Nat
 q2:Nat
 q3:Nat
 sv:n_
 n:Int
namespace JY
variable (s:JY)
def own (x:Nat):Prop:=x=s.b2\/x=s.b3\/x=s.b5\/x=s.r\/x=s.q0\/x=s.q1\/x=s.q2\/x=s.q3
def pre:X_:=#[DV s.q0,DV s.q1,DV s.q2,DV s.q3]
def Still (l:Loc):Prop:=l=.cell (R_ s.b5)\/l=.cell (R_ s.b2)\/l=.cell (R_ s.b3)\/l=.cell (R_ s.r)\/l=.cell (S_ s.r 1)\/l=.cell (S_ s.r 2)\/l=.cell (S_ s.r 3)
def cells (w:o_):Prop:=w.cell? (R_ s.b5)=some (pr s.r)/\w.cell? (R_ s.b2)=some s.sv/\w.cell? (R_ s.b3)=some (b_ s.n)
def KW (w:o_):Prop:=Dz s.r s.pre 257 w/\s.cells w
def ϫ (q:Nat):Prop:=q=s.q0\/q=s.q1\/q=s.q2\/q=s.q3
def Open (w:o_):Prop:=∀q,s.ϫ q->∃k,w.heap[q]?=some (.chan 0 #[] false k k false)
def KS (w:o_):Prop:=BA s.r s.pre 257 w KK 0/\s.cells w/\s.Open w
structure Ok:Prop where
 bq:∀q,s.ϫ q->q≠s.b2/\q≠s.b3/\q≠s.b5/\q≠s.r
 br:s.b2≠s.r/\s.b3≠s.r/\s.b5≠s.r
 qq:s.q0≠s.q1/\s.q0≠s.q2/\s.q0≠s.q3/\s.q1≠s.q2/\s.q1≠s.q3/\s.q2≠s.q3
end JY
section
variable {s:JY} {Z:Nat->Prop} {w w':o_}
theorem Ib (h:w.cell? a=some v) (e:w'.heap[a.block]?=w.heap[a.block]?):w'.cell? a=some v:=by
 unfold World.cell? at*;rw[e];exact h
theorem JY.KS.Px (h:s.KS w):s.KW w:=⟨⟨_,_,h.1⟩,h.2.1⟩
theorem JY.cells.keep (h:s.cells w) (e:∀x,(x=s.b5\/x=s.b2\/x=s.b3)->w'.heap[x]?=w.heap[x]?):s.cells w':=
 ⟨Ib h.1 (e _ (.inl rfl)),Ib h.2.1 (e _ (.inr (.inl rfl))),Ib h.2.2 (e _ (.inr (.inr rfl)))⟩
theorem Ky {a sm:Int} (h:BA s.r s.pre 257 w a sm):w.cell? (R_ s.r)=some (DV s.q0)/\w.cell? (S_ s.r 1)=some (DV s.q1)/\w.cell? (S_ s.r 2)=some (DV s.q2)/\w.cell? (S_ s.r 3)=some (DV s.q3):=by
 unfold BA at h;refine⟨?_,?_,?_,?_⟩<;>simp[World.cell?,h,JY.pre]
theorem Me (h:w.cell? a=some v):a.block<w.heap.size:=by
 unfold World.cell? at h;cases e:w.heap[a.block]? with
 |none=>rw[e]at h;simp at h
 |some o=>exact(y_.1 e).1
theorem Ju (h:s.KW w) (l:s.Still (.cell a)):a.block<w.heap.size:=by
 obtain⟨⟨k,j,i⟩,g,d,f⟩:=h;obtain⟨b,c,c2,c3⟩:=Ky i;obtain e|e|e|e|e|e|e:=l<;>(injection e with e;subst e;first|exact Me g|exact Me d|exact Me f|exact Me b|exact Me c|exact Me c2|exact Me c3)
theorem Oi (i:∀x,s.own x->Z x):Sl Z s.Still s.KS where
 keep:=λw g b h=>⟨h.1.keep (i _ (by simp[JY.own])) b,h.2.1.keep λx f=>b x (i _ (by obtain e|e|e:=f<;>simp[JY.own,e])),λq c=>by
  obtain⟨k,e⟩:=h.2.2 q c
  exact⟨k,by rw[b q (i _ (by obtain e|e|e|e:=c<;>simp[JY.own,e]))];exact e⟩⟩
 still:=λw a h d=>Ju h.Px d
theorem bc4 (l:∀x,s.own x->Z x):Sl Z s.Still s.KW where
 keep:=λw k b h=>by
  obtain⟨⟨j,i,d⟩,c⟩:=h
  exact⟨⟨j,i,d.keep (l _ (by simp[JY.own])) b⟩,c.keep λx g=>b x (l _ (by obtain e|e|e:=g<;>simp[JY.own,e]))⟩
 still:=λw a h f=>Ju h f
theorem OG:Tf s.KW s.Still s.b5 s.b2 s.b3 s.r s.q0 s.q1 s.q2 s.q3 s.sv s.n where
 c5:=λ_ h=>h.2.1
 s5:=.inl rfl
 c2:=λ_ h=>h.2.2.1
 s2:=.inr (.inl rfl)
 c3:=λ_ h=>h.2.2.2
 s3:=.inr (.inr (.inl rfl))
 r0:=λ_ h=>let ⟨_,_,hr⟩:=h.1;(Ky hr).1
 t0:=.inr (.inr (.inr (.inl rfl)))
 r1:=λ_ h=>let ⟨_,_,hr⟩:=h.1;(Ky hr).2.1
 t1:=.inr (.inr (.inr (.inr (.inl rfl))))
 r2:=λ_ h=>let ⟨_,_,hr⟩:=h.1;(Ky hr).2.2.1
 t2:=.inr (.inr (.inr (.inr (.inr (.inl rfl)))))
 r3:=λ_ h=>let ⟨_,_,hr⟩:=h.1;(Ky hr).2.2.2
 t3:=.inr (.inr (.inr (.inr (.inr (.inr rfl)))))
theorem JQ {x d cap k':Nat} {a:X_} {b c:Bool} (h:q≠x):((w.at d).setChan q cap a b k k' c).heap[x]?=w.heap[x]?:=by
 simp[World.setChan,World.at,z_ h]
theorem JY.KS.chan (O:s.Ok) (l:s.ϫ q) (h:s.KS w) (d k:Nat):s.KS ((w.at d).setChan q 0 #[] false k k false):=by
 obtain⟨e2,e3,g,i⟩:=O.bq q l;refine⟨?_,h.2.1.keep λx j=>?_,λf b=>?_⟩
 .unfold BA;rw[JQ i];exact h.1
 .obtain e|e|e:=j<;>subst e
  .exact JQ g
  .exact JQ e2
  .exact JQ e3
 .by_cases e:q=f
  .subst e;obtain⟨c,a⟩:=h.2.2 q l;have:=(y_.1 a).1;exact⟨k,by simp[World.setChan,World.at,this]⟩
  .obtain⟨c,a⟩:=h.2.2 f b;exact⟨c,by rw[JQ e];exact a⟩
theorem JY.KW.shut (O:s.Ok) (h:s.KW w) (k:Nat):s.KW (w.setChan s.q3 0 #[] true k k false):=by
 obtain⟨e2,e3,c,d⟩:=O.bq s.q3 (.inr (.inr (.inr rfl)));have a:∀x,s.q3≠x->(w.setChan s.q3 0 #[] true k k false).heap[x]?=w.heap[x]?:=λx b=>by simp[World.setChan,z_ b]
 obtain⟨⟨j,i,g⟩,f⟩:=h;refine⟨⟨j,i,by unfold BA;rw[a _ d];exact g⟩,f.keep λx b=>?_⟩;obtain e|e|e:=b<;>subst e
 .exact a _ c
 .exact a _ e2
 .exact a _ e3
theorem JY.KW.set (O:s.Ok) (h:s.KW w) (m:Int) (d:Nat):s.KW ((w.at d).setCell (stA s.r s.pre) (.int .u64 m)):=by
 obtain⟨⟨i,a,f⟩,c⟩:=h;have b:BA s.r s.pre 257 (w.at d) i a:=f;refine⟨⟨m,a,b.setSt m⟩,c.keep λx g=>?_⟩;have:s.r≠x:=by obtain e|e|e:=g<;>subst e<;>first|exact O.br.2.2.symm|exact O.br.1.symm|exact O.br.2.1.symm
 simp[World.setCell,World.at,stA,jJ,this]
theorem VB {l:Loc} (h:LM s.r s.pre l):¬s.Still l:=by
 have a:s.pre.size=4:=rfl;intro b;obtain e|e:=h<;>subst e<;>obtain e|e|e|e|e|e|e:=b<;>simp[stA,smA,a]at e
theorem JU {Ad:Loc->Prop} {c j:Nat} (i:∀l,LM s.r s.pre l->Ad l/\¬s.Still l) (g:∀l,s.Still l->¬Ad l):aP Ad s.Still j (Kq c s.r s.pre) where
 ss:=g
 calm:=λ_ _ h f=>h.app λop a b d e=>((f op a).2.1 b d).2 (i _ e).1
 reads:=λ_ _ h f=>h.app λop a b d e=>((i _ e).2 (f op a b d).2).elim
theorem Je (c:∀x,s.own x->Z x):Gp s.Still Z:=by
 refine⟨λa b=>?_,λr b=>?_⟩
 .obtain e|e|e|e|e|e|e:=b<;>(injection e with e;subst e;apply c;simp[JY.own])
 .obtain e|e|e|e|e|e|e:=b<;>cases e
end
/-! ### silent steps, reckoned -/
theorem I9 {s:d_ (j_×Nat)}:∀{n:Nat} {x y:Frame×Z_},DY P s n x=some ([],y)->KR P K main n (BJ x) (BJ y):=by
 intro n
 induction n with
 |zero=>
  intro x y h
  simp only[DY,qx,lJ,true_and]at h
  subst h;exact rfl
 |succ n c=>
  intro x y h
  simp only[DY]at h
  split at h
  .rename_i d z b;split at h
   .rename_i e f a;simp only[qx,lJ,List.append_eq_nil_iff]at h;obtain⟨⟨rfl,rfl⟩,rfl⟩:=h;exact⟨rfl,_,λw _=>Ru b zF,c a⟩
   .cases h
  .cases h
theorem DK {n:Nat} (h:AU P n x=some []):KR P K main n (BJ x) (BJ (run P n x)):=by
 unfold Fxa.AU at h;obtain⟨⟨l,y⟩,a,rfl⟩:=jb.1 h;have e:run P n x=y:=by unfold run;rw[a]
 rw[e];exact I9 a
/-! ### beside leavers -/
def Nw (P:l_) (gs:Array m_) (w:o_) (sl:d_ (W_)) (t:Trace) (Q:Array m_->o_->Trace->Prop):Prop:=
 ∃N Bh w' Eh t',runNT P N (crowd gs w sl) t=(.next (crowd Bh w' Eh),t')/\Q Bh w' t'
section
variable {P:l_} {gs:Array m_} {w:o_} {sl:d_ (W_)} {t:Trace} {Q Q':Array m_->o_->Trace->Prop}
theorem AQ.leads (h:AQ P gs w sl t Q):Nw P gs w sl t Q:=by
 obtain⟨N,a,w1,b,e,d,_,c⟩:=h;exact⟨N,a,w1,b,e,d,c⟩
theorem Nw.now (a:Q gs w t):Nw P gs w sl t Q:=⟨0,gs,w,sl,t,rfl,a⟩
theorem Nw.bind (p:Nw P gs w sl t Q) (o:∀l w' n m,Q l w' m->Nw P l w' n m Q'):Nw P gs w sl t Q':=by
 obtain⟨N,a,w1,e,j,i,g⟩:=p;obtain⟨f,b,w2,d,k,c,h⟩:=o a w1 e j g;exact⟨N+f,b,w2,d,k,by rw[runNT_add,i];exact c,h⟩
theorem AQ.then (q:AQ P gs w sl t Q) (p:∀m w' o n,m.size=gs.size->Q m w' n->Nw P m w' o n Q'):Nw P gs w sl t Q':=by
 obtain⟨N,a,w1,e,k,i,j,g⟩:=q;obtain⟨f,b,w2,d,l,c,h⟩:=p a w1 e k j g;exact⟨N+f,b,w2,d,l,by rw[runNT_add,i];exact c,h⟩
theorem Nw.mono (i:Nw P gs w sl t Q) (h:∀f w' g,Q f w' g->Q' f w' g):Nw P gs w sl t Q':=by
 obtain⟨N,a,w1,b,e,d,c⟩:=i;exact⟨N,a,w1,b,e,d,h _ _ _ c⟩
variable {Ad:Loc->Prop} {Z:Nat->Prop} {B:Nat} {v:o_}
theorem PO:Tj (Past Ad B):=λ_ _ _ _ _ b a h=>h.mute b a
theorem cu.TJ {a n:m_} (p:cu Od P Ad Z B v gs w t) (r:gs[0]?=some a) (s:KR P (λ_=>True) true k a n):AQ P gs w sl t λm w' o=>m[0]?=some n/\cu Od P Ad Z B v m w' o/\w'.heap=w.heap:=by
 obtain⟨q,T,f,c,e,b⟩:=p;refine(Kw PO k s (λ_=>trivial) r c e).mono λm w' o ⟨l,d,g,h,i,j⟩=>?_
 subst h;exact⟨g,⟨l,T.SV v.tape w.tape v.drawn d,f,i,j,b⟩,rfl⟩
theorem cu.read {ad:f_} {y u:n_} (K:cu Od P Ad Z B v gs w t) (L:gs[0]?=some (BJ x)) (M:DX P x u=some ([ad],y)) (J:w.cell? ad=some u) (N:¬Ad (.cell ad)):
  AQ P gs w sl t λI w' O=>I[0]?=some (BJ (BG x y))/\cu Od P Ad Z B v I w' O/\w'.heap=w.heap:=by
 obtain⟨q,T,z,r,s,p⟩:=K;have D:RW P true (λw=>w.cell? ad=some u) (λl=>l=.cell ad) 1 (BJ x) (BJ (BG x y)):=RW.at M (λ_ h=>h) rfl;obtain⟨_,n,G,k,j,e⟩:=D;have m:n=BJ (BG x y):=e;subst m;refine go_mute PO L rfl r s λd H f=>⟨_,_,_,j (w.at d) J,λI E _ o c F=>.now ⟨o,⟨E,T.SV v.tape w.tape v.drawn d,z,c,f.own λe C=>?_,p⟩,rfl⟩⟩
 obtain⟨a,rfl,g⟩:=k e C;injection g with g;subst g;refine⟨λb A i=>?_,zF,zF,?_⟩
 .obtain rfl:=x_ A;exact(N i).elim
 .have:=Me J;show a.block<B;omega
end
end Go.Fxa
namespace Go.Fxa
open Go.Conc Go.Proofs
def ZC (P:l_) {α:Type}:Sem α->d_ (List (f_×n_)×α)
 |.pure a=>some ([],a)
 |.program k=>ZC P (k P)
 |.store .plain a (.int t v) k=>(ZC P k).map λx=>((a,.int t v)::x.1,x.2)
 |.store .plain a (.func f x y) k=>(ZC P k).map λz=>((a,.func f x y)::z.1,z.2)
 |_=>none
def sZ (w:o_):List (f_×n_)->Prop
 |[]=>True
 |x::l=>(∃u,w.cell? x.1=some u)/\w.frozen? x.1=false/\sZ (w.setCell x.1 x.2) l
def Jl (w:o_) (l:List (f_×n_)):o_:=l.foldl (λw x=>w.setCell x.1 x.2) w
def Iz (l:List (f_×n_)):Array Event:=(l.map λx=>(⟨.cell x.1,true,false⟩:Event)).toArray
section
variable {P:l_}
theorem κ {α:Type} {e:Sem α} {a:α}:∀{l:List (f_×n_)} {w:o_},ZC P e=some (l,a)->sZ w l->∀es,e.runT P w es=(.ok a (Jl w l),es++Iz l):=by
 induction e with
 |pure b=>
  intro l w h _ es
  simp only[ZC,qx,lJ]at h
  obtain⟨rfl,rfl⟩:=h
  simp[Sem.runT,Jl,Iz]
 |program k p=>intro l w h i es;exact p P h i es
 |store m g v k p=>
  intro l w h i es
  have key:∀q,l=(g,v)::q->m=.plain->ZC P k=some (q,a)->(∀u:o_,(∃x,u.cell? g=some x)->u.frozen? g=false->(Sem.store m g v k).runT P u es=k.runT P (u.setCell g v) (es.push ⟨.cell g,true,false⟩))->(Sem.store m g v k).runT P w es=(.ok a (Jl w l),es++Iz l):=by
   rintro q rfl rfl C r
   obtain⟨s,A,B⟩:=i
   rw[r w s A,p C B]
   simp[Jl,Iz]
  cases m with
  |atomic=>cases v<;>simp[ZC]at h
  |plain=>
   cases v with
   |int t x=>
    obtain⟨y,n,e⟩:=jb.1 h
    simp only[lJ]at e
    obtain⟨e1,e2⟩:=e
    refine key y.1 e1.symm rfl (by rw[n,<-e2]) λu ⟨z,o⟩ j=>?_
    simp only[Sem.runT,o,j,jH,if_false]
    rfl
   |func f c d=>
    obtain⟨y,n,e⟩:=jb.1 h
    simp only[lJ]at e
    obtain⟨e1,e2⟩:=e
    refine key y.1 e1.symm rfl (by rw[n,<-e2]) λu ⟨z,o⟩ j=>?_
    simp only[Sem.runT,o,j,jH,if_false]
    rfl
   |_=>simp[ZC]at h
 |_=>intro l w h;simp[ZC]at h
def Uy (P:l_) (x:Frame×Z_):d_ (List (f_×n_)):=match WJ x with
 |some o=>match ZC P (execOp x.1.eval o)with
  |some (l,.skip)=>if(P.funcs[x.1.fn]?).any (·.norace)then none else some l
  |_=>none
 |none=>none
theorem We {main:Bool} {x:Frame×Z_} {l:List (f_×n_)} {w:o_} (h:Uy P x=some l) (n:sZ w l):stepG P main (BJ x) w=.go (BJ (BG x undef)) (Jl w l) (Iz l):=by
 unfold Uy at h;split at h
 .rename_i o j;split at h
  .rename_i c i;split at h
   .cases h
   .rename_i k;obtain rfl:=x_ h;obtain⟨d,g⟩:=QD (P:=P) (main:=main) (w:=w) j;show stepG P main (G x.1 x.2) w=_;rw[d];have m:seen P x.1.fn (#[]++Iz c)=Iz c:=by
     rw[Array.empty_append]
     exact seen_eq (by simpa using k) (λe b f=>by
      simp only[Iz,gI,List.mem_map]at b
      obtain⟨a,_,rfl⟩:=b
      simp)
    simp only[stepG.apply,κ i n #[],if_true,GStep.after,jC,g,jH,if_false,m]
    rfl
  .cases h
 .cases h
end
def ab5:Obj:=.cells #[a_ 0,a_ 0,.nilFunc] 206 (0,0)
def Pz (x0 y0:Int) (fn:Fn) (ca cb:X_):n_:=.agg #[a_ x0,a_ y0,.func fn ca cb]
section
variable (P:l_) (q0 q1 q3:Nat) (x:n_) (x0 y0:Int) (fn:Fn) (ca cb:X_) (f:Y_) (Y:Z_) (k:Nat) (p:Int)
def zz0:=run P 9 (a0 P q0 q1 q3 x (Pz x0 y0 fn ca cb) f Y)
def zz1:=BG (zz0 P q0 q1 q3 x x0 y0 fn ca cb f Y) (pr k)
def zz2:=run P 5 (BG (zz1 P q0 q1 q3 x x0 y0 fn ca cb f Y k) undef)
def zz3:=run P 11 (BG (zz2 P q0 q1 q3 x x0 y0 fn ca cb f Y k) (.func fn ca cb))
def zz4:=run P 3 (BG (zz3 P q0 q1 q3 x x0 y0 fn ca cb f Y k) (a_ p))
end
structure VL (P:l_) (b5 b2 b3 r q0 q1 q3:Nat) (sa:f_) (n:Int):Prop where
 c1:∀(f:Y_) (Y:Z_) (i:Int) (x:n_) (x0 y0:Int) (fn:Fn) (ca cb:X_),AU P 9 (a0 P q0 q1 q3 x (Pz x0 y0 fn ca cb) (A8 f (Fa r (.pointer (some sa)) n i 1 x)) Y)=some []
 c2:∀(f:Y_) (Y:Z_) (i:Int) (x:n_) (x0 y0:Int) (fn:Fn) (ca cb:X_) (w:o_),stepG P false (BJ (zz0 P q0 q1 q3 x x0 y0 fn ca cb (A8 f (Fa r (.pointer (some sa)) n i 1 x)) Y)) w=.go (BJ (zz1 P q0 q1 q3 x x0 y0 fn ca cb (A8 f (Fa r (.pointer (some sa)) n i 1 x)) Y w.heap.size)) { w with heap:=w.heap.push ab5 } #[]
 c3:∀(f:Y_) (Y:Z_) (i:Int) (x:n_) (x0 y0:Int) (fn:Fn) (ca cb:X_) (k:Nat),Uy P (zz1 P q0 q1 q3 x x0 y0 fn ca cb (A8 f (Fa r (.pointer (some sa)) n i 1 x)) Y k)=some [((R_ k),a_ x0),((S_ k 1),a_ y0),((S_ k 2),.func fn ca cb)]
 c4:∀(f:Y_) (Y:Z_) (i:Int) (x:n_) (x0 y0:Int) (fn:Fn) (ca cb:X_) (k:Nat),AU P 5 (BG (zz1 P q0 q1 q3 x x0 y0 fn ca cb (A8 f (Fa r (.pointer (some sa)) n i 1 x)) Y k) undef)=some []
 c5:∀(f:Y_) (Y:Z_) (i:Int) (x:n_) (x0 y0:Int) (fn:Fn) (ca cb:X_) (k:Nat),DX P (zz2 P q0 q1 q3 x x0 y0 fn ca cb (A8 f (Fa r (.pointer (some sa)) n i 1 x)) Y k) (.func fn ca cb)=some ([(S_ k 2)],.func fn ca cb)
 c6:∀(f:Y_) (Y:Z_) (i:Int) (x:n_) (x0 y0:Int) (fn:Fn) (ca cb:X_) (k:Nat),AU P 11 (BG (zz2 P q0 q1 q3 x x0 y0 fn ca cb (A8 f (Fa r (.pointer (some sa)) n i 1 x)) Y k) (.func fn ca cb))=some []
 c7:∀(f:Y_) (Y:Z_) (i:Int) (x:n_) (x0 y0:Int) (fn:Fn) (ca cb:X_) (k:Nat) (p:Int),DX P (zz3 P q0 q1 q3 x x0 y0 fn ca cb (A8 f (Fa r (.pointer (some sa)) n i 1 x)) Y k) (a_ p)=some ([sa.add 2],a_ p)
 c8:∀(f:Y_) (Y:Z_) (i:Int) (x:n_) (x0 y0:Int) (fn:Fn) (ca cb:X_) (k:Nat) (p:Int),AU P 3 (BG (zz3 P q0 q1 q3 x x0 y0 fn ca cb (A8 f (Fa r (.pointer (some sa)) n i 1 x)) Y k) (a_ p))=some []
 c9:∀(f:Y_) (Y:Z_) (i:Int) (x:n_) (x0 y0:Int) (fn:Fn) (ca cb:X_) (k:Nat) (p:Int),Uy P (zz4 P q0 q1 q3 x x0 y0 fn ca cb (A8 f (Fa r (.pointer (some sa)) n i 1 x)) Y k p)=some [(sa.add 2,a_ (IntKind.u16.wrap (p-2)))]
 ca:∀(f:Y_) (i:Int) (x:n_) (x0 y0:Int) (fn:Fn) (ca cb:X_) (k:Nat) (p:Int),DY P (some (257,6)) 34 (BG (zz4 P q0 q1 q3 x x0 y0 fn ca cb (A8 f (Fa r (.pointer (some sa)) n i 1 x)) (U9 P b5 b2 b3 r (.pointer (some sa)) n) k p) undef)=some ([r,r],dR P r (SS P b5 b2 b3 r (.pointer (some sa)) n))
theorem wY {a b2 b3 r b q1 c:Nat} {sa:f_} {n:Int}:VL prog a b2 b3 r b q1 c sa n:=by
 constructor<;>intros<;>kernel_rfl
section
variable {P:l_} {b5 b2 b3 r q0 q1 q3:Nat} {sa:f_} {n:Int} {Zl:Nat->Prop} {S0:Nat} {cs:X_} {TK:j_} {p:Int} {pa pb pc pd:n_}
def Vk (cs:X_) (TK:j_) (sa:f_) (p:Int):Obj:=.cells (cs.setIfInBounds (sa.off+2) (a_ (IntKind.u16.wrap (p-2)))) TK (0,0)
def Jk (cs:X_) (TK:j_) (sa:f_) (p:Int) (w:o_):Prop:=w.heap[sa.block]?=some (Vk cs TK sa p)
theorem WA (a:Zl sa.block) (w w1:o_) (b:AgL Zl w w1) (h:Jk cs TK sa p w):Jk cs TK sa p w1:=by
 unfold Jk;rw[b _ a];exact h
theorem wO (F:VL P b5 b2 b3 r q0 q1 q3 sa n) (U:Zl sa.block) (V:∀x,S0<=x->Zl x) (Y:sa.block<S0) (X:cs[sa.off+2]?=some (a_ p)) (f:Y_) (i:Int) (x:n_) (x0 S:Int) (fn:Fn) (ca cb:X_) {w:o_} (T:w.heap[sa.block]?=some (N_ cs TK)) (W:S0<w.heap.size):
  Ik P r #[pa,pb,pc,pd] 257 Zl (BJ (dR P r (SS P b5 b2 b3 r (.pointer (some sa)) n))) (Jk cs TK sa p) 67 (Conc.served (BJ (m3 P q0 q1 q3 x (A8 f (Fa r (.pointer (some sa)) n i 1 x)) (U9 P b5 b2 b3 r (.pointer (some sa)) n))) (commResult (GM q1 q3) .select 0 (Pz x0 S fn ca cb) true)) w:=by
 have v:=WA (Zl:=Zl) (cs:=cs) (TK:=TK) (p:=p) (sa:=sa) U;have g:∀{w1:o_},w1.heap[sa.block]?=some (N_ cs TK)->w1.cell? (sa.add 2)=some (a_ p)/\w1.frozen? (sa.add 2)=false:=fun {w1} h=>by
  constructor
  .simp[World.cell?,Addr.add,h,X]
  .simp[World.frozen?,Addr.add,h]
 have O:∀(k:Nat) (w:o_),Jk cs TK sa p w->Ik P r #[pa,pb,pc,pd] 257 Zl (BJ (dR P r (SS P b5 b2 b3 r (.pointer (some sa)) n))) (Jk cs TK sa p) (34+0) (BJ (BG (zz4 P q0 q1 q3 x x0 S fn ca cb (A8 f (Fa r (.pointer (some sa)) n i 1 x)) (U9 P b5 b2 b3 r (.pointer (some sa)) n) k p) undef)) w:=
  λk w R=>Ik.TJ v (n:=0) ⟨rfl,R⟩ (Gq He (F.ca f i x x0 S fn ca cb k p) zF)
 have N:∀(k:Nat) (w:o_),w.heap[sa.block]?=some (N_ cs TK)->Ik P r #[pa,pb,pc,pd] 257 Zl (BJ (dR P r (SS P b5 b2 b3 r (.pointer (some sa)) n))) (Jk cs TK sa p) 35 (BJ (zz4 P q0 q1 q3 x x0 S fn ca cb (A8 f (Fa r (.pointer (some sa)) n i 1 x)) (U9 P b5 b2 b3 r (.pointer (some sa)) n) k p)) w:=by
  intro k w T
  refine⟨rfl,λw1 d _=>?_⟩
  have b:w1.heap[sa.block]?=some (N_ cs TK):=by rw[d _ U];exact T
  obtain⟨u,c2⟩:=g b
  have j:=(y_.1 b).1
  refine⟨_,_,_,We (F.c9 f _ i x x0 S fn ca cb k p) ⟨⟨_,u⟩,c2,eu⟩,λe m=>?_,?_,O k _ ?_⟩
  .simp only[Iz,List.map_cons,List.map_nil,gI,r_,p_,or_false]at m;subst m;exact⟨_,_,rfl,U,by simpa [Jl,World.setCell,Addr.add]using j⟩
  .refine⟨by simp[Jl,World.setCell],λy z=>?_,rfl,rfl,rfl⟩;have:sa.block≠y:=λe=>z (e ▸ U)
   simp[Jl,World.setCell,Addr.add,jJ,this]
  .simp[Jk,Vk,Jl,World.setCell,Addr.add,jJ,b]
 have M:∀(k:Nat) (w:o_),w.heap[sa.block]?=some (N_ cs TK)->Ik P r #[pa,pb,pc,pd] 257 Zl (BJ (dR P r (SS P b5 b2 b3 r (.pointer (some sa)) n))) (Jk cs TK sa p) 39 (BJ (zz3 P q0 q1 q3 x x0 S fn ca cb (A8 f (Fa r (.pointer (some sa)) n i 1 x)) (U9 P b5 b2 b3 r (.pointer (some sa)) n) k)) w:=by
  intro k w T
  refine⟨rfl,λw1 d _=>?_⟩
  have b:w1.heap[sa.block]?=some (N_ cs TK):=by rw[d _ U];exact T
  obtain⟨u,c2⟩:=g b
  have j:=(y_.1 b).1
  have E:=RW.at (main:=false) (K:=λw=>w=w1) (Still:=λl=>l=.cell (sa.add 2)) (F.c7 f (U9 P b5 b2 b3 r (.pointer (some sa)) n) i x x0 S fn ca cb k p) (λw T=>by rw[T];exact u) rfl
  obtain⟨_,D,Q,B,A,e⟩:=E
  have C:D=BJ (BG (zz3 P q0 q1 q3 x x0 S fn ca cb (A8 f (Fa r (.pointer (some sa)) n i 1 x)) (U9 P b5 b2 b3 r (.pointer (some sa)) n) k) (a_ p)):=e
  subst C
  refine⟨_,_,_,A w1 rfl,λe m=>?_,CP.refl w1,Ik.TJ v (n:=35) (N k w1 b) (DK (F.c8 f _ i x x0 S fn ca cb k p))⟩
  obtain⟨a,rfl,c⟩:=B e m
  injection c with c
  subst c
  exact⟨_,_,rfl,U,j⟩
 have L:∀(k:Nat) (w:o_),S0<=k->w.heap[sa.block]?=some (N_ cs TK)->w.heap[k]?=some (N_ #[a_ x0,a_ S,.func fn ca cb] 206)->Ik P r #[pa,pb,pc,pd] 257 Zl (BJ (dR P r (SS P b5 b2 b3 r (.pointer (some sa)) n))) (Jk cs TK sa p) 51 (BJ (zz2 P q0 q1 q3 x x0 S fn ca cb (A8 f (Fa r (.pointer (some sa)) n i 1 x)) (U9 P b5 b2 b3 r (.pointer (some sa)) n) k)) w:=by
  intro k w q T s
  refine⟨rfl,λw1 d _=>?_⟩
  have b:w1.heap[sa.block]?=some (N_ cs TK):=by rw[d _ U];exact T
  have t:w1.heap[k]?=some (N_ #[a_ x0,a_ S,.func fn ca cb] 206):=by rw[d _ (V k q)];exact s
  have o:=(y_.1 t).1
  have u:w1.cell? (S_ k 2)=some (.func fn ca cb):=by simp[World.cell?,t]
  have E:=RW.at (main:=false) (K:=λw=>w=w1) (Still:=λl=>l=.cell (S_ k 2)) (F.c5 f (U9 P b5 b2 b3 r (.pointer (some sa)) n) i x x0 S fn ca cb k) (λw T=>by rw[T];exact u) rfl
  obtain⟨_,D,Q,B,A,e⟩:=E
  have C:D=BJ (BG (zz2 P q0 q1 q3 x x0 S fn ca cb (A8 f (Fa r (.pointer (some sa)) n i 1 x)) (U9 P b5 b2 b3 r (.pointer (some sa)) n) k) (.func fn ca cb)):=e
  subst C
  refine⟨_,_,_,A w1 rfl,λe m=>?_,CP.refl w1,Ik.TJ v (n:=39) (M k w1 b) (DK (F.c6 f _ i x x0 S fn ca cb k))⟩
  obtain⟨a,rfl,c⟩:=B e m
  injection c with c
  subst c
  exact⟨_,_,rfl,V k q,o⟩
 have J:∀(k:Nat) (w:o_),S0<=k->w.heap[sa.block]?=some (N_ cs TK)->w.heap[k]?=some ab5->Ik P r #[pa,pb,pc,pd] 257 Zl (BJ (dR P r (SS P b5 b2 b3 r (.pointer (some sa)) n))) (Jk cs TK sa p) 57 (BJ (zz1 P q0 q1 q3 x x0 S fn ca cb (A8 f (Fa r (.pointer (some sa)) n i 1 x)) (U9 P b5 b2 b3 r (.pointer (some sa)) n) k)) w:=by
  intro k w q T s
  refine⟨rfl,λw1 d _=>?_⟩
  have b:w1.heap[sa.block]?=some (N_ cs TK):=by rw[d _ U];exact T
  have t:w1.heap[k]?=some ab5:=by rw[d _ (V k q)];exact s
  have o:=(y_.1 t).1
  have H:k≠sa.block:=zD
  refine⟨_,_,_,We (F.c3 f _ i x x0 S fn ca cb k) ?_,λe m=>?_,?_,Ik.TJ v (n:=51) (L k _ q ?_ ?_) (DK (F.c4 f _ i x x0 S fn ca cb k))⟩
  .refine⟨⟨a_ 0,?_⟩,?_,⟨a_ 0,?_⟩,?_,⟨.nilFunc,?_⟩,?_,eu⟩<;>simp[World.cell?,World.frozen?,World.setCell,jJ,t,ab5]
  .simp only[Iz,List.map_cons,List.map_nil,gI,r_,p_,or_false]at m;obtain rfl|rfl|rfl:=m<;>exact⟨_,_,rfl,V k q,by simpa [Jl,World.setCell]using o⟩
  .refine⟨by simp[Jl,World.setCell],λy z=>?_,rfl,rfl,rfl⟩;have:k≠y:=λe=>z (e ▸ V k q)
   simp[Jl,World.setCell,jJ,this]
  .simp[Jl,World.setCell,jJ,H,b]
  .simp[Jl,World.setCell,jJ,t,ab5]
 have I:Ik P r #[pa,pb,pc,pd] 257 Zl (BJ (dR P r (SS P b5 b2 b3 r (.pointer (some sa)) n))) (Jk cs TK sa p) 58 (BJ (zz0 P q0 q1 q3 x x0 S fn ca cb (A8 f (Fa r (.pointer (some sa)) n i 1 x)) (U9 P b5 b2 b3 r (.pointer (some sa)) n))) w:=by
  refine⟨rfl,λw1 d _=>?_⟩
  have b:w1.heap[sa.block]?=some (N_ cs TK):=by rw[d _ U];exact T
  have G:S0<=w1.heap.size:=by
   have e1:=d S0 (V S0 (w_ _))
   rw[v_ W]at e1
   exact Nat.le_of_lt (y_.1 e1).1
  refine⟨_,_,_,F.c2 f _ i x x0 S fn ca cb w1,zF,?_,J w1.heap.size _ G ?_ ?_⟩
  .refine⟨zF,λy z=>?_,rfl,rfl,rfl⟩;have:y≠w1.heap.size:=λe=>z (V y zD)
   simp only[Array.getElem?_push,this,if_false]
  .have:=(y_.1 b).1;simp only[Array.getElem?_push];rw[ru zD];exact b
  .simp
 rw[Tz];exact Ik.TJ v (n:=58) I (DK (F.c1 f _ i x x0 S fn ca cb))
end
end Go.Fxa
namespace Go.Fxa
open Go.Conc
open Go.ConcN (sumTo upd sumTo_upd upd_ne upd_same)
variable {q k kq:Nat} {z:n_} {gS:m_} {Z0:Nat->Prop} {Sh St:Loc->Prop} {Ph:Bool->Nat->m_->o_->Trace->Prop} {X:o_->Prop} {Od:Old}
theorem I4 {a b cc:CommCase} {m:Nat} (h:(#[a,b]:Array CommCase)[m]?=some cc):(m=0/\cc=a)\/(m=1/\cc=b):=by
 match m,h with
 |0,h=>simp at h;exact .inl ⟨rfl,h.symm⟩
 |1,h=>simp at h;exact .inr ⟨rfl,h.symm⟩
 |m+2,h=>simp at h
structure Env (Z:Nat->Prop) (Ad:Loc->Prop) (s:JY) (c:Nat):Prop where
 KU:∀x,s.own x->Z x
 under:Gp Ad Z
 ofw:∀l,LM s.r s.pre l->Ad l
 ss:∀l,s.Still l->¬Ad l
 ok:s.Ok
 c0:c≠0
def ByK (P:l_) (s:JY) (c:Nat) (gS:m_):Nat->m_->o_->Trace->Prop:=OL P true s.KW s.KS (Kq c s.r s.pre) s.Still (OX s.q0 s.q2) .select (·=gS)
def pK (P:l_) (s:JY) (c:Nat) (gC:m_):Nat->m_->o_->Trace->Prop:=OL P (c==0) s.KW s.KS (Kq c s.r s.pre) s.Still (GM s.q1 s.q3) .select (·=gC)
def Fg (P:l_) (s:JY):RQ:=outs P s.r (SS P s.b5 s.b2 s.b3 s.r s.sv s.n)
def ByX (P:l_) (s:JY) (c:Nat) (Ph:Bool->Nat->m_->o_->Trace->Prop) (X:o_->Prop) (k:Nat) (n:Nat) (g:m_) (w:o_) (t:Trace):Prop:=CB P c s.r s.pre 257 (Fg P s) Ph X false n g w t/\(w.heap[s.q3]?=some (.chan 0 #[] false k k false)/\s.cells w)
def ByT (P:l_) (s:JY) (c k:Nat):Nat->m_->o_->Trace->Prop:=ByX P s c bw9 (λ_=>True) k
def IZ (c g:Nat):Prop:=g=0\/g=c
section
variable {P:l_} {Z:Nat->Prop} {Ad:Loc->Prop} {s:JY} {c:Nat}
theorem Env.w (E:Env Z Ad s c):∀l,LM s.r s.pre l->Ad l/\¬s.Still l:=λl h=>⟨E.ofw l h,VB h⟩
theorem bn7:s.ϫ s.q0:=.inl rfl
theorem ab4:s.ϫ s.q1:=.inr (.inl rfl)
theorem au4:s.ϫ s.q2:=.inr (.inr (.inl rfl))
theorem ZG:s.ϫ s.q3:=.inr (.inr (.inr rfl))
theorem Env.zq (E:Env Z Ad s c) (h:s.ϫ q):Z q:=E.KU q (by obtain e|e|e|e:=h<;>simp[JY.own,e])
theorem MV {w:o_} (h:s.Open w) (a:s.ϫ q):Gt w (rcase q z):=by
 obtain⟨k,e⟩:=h q a;exact⟨q,z,k,rfl,e⟩
theorem yN {w:o_} (h:s.KS w):∀cc∈OX s.q0 s.q2,Gt w cc:=by
 intro cc a;simp only[OX,gI,r_,p_,or_false]at a;obtain rfl|rfl:=a
 .exact MV h.2.2 bn7
 .exact MV h.2.2 au4
theorem al9 {w:o_} (h:s.KS w):∀cc∈GM s.q1 s.q3,Gt w cc:=by
 intro cc a;simp only[GM,gI,r_,p_,or_false]at a;obtain rfl|rfl:=a
 .exact MV h.2.2 ab4
 .exact MV h.2.2 ZG
theorem bk8 (E:Env Z Ad s c):∀cc∈OX s.q0 s.q2,∃q z,cc=rcase q z/\Z q:=by
 intro cc a;simp only[OX,gI,r_,p_,or_false]at a;obtain rfl|rfl:=a
 .exact⟨_,_,rfl,E.zq bn7⟩
 .exact⟨_,_,rfl,E.zq au4⟩
theorem xB (E:Env Z Ad s c):∀cc∈GM s.q1 s.q3,∃q z,cc=rcase q z/\Z q:=by
 intro cc a;simp only[GM,gI,r_,p_,or_false]at a;obtain rfl|rfl:=a
 .exact⟨_,_,rfl,E.zq ab4⟩
 .exact⟨_,_,rfl,E.zq ZG⟩
theorem η {c a:Nat} {b:n_} (h:rcase c z=rcase a b):c=a:=by simp[rcase]at h;exact h.1
theorem as2 {cs:Array CommCase} (h:∀cc∈cs,∃q z,cc=rcase q z/\Z q):∀cc∈cs,∀c z,cc=rcase c z->Z c:=λcc b c z e=>by
 obtain⟨q,f,a,d⟩:=h cc b;rw[e]at a;rw[η a];exact d
theorem su (E:Env Z Ad s c):GR P Z Ad s.Still (λB t=>PX Ad s.Still (IZ c) (λg=>g=0) B c t) 0 (ByK P s c gS):=
 Xi (Oi E.KU) (λ_ h=>h.Px) (JU E.w E.ss) (as2 (bk8 E)) (.inl rfl) rfl
theorem XW {gC:m_} (E:Env Z Ad s c):GR P Z Ad s.Still (λB t=>PX Ad s.Still (IZ c) (λg=>g=c) B 0 t) c (pK P s c gC):=
 Xi (Oi E.KU) (λ_ h=>h.Px) (JU E.w E.ss) (as2 (xB E)) (.inr rfl) rfl
theorem rZ {Z':Nat->Prop} (v:∀r C A,Pn P r C A) (j:s.Ok) (m:c≠0) (H:Ns P Z0 Sh St (fun g=>g=c) c s.r s.pre 257 (Fg P s) Ph X) (p:Z0 s.r) (y:∀x,Z0 x->Z' x) (u:∀l,LM s.r s.pre l->Sh l/\¬St l) (o:∀x,s.own x->Z' x) (n:∀x,s.own x->x≠s.r->¬Z0 x):
  GR P Z' Sh St (λB t=>PX Sh St (λg=>g=0) (λg=>g=c) B 0 t) c (ByX P s c Ph X k):=
 wo H (Xn (v _ _ _)) p u m m y λw i h e=>by
  have a:s.own s.q3:=by simp[JY.own]
  refine⟨by rw[e _ (n _ a (j.bq _ (.inr (.inr (.inr rfl)))).2.2.2) (o _ a)];exact h.1,h.2.keep λx d=>?_⟩
  have b:s.own x:=by obtain e|e|e:=d<;>simp[JY.own,e]
  have f:x≠s.r:=by obtain e|e|e:=d<;>subst e<;>first|exact j.br.2.2|exact j.br.1|exact j.br.2.1
  exact e x (n x b f) (o x b)
theorem cc6 (H:Ns P Z0 Sh St (λg=>g=c) c s.r s.pre 257 (Fg P s) Ph X) (n:Nat) (b:m_) (w:o_) (t:Trace) (h:ByX P s c Ph X k n b w t) (d:Nat):s.KW (w.at d):=by
 obtain⟨f,e,a⟩:=YB H h.1;exact⟨⟨f,e,a⟩,h.2.2⟩
theorem ah9 (b:∀r e d,Pn P r e d) (E:Env Z Ad s c):GR P Z Ad s.Still (λB t=>PX Ad s.Still (λg=>g=0) (λg=>g=c) B 0 t) c (ByT P s c k):=
 rZ (Z0:=λx=>x=s.r) b E.ok E.c0 bi3 rfl (λx a=>E.KU _ (by rw[a];simp[JY.own])) E.w E.KU (λ_ _ h=>h)
theorem xQ (n:Nat) (b:m_) (w:o_) (t:Trace) (h:ByK P s c gS n b w t) (d:Nat):s.KW (w.at d):=(h.1.1:s.KS w).Px
theorem bj4 {gC:m_} (n:Nat) (b:m_) (w:o_) (t:Trace) (h:pK P s c gC n b w t) (d:Nat):s.KW (w.at d):=(h.1.1:s.KS w).Px
theorem vT (E:Env Z Ad s c) (x:n_):xY P Z Ad s.Still (IZ c) c 0 s.KW s.KS (Kq c s.r s.pre) (OX s.q0 s.q2) (jY s.q0 s.q3 x) 0 0 s.q0 x (a_ 0) (a_ 0) where
 leans:=Oi E.KU
 Px:=λ_ h=>h.Px
 lasts:=JU E.w E.ss
 meets:={
  hkh:=rfl
  hoh:=λm b a h=>by
   obtain⟨e,_⟩|⟨_,rfl⟩:=I4 h
   .exact(a e).elim
   .exact⟨_,_,rfl,E.ok.qq.2.2.1.symm,E.zq ZG⟩
  hkj:=rfl
  hoj:=λm b a h=>by
   obtain⟨e,_⟩|⟨_,rfl⟩:=I4 h
   .exact(a e).elim
   .simp[rcase,E.ok.qq.2.1.symm]
  hrj:=bk8 E }
 zW:=.inr rfl
 zV:=.inl rfl
 opens:=λw h m b a f=>by
  obtain⟨e,_⟩|⟨_,rfl⟩:=I4 f
  .exact(a e).elim
  .exact MV h.2.2 ZG
 keeps:=λ_ d k h=>h.chan E.ok bn7 d k
theorem ϒ (E:Env Z Ad s c) (o:Int):xY P Z Ad s.Still (IZ c) c 0 s.KW s.KS (Kq c s.r s.pre) (OX s.q0 s.q2) (dV s.q2 s.q3 o) 0 1 s.q2 (b_ o) (b_ 0) (b_ 0) where
 leans:=Oi E.KU
 Px:=λ_ h=>h.Px
 lasts:=JU E.w E.ss
 meets:={
  hkh:=rfl
  hoh:=λm b a h=>by
   obtain⟨e,_⟩|⟨_,rfl⟩:=I4 h
   .exact(a e).elim
   .exact⟨_,_,rfl,E.ok.qq.2.2.2.2.2.symm,E.zq ZG⟩
  hkj:=rfl
  hoj:=λm b a h=>by
   obtain⟨_,rfl⟩|⟨e,_⟩:=I4 h
   .simp[rcase,E.ok.qq.2.1]
   .exact(a e).elim
  hrj:=bk8 E }
 zW:=.inr rfl
 zV:=.inl rfl
 opens:=λw h m b a f=>by
  obtain⟨e,_⟩|⟨_,rfl⟩:=I4 f
  .exact(a e).elim
  .exact MV h.2.2 ZG
 keeps:=λ_ d k h=>h.chan E.ok au4 d k
theorem U2 (E:Env Z Ad s c) (A:n_):xY P Z Ad s.Still (IZ c) 0 c s.KW s.KS (Kq c s.r s.pre) (GM s.q1 s.q3) (jK s.q1 A) 0 0 s.q1 A (.tuple #[]) qj where
 leans:=Oi E.KU
 Px:=λ_ h=>h.Px
 lasts:=JU E.w E.ss
 meets:={
  hkh:=rfl
  hoh:=λm b a h=>by
   match m,h with
   |0,_=>exact(a rfl).elim
   |m+1,h=>simp[jK]at h
  hkj:=rfl
  hoj:=λm b a h=>by
   obtain⟨e,_⟩|⟨_,rfl⟩:=I4 h
   .exact(a e).elim
   .simp[rcase,E.ok.qq.2.2.2.2.1.symm]
  hrj:=xB E }
 zW:=.inl rfl
 zV:=.inr rfl
 opens:=λw h m b a f=>by
  match m,f with
  |0,_=>exact(a rfl).elim
  |m+1,h=>simp[jK]at h
 keeps:=λ_ d k h=>h.chan E.ok ab4 d k
theorem eF.last {gs:Array m_} {w:o_} {sl:d_ (W_)} {t:Trace} {a:m_} {J:o_->Prop} (o:Int) (E:Env Z Ad s c) (W:a.status=.running) (Y:∀w,stepG P (c==0) a w=.comm a (dV s.q2 s.q3 o) true .select w #[])
  (S:KR P (Dz s.r s.pre 257) false k (Conc.served a (commResult (dV s.q2 s.q3 o) .select 0 undef false)) (Fg P s).gR)
  (H:eF Od P Z Ad s.Still (IZ c) (λg=>g=0) c 0 (ByK P s c gS) (λg v=>g=a/\J v) gs w t):
  AQ P gs w sl t λU w' V=>∃kq,eF Od P Z Ad s.Still (λg=>g=0) (λg=>g=c) 0 c (ByT P s c kq) (λg v=>g=Conc.served gS (commResult (OX s.q0 s.q2) .select 1 (b_ o) true)/\J v) U w' V:=by
 have M:=ϒ (P:=P) E o;obtain⟨q,n,B,g,v0,j,⟨rfl,l⟩,T,y,D⟩:=H;obtain⟨b,O,m⟩:=D.idle;have A:s.KS w:=m.1.1;refine(Yu (Am:=λg=>g=0) M.leans M.Px M.lasts M.meets M.zW M.zV rfl (es:=#[]) (n+sumTo gs.size q+1) n gs g w sl t q B zD j W D (M.opens w A) (λd=>Y (w.at d)) zF).bind λU w' N V L C=>?_
 obtain⟨K,x,d,h,m1,m2,m3,Q,R,rfl,G,I,z,u,_⟩:=C;have off:CP Z w ((w.at d).setChan s.q2 0 #[] false (h+1) (h+1) false):=MX (E.zq au4) w d (h+1) false;have e:s.KS ((w.at d).setChan s.q2 0 #[] false (h+1) (h+1) false):=M.keeps w d (h+1) A;obtain⟨kq,p⟩:=e.2.2 s.q3 ZG;refine .now ⟨kq,K,_,B,_,v0,m2,⟨by rw[m3];rfl,l⟩,T.off y off,y,⟨D.ne.symm,.inl rfl,λg f=>.inl f,⟨_,m1,.inr ⟨⟨u,.inl ⟨k,rfl,S,e.1,?_⟩⟩,eu⟩,p,e.2.1⟩,λi g j l F=>G i g l j F,I,?_,?_⟩⟩
 .exact z.hears c (.inr rfl)
 .exact(z.fewer (LV:=λg=>g=0) λg f=>.inl f).loosen (λg f=>(f.2 f.1).elim)
 .rw[Jv];exact D.size
end
structure E5 (P:l_):Prop where
 FU:UL P
 child:∀(b5 b2 b3 r q0 q1 q2 q3:Nat) (sv:n_) (n:Int),En P b5 b2 b3 r q0 q1 q2 q3 sv n
 ans:∀(r q0 q1 q3:Nat) (sv:n_) (n:Int),UM P r q0 q1 q3 sv n
 done:∀(r:Nat) (tm:X_) (td:List Item),Pn P r tm td
 add:∀(r:Nat) (c:Frame) (Y:Z_),YD P r c Y
 wait:∀(r:Nat) (c:Frame) (Y:Z_),RF P r c Y
 mixed:P.follows .mixedOrders=true
 blk:mF P
 back:∀(b5 b2 b3 r q0 q1 q3:Nat) (sa:f_) (n:Int),VL P b5 b2 b3 r q0 q1 q3 sa n
def gC (P:l_) (s:JY) (f:Y_) (i:Int) (x:n_):m_:=BJ (m3 P s.q0 s.q1 s.q3 x (A8 f (Fa s.r s.sv s.n i 1 x)) (U9 P s.b5 s.b2 s.b3 s.r s.sv s.n))
def Vl (P:l_) (s:JY) (f:Y_) (td:List Item) (told:n_) (c0:Frame) (cs:Z_):Frame×Z_:=sR P (Β (A8 f [(6,told)]) td::c0::cs) s.r
theorem Vu {s:JY} (x:Nat):¬s.Still (.obj x):=by
 intro h;obtain e|e|e|e|e|e|e:=h<;>cases e
section
variable {P:l_} {Z:Nat->Prop} {Ad:Loc->Prop} {s:JY} {c:Nat} {gs:Array m_} {w:o_} {sl:d_ (W_)} {t:Trace} {J:o_->Prop} {f fc:Nat->n_} {i:Int} {x told:n_} {td:List Item} {c0:Frame} {cs:Z_}
theorem bz2 (A:E5 P) (a:m_) (h:a=gC P s fc i x):G5 P false s.KW s.Still (GM s.q1 s.q3) .select (·=gC P s fc i x) 0 { parked a (GM s.q1 s.q3) .select with status:=.running }:=by
 subst h;refine⟨gC P s fc i x,#[],rfl,rfl,zF,λw _=>?_⟩;exact IW ((A.child s.b5 s.b2 s.b3 s.r s.q0 s.q1 s.q2 s.q3 s.sv s.n).m16 fc _ i x) w
theorem al1 (A:E5 P) (a:m_) (h:a=gC P s fc i x):KR P (Dz s.r s.pre 257) false 37 (Conc.served a (commResult (GM s.q1 s.q3) .select 1 (.agg #[]) false)) (Fg P s).gR:=by
 subst h;exact oM (A.child s.b5 s.b2 s.b3 s.r s.q0 s.q1 s.q2 s.q3 s.sv s.n) fc i x
theorem ap6 (O:s.Ok):∀(m:Nat) cc,m≠1->(GM s.q1 s.q3)[m]?=some cc->cc.chan≠.chan (some s.q3):=λm cc a h=>by
 obtain⟨_,rfl⟩|⟨e,_⟩:=I4 h
 .simp[rcase,O.qq.2.2.2.2.1]
 .exact(a e).elim
def kC (P:l_) (Z:Nat->Prop) (Ad:Loc->Prop) (X:o_->Prop) (c0:Frame) (cs:Z_) (told:n_) (w:o_) (Bh:Array m_) (w':o_) (t':Trace):Prop:=
 ∃q' B',Bh[0]?=some (G (c0.finish told) cs)/\CP Z w w'/\Leavers P t' Bh q'/\Past Ad B' t'/\w'.heap.size<=B'/\X w'
theorem kC.off {Z:Nat->Prop} {Ad:Loc->Prop} {w1:o_} {g:Array m_} {w':o_} {j:Trace} (l:CP Z w w1) (h:kC P Z Ad X c0 cs told w1 g w' j):kC P Z Ad X c0 cs told w g w' j:=by
 obtain⟨e,a,b,c,d⟩:=h;exact⟨e,a,b,l.trans c,d⟩
theorem SG (A:E5 P) (T:Ns P Z Sh St (fun g=>g=c) c s.r s.pre 257 (Fg P s) Ph X) (R:∀l,Sh l->¬St l->Ad l) (V:Z s.r) (U:∀l,LM s.r s.pre l->Sh l/\¬St l) (S:c≠0) (Y:∀w d,X w->X (w.at d))
  {n B:Nat} {q:Nat->Nat} (W:gs[0]?=some (BJ (sD P (Β (A8 f [(6,told)]) td::c0::cs) s.r s.q3)))
  (D:Duo P Sh St (λg=>g=0) (λg=>g=c) B 0 c (CB P c s.r s.pre 257 (Fg P s) Ph X false) n gs w t q):
  AQ P gs w sl t (kC P Z Ad X c0 cs told w):=by
 have i:GR P Z Sh St (λB t=>PX Sh St (λg=>g=0) (λg=>g=c) B 0 t) c (CB P c s.r s.pre 257 (Fg P s) Ph X false):=O9 T (Xn (A.done _ _ _)) V U S S;refine(Hw (J:=λ_=>True) (λ_ _ _ _ _ _=>trivial) i 6 (DK (A.FU.sDa _ _ _)) W D).bind λo w1 I N _ ⟨q1,L,H,a,E,_,e⟩=>?_
 rw[A.FU.sDb]at a;refine(join T R (Xn (A.done _ _ _)) (av3 (A.wait _ _ _)) V U S a e).bind λp w2 G O _ ⟨M,b,v,F,_,h,j,k,m⟩=>?_
 refine(Kw PO _ (I9 (K:=λ_=>True) (A.FU.end_ _ _ _ _ _ _ _)) (λ_=>trivial) v h j).mono λu w3 Q ⟨q3,d,x,y,z,C⟩=>?_
 subst y;exact⟨q3,b,x,(E.trans F).trans (CP.at w2 d),z,C,k,Y w2 d m⟩
theorem oI (A:E5 P) (E:Env Z Ad s c) (H:eF Od P Z Ad s.Still (IZ c) (fun g=>g=c) 0 c (pK P s c (gC P s fc i x)) (fun g v=>g=BJ (Vl P s f td told c0 cs)/\J v) gs w t):
  AQ P gs w sl t λBh w' t'=>∃v B,J v/\Bh[0]?=some (G (c0.finish told) cs)/\cu Od P Ad Z B v Bh w' t':=by
 refine(H.walk (sl:=sl) bj4 (λw a h C=>Ju h C) E.ss (XW E) (RW.at (A.FU.sRa _ _ s.q3) (λw h=>let ⟨_,_,b⟩:=h.1;(Ky b).2.2.2) (OG (s:=s)).t3)).bind λp w1 S X _ m=>?_
 obtain⟨q1,U,Q,g,v,u,⟨rfl,y⟩,T,e,D⟩:=m;have b:Z s.r:=E.KU _ (by simp[JY.own]);refine(wu (Am:=λg=>g=c) (home:=(·=gC P s fc i x)) (o:=Fg P s) (kR:=37) (zq:=.agg #[]) (Oi E.KU) (λ_ h=>h.Px) (JU E.w E.ss) E.c0 Vu (as2 (xB E)) rfl (λ_ h=>h) (λ_ h=>h.1) (λ_ k h=>h.shut E.ok k) (E.ok.bq _ ZG).2.2.2.symm rfl (ap6 E.ok) (bz2 A) (A.FU.sCw _ _ _) rfl rfl (λw1 k _ z d=>Y9 (A.FU.sCa _ _ _) z) u D).bind λq w2 O Y _ ⟨W,V,R,k1,k2,_,l⟩=>?_
 refine(SG (Ad:=Ad) A (ax7 (bc4 E.KU) (as2 (xB E)) b E.w E.c0 rfl (al1 A) λw n d h=>h.set E.ok n d) (λ_ h _=>h) b E.w E.c0 (λ_ _ h=>h) k1 l).mono λBh w' t' ⟨N,j,F,I,K,L,M,_⟩=>?_
 exact⟨v,j,y,F,N,(T.off e k2).off e I,e,K,L,M⟩
theorem Y8 (A:E5 P) (W:s.Ok) (V:c≠0) (H:Ns P Z0 Sh St (fun g=>g=c) c s.r s.pre 257 (Fg P s) Ph X) (N:Z0 s.r) (O:∀x,Z0 x->Z x) (U:∀l,LM s.r s.pre l->Sh l/\¬St l) (Y:∀x,s.own x->Z x) (Q:∀x,s.own x->x≠s.r->¬Z0 x)
  (S:∀l,s.Still l->¬Sh l) (T:∀x,¬St (.obj x)) (R:∀l,Sh l->¬St l->Ad l) (hX:∀w d,X w->X (w.at d)) {n B:Nat} {q:Nat->Nat} (h0:gs[0]?=some (BJ (Vl P s f td told c0 cs))) (D:Duo P Sh St (λg=>g=0) (λg=>g=c) B 0 c (ByX P s c Ph X kq) n gs w t q):
  AQ P gs w sl t (kC P Z Ad X c0 cs told w):=by
 have e:=rZ (k:=kq) A.done W V H N O U Y Q;refine(qW (S0:=s.Still) (cc6 H) (λw a h O=>Ju h O) S e 1 (RW.at (A.FU.sRa _ _ s.q3) (λw h=>let ⟨_,_,hr⟩:=h.1;(Ky hr).2.2.2) (OG (s:=s)).t3) h0 D).bind λm w1 E K _ ⟨q1,F,y,p,u,_,i⟩=>?_
 have b:s.own s.q3:=by simp[JY.own]
 refine(ϟ (Z:=Z) (X2:=λw=>w.heap[s.q3]?=some (.chan 0 #[] false kq kq false)/\s.cells w) H (Xn (A.done _ _ _)) N U V T (Y _ b) (Q _ b (W.bq _ ZG).2.2.2) rfl (λ_ h=>h.1) (λw1 Q d=>Y9 (A.FU.sCa _ _ _) Q) p e i).bind λo w2 v L _ ⟨I,G,z,k1,k2,_,j⟩=>?_
 exact(SG (Ad:=Ad) A (H.sub O) R (O _ N) U V hX k1 j).mono λC M J h=>(h.off k2).off u
theorem Wv (A:E5 P) (E:Env Z Ad s c) (H:eF Od P Z Ad s.Still (fun g=>g=0) (fun g=>g=c) 0 c (ByT P s c kq) (fun g v=>g=BJ (Vl P s f td told c0 cs)/\J v) gs w t):
  AQ P gs w sl t λu w' y=>∃v B,J v/\u[0]?=some (G (c0.finish told) cs)/\cu Od P Ad Z B v u w' y:=by
 obtain⟨q1,q,p,g,v,d,⟨rfl,e⟩,T,a,D⟩:=H;refine(Y8 (Z0:=λx=>x=s.r) (Ad:=Ad) A E.ok E.c0 bi3 rfl (λx i=>E.KU _ (by rw[i];simp[JY.own])) E.w E.KU (λ_ _ h=>h) E.ss Vu (λ_ h _=>h) (λ_ _ h=>h) d D).mono λu w' y ⟨o,b,j,k,l,m,n,_⟩=>?_
 exact⟨v,b,e,j,o,T.off a k,a,l,m,n⟩
end
end Go.Fxa
