/- Where a process -/
import Derived.Test.YtmhplpfpcnjekaaGreatA08
open Go.Proofs.Tryz
namespace Go.Fxa
open Go.Conc
open Go.ConcN (sumTo upd sumTo_upd upd_ne upd_same)
variable {a:f_}{v:n_}{q k:Nat}{P:l_}{K:o_->Prop}{main:Bool}{x:Frame×Z_}{Od:Old}
structure J8 where
 b2:Nat
 b3:Nat
 b5:Nat
 r:Nat
 q0:Nat
 q1:Nat
 q2:Nat
 q3:Nat
 sv:n_
 n:Int
namespace J8
variable (s:J8)
def own (x:Nat):Prop:=x=s.b2\/x=s.b3\/x=s.b5\/x=s.r\/x=s.q0\/x=s.q1\/x=s.q2\/x=s.q3
def pre:X_:=#[D5 s.q0,D5 s.q1,D5 s.q2,D5 s.q3]
def Still (l:Loc):Prop:=l=.cell (R_ s.b5)\/l=.cell (R_ s.b2)\/l=.cell (R_ s.b3)\/l=.cell (R_ s.r)\/l=.cell (S_ s.r 1)\/l=.cell (S_ s.r 2)\/l=.cell (S_ s.r 3)
def cells (w:o_):Prop:=w.cell? (R_ s.b5)=some (pr s.r)/\w.cell? (R_ s.b2)=some s.sv/\w.cell? (R_ s.b3)=some (b_ s.n)
def KW (w:o_):Prop:=DD s.r s.pre 257 w/\s.cells w
def chs (q:Nat):Prop:=q=s.q0\/q=s.q1\/q=s.q2\/q=s.q3
def Open (w:o_):Prop:=∀q,s.chs q->∃k,w.heap[q]?=some (.chan 0 #[] false k k false)
def KS (w:o_):Prop:=BC s.r s.pre 257 w KK 0/\s.cells w/\s.Open w
structure Ok:Prop where
 bq:∀q,s.chs q->q≠s.b2/\q≠s.b3/\q≠s.b5/\q≠s.r
 br:s.b2≠s.r/\s.b3≠s.r/\s.b5≠s.r
 qq:s.q0≠s.q1/\s.q0≠s.q2/\s.q0≠s.q3/\s.q1≠s.q2/\s.q1≠s.q3/\s.q2≠s.q3
end J8
section
variable {s:J8}{Z:Nat->Prop}{w w':o_}
theorem Ij (h:w.cell? a=some v)(e:w'.heap[a.block]?=w.heap[a.block]?):w'.cell? a=some v:=by
 unfold World.cell? at*;rw[e];exact h
theorem J8.KS.PT (h:s.KS w):s.KW w:=⟨⟨_,_,h.1⟩,h.2.1⟩
theorem J8.cells.keep (h:s.cells w)(e:∀x,(x=s.b5\/x=s.b2\/x=s.b3)->w'.heap[x]?=w.heap[x]?):s.cells w':=
 ⟨Ij h.1 (e _ (.inl rfl)),Ij h.2.1 (e _ (.inr (.inl rfl))),Ij h.2.2 (e _ (.inr (.inr rfl)))⟩
theorem KQ {a sm:Int}(h:BC s.r s.pre 257 w a sm):w.cell? (R_ s.r)=some (D5 s.q0)/\w.cell? (S_ s.r 1)=some (D5 s.q1)/\w.cell? (S_ s.r 2)=some (D5 s.q2)/\w.cell? (S_ s.r 3)=some (D5 s.q3):=by
 unfold BC at h;refine⟨?_,?_,?_,?_⟩<;>simp[World.cell?,h,J8.pre]
theorem ML (h:w.cell? a=some v):a.block<w.heap.size:=by
 unfold World.cell? at h;cases e:w.heap[a.block]? with
 |none=>rw[e]at h;simp at h
 |some o=>exact(y_.1 e).1
theorem JH (h:s.KW w)(l:s.Still (.cell a)):a.block<w.heap.size:=by
 obtain⟨⟨k,j,i⟩,g,d,f⟩:=h;obtain⟨b,c,c2,c3⟩:=KQ i;obtain e|e|e|e|e|e|e:=l<;>(injection e with e;subst e;first|exact ML g|exact ML d|exact ML f|exact ML b|exact ML c|exact ML c2|exact ML c3)
theorem Ov (g:∀x,s.own x->Z x):Tz Z s.Still s.KS where
 keep:=λw f b h=>⟨h.1.keep (g _ (by simp[J8.own])) b,h.2.1.keep λx d=>b x (g _ (by obtain e|e|e:=d<;>simp[J8.own,e])),λq hq=>by
  obtain⟨k,e⟩:=h.2.2 q hq
  exact⟨k,by rw[b q (g _ (by obtain e|e|e|e:=hq<;>simp[J8.own,e]))];exact e⟩⟩
 still:=λw a h c=>JH h.PT c
theorem bh5 (l:∀x,s.own x->Z x):Tz Z s.Still s.KW where
 keep:=λw k b h=>by
  obtain⟨⟨j,i,d⟩,c⟩:=h
  exact⟨⟨j,i,d.keep (l _ (by simp[J8.own])) b⟩,c.keep λx g=>b x (l _ (by obtain e|e|e:=g<;>simp[J8.own,e]))⟩
 still:=λw a h f=>JH h f
theorem OW:TZ s.KW s.Still s.b5 s.b2 s.b3 s.r s.q0 s.q1 s.q2 s.q3 s.sv s.n where
 c5:=λ_ h=>h.2.1
 s5:=.inl rfl
 c2:=λ_ h=>h.2.2.1
 s2:=.inr (.inl rfl)
 c3:=λ_ h=>h.2.2.2
 s3:=.inr (.inr (.inl rfl))
 r0:=λ_ h=>let ⟨_,_,hr⟩:=h.1;(KQ hr).1
 t0:=.inr (.inr (.inr (.inl rfl)))
 r1:=λ_ h=>let ⟨_,_,hr⟩:=h.1;(KQ hr).2.1
 t1:=.inr (.inr (.inr (.inr (.inl rfl))))
 r2:=λ_ h=>let ⟨_,_,hr⟩:=h.1;(KQ hr).2.2.1
 t2:=.inr (.inr (.inr (.inr (.inr (.inl rfl)))))
 r3:=λ_ h=>let ⟨_,_,hr⟩:=h.1;(KQ hr).2.2.2
 t3:=.inr (.inr (.inr (.inr (.inr (.inr rfl)))))
theorem JY {x d cap k':Nat}{a:X_}{b c:Bool}(h:q≠x):((w.at d).setChan q cap a b k k' c).heap[x]?=w.heap[x]?:=by
 simp[World.setChan,World.at,z_ h]
theorem J8.KS.chan (O:s.Ok)(hq:s.chs q)(h:s.KS w)(d k:Nat):s.KS ((w.at d).setChan q 0 #[] false k k false):=by
 obtain⟨e2,e3,g,i⟩:=O.bq q hq;refine⟨?_,h.2.1.keep λx j=>?_,λf b=>?_⟩
 .unfold BC;rw[JY i];exact h.1
 .obtain e|e|e:=j<;>subst e
  .exact JY g
  .exact JY e2
  .exact JY e3
 .by_cases e:q=f
  .subst e;obtain⟨c,a⟩:=h.2.2 q hq;have:=(y_.1 a).1;exact⟨k,by simp[World.setChan,World.at,this]⟩
  .obtain⟨c,a⟩:=h.2.2 f b;exact⟨c,by rw[JY e];exact a⟩
theorem J8.KW.shut (O:s.Ok)(h:s.KW w)(k:Nat):s.KW (w.setChan s.q3 0 #[] true k k false):=by
 obtain⟨e2,e3,c,d⟩:=O.bq s.q3 (.inr (.inr (.inr rfl)));have a:∀x,s.q3≠x->(w.setChan s.q3 0 #[] true k k false).heap[x]?=w.heap[x]?:=λx b=>by simp[World.setChan,z_ b]
 obtain⟨⟨j,i,g⟩,f⟩:=h;refine⟨⟨j,i,by unfold BC;rw[a _ d];exact g⟩,f.keep λx b=>?_⟩;obtain e|e|e:=b<;>subst e
 .exact a _ c
 .exact a _ e2
 .exact a _ e3
theorem J8.KW.set (O:s.Ok)(h:s.KW w)(m:Int)(d:Nat):s.KW ((w.at d).setCell (stA s.r s.pre) (.int .u64 m)):=by
 obtain⟨⟨i,a,f⟩,c⟩:=h;have b:BC s.r s.pre 257 (w.at d) i a:=f;refine⟨⟨m,a,b.setSt m⟩,c.keep λx g=>?_⟩;have:s.r≠x:=by obtain e|e|e:=g<;>subst e<;>first|exact O.br.2.2.symm|exact O.br.1.symm|exact O.br.2.1.symm
 simp[World.setCell,World.at,stA,iF,this]
theorem Wl {l:Loc}(h:LY s.r s.pre l):¬s.Still l:=by
 have a:s.pre.size=4:=rfl;intro b;obtain e|e:=h<;>subst e<;>obtain e|e|e|e|e|e|e:=b<;>simp[stA,smA,a]at e
theorem J4 {Ad:Loc->Prop}{c j:Nat}(g:∀l,LY s.r s.pre l->Ad l/\¬s.Still l)(f:∀l,s.Still l->¬Ad l):dV Ad s.Still j (KI c s.r s.pre) where
 ss:=f
 calm:=λ_ _ h e=>h.app λop a b hb d=>((e op a).2.1 b hb).2 (g _ d).1
 reads:=λ_ _ h e=>h.app λop a b hb d=>((g _ d).2 (e op a b hb).2).elim
theorem Jj (c:∀x,s.own x->Z x):Gx s.Still Z:=by
 refine⟨λa b=>?_,λr b=>?_⟩
 .obtain e|e|e|e|e|e|e:=b<;>(injection e with e;subst e;apply c;simp[J8.own])
 .obtain e|e|e|e|e|e|e:=b<;>cases e
end
theorem Jd {s:d_ (j_×Nat)}:∀{n:Nat} {x y:Frame×Z_},Ec P s n x=some ([],y)->Ls P K main n (BO x) (BO y):=by
 intro n
 induction n with
 |zero=>
  intro x y h
  simp only[Ec,l7,lQ,true_and]at h
  subst h;exact rfl
 |succ n c=>
  intro x y h
  simp only[Ec]at h
  split at h
  .rename_i d z b;split at h
   .rename_i e f a;simp only[l7,lQ,List.append_eq_nil_iff]at h;obtain⟨⟨rfl,rfl⟩,rfl⟩:=h;exact⟨rfl,_,λw _=>Sm b sJ,c a⟩
   .cases h
  .cases h
theorem DT {n:Nat}(h:AU P n x=some []):Ls P K main n (BO x) (BO (run P n x)):=by
 unfold Fxa.AU at h;obtain⟨⟨l,y⟩,a,rfl⟩:=lT.1 h;have e:run P n x=y:=by unfold run;rw[a]
 rw[e];exact Jd a
def NG (P:l_)(gs:Array m_)(w:o_)(sl:d_ (W_))(t:Trace)(Q:Array m_->o_->Trace->Prop):Prop:=
 ∃N BA w' Em t',runNT P N (crowd gs w sl) t=(.next (crowd BA w' Em),t')/\Q BA w' t'
section
variable {P:l_}{gs:Array m_}{w:o_}{sl:d_ (W_)}{t:Trace}{Q Q':Array m_->o_->Trace->Prop}
theorem AX.leads (h:AX P gs w sl t Q):NG P gs w sl t Q:=by
 obtain⟨N,a,w1,b,e,d,_,c⟩:=h;exact⟨N,a,w1,b,e,d,c⟩
theorem NG.now (hq:Q gs w t):NG P gs w sl t Q:=⟨0,gs,w,sl,t,rfl,hq⟩
theorem NG.bind (hq:NG P gs w sl t Q)(o:∀l w' n m,Q l w' m->NG P l w' n m Q'):NG P gs w sl t Q':=by
 obtain⟨N,a,w1,e,j,i,g⟩:=hq;obtain⟨f,b,w2,d,k,c,h⟩:=o a w1 e j g;exact⟨N+f,b,w2,d,k,by rw[runNT_add,i];exact c,h⟩
theorem AX.then (hq:AX P gs w sl t Q)(p:∀m w' o n,m.size=gs.size->Q m w' n->NG P m w' o n Q'):NG P gs w sl t Q':=by
 obtain⟨N,a,w1,e,k,i,j,g⟩:=hq;obtain⟨f,b,w2,d,l,c,h⟩:=p a w1 e k j g;exact⟨N+f,b,w2,d,l,by rw[runNT_add,i];exact c,h⟩
theorem NG.mono (hq:NG P gs w sl t Q)(h:∀f w' g,Q f w' g->Q' f w' g):NG P gs w sl t Q':=by
 obtain⟨N,a,w1,b,e,d,c⟩:=hq;exact⟨N,a,w1,b,e,d,h _ _ _ c⟩
variable {Ad:Loc->Prop}{Z:Nat->Prop}{B:Nat}{v:o_}
theorem Qg:Ub (Past Ad B):=λ_ _ _ _ _ hi a h=>h.mute hi a
theorem Y7.Uz {a l:m_}(n:Y7 Od P Ad Z B v gs w t)(o:gs[0]?=some a)(p:Ls P (λ_=>True) true k a l):AX P gs w sl t λj w' m=>j[0]?=some l/\Y7 Od P Ad Z B v j w' m/\w'.heap=w.heap:=by
 obtain⟨q,T,c,hL,b,hB⟩:=n;refine(KP Qg k p (λ_=>trivial) o hL b).mono λj w' m ⟨i,d,e,f,g,h⟩=>?_
 subst f;exact⟨e,⟨i,T.TP v.tape w.tape v.drawn d,c,g,h,hB⟩,rfl⟩
theorem Y7.read {ad:f_}{y u:n_}(H:Y7 Od P Ad Z B v gs w t)(I:gs[0]?=some (BO x))(J:Eb P x u=some ([ad],y))(G:w.cell? ad=some u)(K:¬Ad (.cell ad)):
  AX P gs w sl t λF w' L=>F[0]?=some (BO (BK x y))/\Y7 Od P Ad Z B v F w' L/\w'.heap=w.heap:=by
 obtain⟨q,T,r,hL,p,hB⟩:=H;have z:RW P true (λw=>w.cell? ad=some u) (λl=>l=.cell ad) 1 (BO x) (BO (BK x y)):=RW.at J (λ_ h=>h) rfl;obtain⟨_,n,D,k,j,e⟩:=z;have m:n=BO (BK x y):=e;subst m;refine go_mute Qg I rfl hL p λd E f=>⟨_,_,_,j (w.at d) G,λF A _ o c C=>.now ⟨o,⟨A,T.TP v.tape w.tape v.drawn d,r,c,f.own λe s=>?_,hB⟩,rfl⟩⟩
 obtain⟨a,rfl,g⟩:=k e s;injection g with g;subst g;refine⟨λb hb i=>?_,sJ,sJ,?_⟩
 .obtain rfl:=x_ hb;exact(K i).elim
 .have:=ML G;show a.block<B;omega
end
end Go.Fxa
namespace Go.Fxa
open Go.Conc Go.Proofs
def aQ (P:l_){α:Type}:Sem α->d_ (List (f_×n_)×α)
 |.pure a=>some ([],a)
 |.program k=>aQ P (k P)
 |.store .plain a (.int t v) k=>(aQ P k).map λx=>((a,.int t v)::x.1,x.2)
 |.store .plain a (.func f x y) k=>(aQ P k).map λz=>((a,.func f x y)::z.1,z.2)
 |_=>none
def vM (w:o_):List (f_×n_)->Prop
 |[]=>True
 |x::l=>(∃u,w.cell? x.1=some u)/\w.frozen? x.1=false/\vM (w.setCell x.1 x.2) l
def Ju (w:o_)(l:List (f_×n_)):o_:=l.foldl (λw x=>w.setCell x.1 x.2) w
def II (l:List (f_×n_)):Array Event:=(l.map λx=>(⟨.cell x.1,true,false⟩:Event)).toArray
section
variable {P:l_}
theorem Ϯ {α:Type}{e:Sem α}{a:α}:∀{l:List (f_×n_)} {w:o_},aQ P e=some (l,a)->vM w l->∀es,e.runT P w es=(.ok a (Ju w l),es++II l):=by
 induction e with
 |pure b=>
  intro l w h _ es
  simp only[aQ,l7,lQ]at h
  obtain⟨rfl,rfl⟩:=h
  simp[Sem.runT,Ju,II]
 |program k p=>intro l w h i es;exact p P h i es
 |store m g v k p=>
  intro l w h i es
  have key:∀q,l=(g,v)::q->m=.plain->aQ P k=some (q,a)->(∀u:o_,(∃x,u.cell? g=some x)->u.frozen? g=false->(Sem.store m g v k).runT P u es=k.runT P (u.setCell g v) (es.push ⟨.cell g,true,false⟩))->(Sem.store m g v k).runT P w es=(.ok a (Ju w l),es++II l):=by
   rintro q rfl rfl C r
   obtain⟨s,A,B⟩:=i
   rw[r w s A,p C B]
   simp[Ju,II]
  cases m with
  |atomic=>cases v<;>simp[aQ]at h
  |plain=>
   cases v with
   |int t x=>
    obtain⟨y,n,e⟩:=lT.1 h
    simp only[lQ]at e
    obtain⟨e1,e2⟩:=e
    refine key y.1 e1.symm rfl (by rw[n,<-e2]) λu ⟨z,o⟩ j=>?_
    simp only[Sem.runT,o,j,jb,if_false]
    rfl
   |func f c d=>
    obtain⟨y,n,e⟩:=lT.1 h
    simp only[lQ]at e
    obtain⟨e1,e2⟩:=e
    refine key y.1 e1.symm rfl (by rw[n,<-e2]) λu ⟨z,o⟩ j=>?_
    simp only[Sem.runT,o,j,jb,if_false]
    rfl
   |_=>simp[aQ]at h
 |_=>intro l w h;simp[aQ]at h
def Vb (P:l_)(x:Frame×Z_):d_ (List (f_×n_)):=match XC x with
 |some o=>match aQ P (execOp x.1.eval o)with
  |some (l,.skip)=>if(P.funcs[x.1.fn]?).any (·.norace)then none else some l
  |_=>none
 |none=>none
theorem Xe {main:Bool}{x:Frame×Z_}{l:List (f_×n_)}{w:o_}(h:Vb P x=some l)(m:vM w l):stepG P main (BO x) w=.go (BO (BK x undef)) (Ju w l) (II l):=by
 unfold Vb at h;split at h
 .rename_i o j;split at h
  .rename_i c i;split at h
   .cases h
   .rename_i hq;obtain rfl:=x_ h;obtain⟨d,g⟩:=QX (P:=P) (main:=main) (w:=w) j;show stepG P main (G x.1 x.2) w=_;rw[d];have k:seen P x.1.fn (#[]++II c)=II c:=by
     rw[Array.empty_append]
     exact seen_eq (by simpa using hq) (λe b f=>by
      simp only[II,eu,List.mem_map]at b
      obtain⟨a,_,rfl⟩:=b
      simp)
    simp only[stepG.apply,Ϯ i m #[],if_true,GStep.after,kL,g,jb,if_false,k]
    rfl
  .cases h
 .cases h
end
def ae8:Obj:=.cells #[a_ 0,a_ 0,.nilFunc] 206 (0,0)
def PW (x0 y0:Int)(fn:Fn)(ca cb:X_):n_:=.agg #[a_ x0,a_ y0,.func fn ca cb]
section
variable (P:l_)(q0 q1 q3:Nat)(x:n_)(x0 y0:Int)(fn:Fn)(ca cb:X_)(f:Y_)(Y:Z_)(k:Nat)(p:Int)
def zz0:=run P 9 (a0 P q0 q1 q3 x (PW x0 y0 fn ca cb) f Y)
def zz1:=BK (zz0 P q0 q1 q3 x x0 y0 fn ca cb f Y) (pr k)
def zz2:=run P 5 (BK (zz1 P q0 q1 q3 x x0 y0 fn ca cb f Y k) undef)
def zz3:=run P 11 (BK (zz2 P q0 q1 q3 x x0 y0 fn ca cb f Y k) (.func fn ca cb))
def zz4:=run P 3 (BK (zz3 P q0 q1 q3 x x0 y0 fn ca cb f Y k) (a_ p))
end
structure WB (P:l_)(b5 b2 b3 r q0 q1 q3:Nat)(sa:f_)(n:Int):Prop where
 c1:∀(f:Y_)(Y:Z_)(i:Int)(x:n_)(x0 y0:Int)(fn:Fn)(ca cb:X_),AU P 9 (a0 P q0 q1 q3 x (PW x0 y0 fn ca cb) (AQ f (Fh r (.pointer (some sa)) n i 1 x)) Y)=some []
 c2:∀(f:Y_)(Y:Z_)(i:Int)(x:n_)(x0 y0:Int)(fn:Fn)(ca cb:X_)(w:o_),stepG P false (BO (zz0 P q0 q1 q3 x x0 y0 fn ca cb (AQ f (Fh r (.pointer (some sa)) n i 1 x)) Y)) w=.go (BO (zz1 P q0 q1 q3 x x0 y0 fn ca cb (AQ f (Fh r (.pointer (some sa)) n i 1 x)) Y w.heap.size)) {w with heap:=w.heap.push ae8} #[]
 c3:∀(f:Y_)(Y:Z_)(i:Int)(x:n_)(x0 y0:Int)(fn:Fn)(ca cb:X_)(k:Nat),Vb P (zz1 P q0 q1 q3 x x0 y0 fn ca cb (AQ f (Fh r (.pointer (some sa)) n i 1 x)) Y k)=some [((R_ k),a_ x0),((S_ k 1),a_ y0),((S_ k 2),.func fn ca cb)]
 c4:∀(f:Y_)(Y:Z_)(i:Int)(x:n_)(x0 y0:Int)(fn:Fn)(ca cb:X_)(k:Nat),AU P 5 (BK (zz1 P q0 q1 q3 x x0 y0 fn ca cb (AQ f (Fh r (.pointer (some sa)) n i 1 x)) Y k) undef)=some []
 c5:∀(f:Y_)(Y:Z_)(i:Int)(x:n_)(x0 y0:Int)(fn:Fn)(ca cb:X_)(k:Nat),Eb P (zz2 P q0 q1 q3 x x0 y0 fn ca cb (AQ f (Fh r (.pointer (some sa)) n i 1 x)) Y k) (.func fn ca cb)=some ([(S_ k 2)],.func fn ca cb)
 c6:∀(f:Y_)(Y:Z_)(i:Int)(x:n_)(x0 y0:Int)(fn:Fn)(ca cb:X_)(k:Nat),AU P 11 (BK (zz2 P q0 q1 q3 x x0 y0 fn ca cb (AQ f (Fh r (.pointer (some sa)) n i 1 x)) Y k) (.func fn ca cb))=some []
 c7:∀(f:Y_)(Y:Z_)(i:Int)(x:n_)(x0 y0:Int)(fn:Fn)(ca cb:X_)(k:Nat)(p:Int),Eb P (zz3 P q0 q1 q3 x x0 y0 fn ca cb (AQ f (Fh r (.pointer (some sa)) n i 1 x)) Y k) (a_ p)=some ([sa.add 2],a_ p)
 c8:∀(f:Y_)(Y:Z_)(i:Int)(x:n_)(x0 y0:Int)(fn:Fn)(ca cb:X_)(k:Nat)(p:Int),AU P 3 (BK (zz3 P q0 q1 q3 x x0 y0 fn ca cb (AQ f (Fh r (.pointer (some sa)) n i 1 x)) Y k) (a_ p))=some []
 c9:∀(f:Y_)(Y:Z_)(i:Int)(x:n_)(x0 y0:Int)(fn:Fn)(ca cb:X_)(k:Nat)(p:Int),Vb P (zz4 P q0 q1 q3 x x0 y0 fn ca cb (AQ f (Fh r (.pointer (some sa)) n i 1 x)) Y k p)=some [(sa.add 2,a_ (IntKind.u16.wrap (p-2)))]
 ca:∀(f:Y_)(i:Int)(x:n_)(x0 y0:Int)(fn:Fn)(ca cb:X_)(k:Nat)(p:Int),Ec P (some (257,6)) 34 (BK (zz4 P q0 q1 q3 x x0 y0 fn ca cb (AQ f (Fh r (.pointer (some sa)) n i 1 x)) (VK P b5 b2 b3 r (.pointer (some sa)) n) k p) undef)=some ([r,r],dR P r (TM P b5 b2 b3 r (.pointer (some sa)) n))
theorem yE {a b2 b3 r b q1 c:Nat}{sa:f_}{n:Int}:WB prog a b2 b3 r b q1 c sa n:=by
 constructor<;>intros<;>kernel_rfl
section
variable {P:l_}{b5 b2 b3 r q0 q1 q3:Nat}{sa:f_}{n:Int}{Zl:Nat->Prop}{S0:Nat}{cs:X_}{UB:j_}{p:Int}{pa pb pc pd:n_}
def VV (cs:X_)(UB:j_)(sa:f_)(p:Int):Obj:=.cells (cs.setIfInBounds (sa.off+2) (a_ (IntKind.u16.wrap (p-2)))) UB (0,0)
def Jt (cs:X_)(UB:j_)(sa:f_)(p:Int)(w:o_):Prop:=w.heap[sa.block]?=some (VV cs UB sa p)
theorem Xt (a:Zl sa.block)(w w1:o_)(b:AgL Zl w w1)(h:Jt cs UB sa p w):Jt cs UB sa p w1:=by
 unfold Jt;rw[b _ a];exact h
theorem yx (F:WB P b5 b2 b3 r q0 q1 q3 sa n)(T:Zl sa.block)(U:∀x,S0<=x->Zl x)(X:sa.block<S0)(W:cs[sa.off+2]?=some (a_ p))(f:Y_)(i:Int)(x:n_)(x0 R:Int)(fn:Fn)(ca cb:X_){w:o_}(S:w.heap[sa.block]?=some (N_ cs UB))(V:S0<w.heap.size):
  Ir P r #[pa,pb,pc,pd] 257 Zl (BO (dR P r (TM P b5 b2 b3 r (.pointer (some sa)) n))) (Jt cs UB sa p) 67 (Conc.served (BO (m3 P q0 q1 q3 x (AQ f (Fh r (.pointer (some sa)) n i 1 x)) (VK P b5 b2 b3 r (.pointer (some sa)) n))) (commResult (G5 q1 q3) .select 0 (PW x0 R fn ca cb) true)) w:=by
 have hX:=Xt (Zl:=Zl) (cs:=cs) (UB:=UB) (p:=p) (sa:=sa) T;have g:∀{w1:o_},w1.heap[sa.block]?=some (N_ cs UB)->w1.cell? (sa.add 2)=some (a_ p)/\w1.frozen? (sa.add 2)=false:=fun {w1} h=>by
  constructor
  .simp[World.cell?,Addr.add,h,W]
  .simp[World.frozen?,Addr.add,h]
 have N:∀(k:Nat)(w:o_),Jt cs UB sa p w->Ir P r #[pa,pb,pc,pd] 257 Zl (BO (dR P r (TM P b5 b2 b3 r (.pointer (some sa)) n))) (Jt cs UB sa p) (34+0) (BO (BK (zz4 P q0 q1 q3 x x0 R fn ca cb (AQ f (Fh r (.pointer (some sa)) n i 1 x)) (VK P b5 b2 b3 r (.pointer (some sa)) n) k p) undef)) w:=
  λk w Q=>Ir.Uz hX (n:=0) ⟨rfl,Q⟩ (Gy Hw (F.ca f i x x0 R fn ca cb k p) sJ)
 have M:∀(k:Nat)(w:o_),w.heap[sa.block]?=some (N_ cs UB)->Ir P r #[pa,pb,pc,pd] 257 Zl (BO (dR P r (TM P b5 b2 b3 r (.pointer (some sa)) n))) (Jt cs UB sa p) 35 (BO (zz4 P q0 q1 q3 x x0 R fn ca cb (AQ f (Fh r (.pointer (some sa)) n i 1 x)) (VK P b5 b2 b3 r (.pointer (some sa)) n) k p)) w:=by
  intro k w S
  refine⟨rfl,λw1 d _=>?_⟩
  have b:w1.heap[sa.block]?=some (N_ cs UB):=by rw[d _ T];exact S
  obtain⟨u,c2⟩:=g b
  have j:=(y_.1 b).1
  refine⟨_,_,_,Xe (F.c9 f _ i x x0 R fn ca cb k p) ⟨⟨_,u⟩,c2,dE⟩,λe m=>?_,?_,N k _ ?_⟩
  .simp only[II,List.map_cons,List.map_nil,eu,r_,lG,or_false]at m;subst m;exact⟨_,_,rfl,T,by simpa [Ju,World.setCell,Addr.add]using j⟩
  .refine⟨by simp[Ju,World.setCell],λy v=>?_,rfl,rfl,rfl⟩;have:sa.block≠y:=λe=>v (e ▸ T)
   simp[Ju,World.setCell,Addr.add,iF,this]
  .simp[Jt,VV,Ju,World.setCell,Addr.add,iF,b]
 have L:∀(k:Nat)(w:o_),w.heap[sa.block]?=some (N_ cs UB)->Ir P r #[pa,pb,pc,pd] 257 Zl (BO (dR P r (TM P b5 b2 b3 r (.pointer (some sa)) n))) (Jt cs UB sa p) 39 (BO (zz3 P q0 q1 q3 x x0 R fn ca cb (AQ f (Fh r (.pointer (some sa)) n i 1 x)) (VK P b5 b2 b3 r (.pointer (some sa)) n) k)) w:=by
  intro k w S
  refine⟨rfl,λw1 d _=>?_⟩
  have b:w1.heap[sa.block]?=some (N_ cs UB):=by rw[d _ T];exact S
  obtain⟨u,c2⟩:=g b
  have j:=(y_.1 b).1
  have D:=RW.at (main:=false) (K:=λw=>w=w1) (Still:=λl=>l=.cell (sa.add 2)) (F.c7 f (VK P b5 b2 b3 r (.pointer (some sa)) n) i x x0 R fn ca cb k p) (λw S=>by rw[S];exact u) rfl
  obtain⟨_,C,O,A,z,e⟩:=D
  have B:C=BO (BK (zz3 P q0 q1 q3 x x0 R fn ca cb (AQ f (Fh r (.pointer (some sa)) n i 1 x)) (VK P b5 b2 b3 r (.pointer (some sa)) n) k) (a_ p)):=e
  subst B
  refine⟨_,_,_,z w1 rfl,λe m=>?_,CS.refl w1,Ir.Uz hX (n:=35) (M k w1 b) (DT (F.c8 f _ i x x0 R fn ca cb k p))⟩
  obtain⟨a,rfl,c⟩:=A e m
  injection c with c
  subst c
  exact⟨_,_,rfl,T,j⟩
 have J:∀(k:Nat)(w:o_),S0<=k->w.heap[sa.block]?=some (N_ cs UB)->w.heap[k]?=some (N_ #[a_ x0,a_ R,.func fn ca cb] 206)->Ir P r #[pa,pb,pc,pd] 257 Zl (BO (dR P r (TM P b5 b2 b3 r (.pointer (some sa)) n))) (Jt cs UB sa p) 51 (BO (zz2 P q0 q1 q3 x x0 R fn ca cb (AQ f (Fh r (.pointer (some sa)) n i 1 x)) (VK P b5 b2 b3 r (.pointer (some sa)) n) k)) w:=by
  intro k w q S s
  refine⟨rfl,λw1 d _=>?_⟩
  have b:w1.heap[sa.block]?=some (N_ cs UB):=by rw[d _ T];exact S
  have t:w1.heap[k]?=some (N_ #[a_ x0,a_ R,.func fn ca cb] 206):=by rw[d _ (U k q)];exact s
  have o:=(y_.1 t).1
  have u:w1.cell? (S_ k 2)=some (.func fn ca cb):=by simp[World.cell?,t]
  have D:=RW.at (main:=false) (K:=λw=>w=w1) (Still:=λl=>l=.cell (S_ k 2)) (F.c5 f (VK P b5 b2 b3 r (.pointer (some sa)) n) i x x0 R fn ca cb k) (λw S=>by rw[S];exact u) rfl
  obtain⟨_,C,O,A,z,e⟩:=D
  have B:C=BO (BK (zz2 P q0 q1 q3 x x0 R fn ca cb (AQ f (Fh r (.pointer (some sa)) n i 1 x)) (VK P b5 b2 b3 r (.pointer (some sa)) n) k) (.func fn ca cb)):=e
  subst B
  refine⟨_,_,_,z w1 rfl,λe m=>?_,CS.refl w1,Ir.Uz hX (n:=39) (L k w1 b) (DT (F.c6 f _ i x x0 R fn ca cb k))⟩
  obtain⟨a,rfl,c⟩:=A e m
  injection c with c
  subst c
  exact⟨_,_,rfl,U k q,o⟩
 have I:∀(k:Nat)(w:o_),S0<=k->w.heap[sa.block]?=some (N_ cs UB)->w.heap[k]?=some ae8->Ir P r #[pa,pb,pc,pd] 257 Zl (BO (dR P r (TM P b5 b2 b3 r (.pointer (some sa)) n))) (Jt cs UB sa p) 57 (BO (zz1 P q0 q1 q3 x x0 R fn ca cb (AQ f (Fh r (.pointer (some sa)) n i 1 x)) (VK P b5 b2 b3 r (.pointer (some sa)) n) k)) w:=by
  intro k w q S s
  refine⟨rfl,λw1 d _=>?_⟩
  have b:w1.heap[sa.block]?=some (N_ cs UB):=by rw[d _ T];exact S
  have t:w1.heap[k]?=some ae8:=by rw[d _ (U k q)];exact s
  have o:=(y_.1 t).1
  have E:k≠sa.block:=wB
  refine⟨_,_,_,Xe (F.c3 f _ i x x0 R fn ca cb k) ?_,λe m=>?_,?_,Ir.Uz hX (n:=51) (J k _ q ?_ ?_) (DT (F.c4 f _ i x x0 R fn ca cb k))⟩
  .refine⟨⟨a_ 0,?_⟩,?_,⟨a_ 0,?_⟩,?_,⟨.nilFunc,?_⟩,?_,dE⟩<;>simp[World.cell?,World.frozen?,World.setCell,iF,t,ae8]
  .simp only[II,List.map_cons,List.map_nil,eu,r_,lG,or_false]at m;obtain rfl|rfl|rfl:=m<;>exact⟨_,_,rfl,U k q,by simpa [Ju,World.setCell]using o⟩
  .refine⟨by simp[Ju,World.setCell],λy v=>?_,rfl,rfl,rfl⟩;have:k≠y:=λe=>v (e ▸ U k q)
   simp[Ju,World.setCell,iF,this]
  .simp[Ju,World.setCell,iF,E,b]
  .simp[Ju,World.setCell,iF,t,ae8]
 have H:Ir P r #[pa,pb,pc,pd] 257 Zl (BO (dR P r (TM P b5 b2 b3 r (.pointer (some sa)) n))) (Jt cs UB sa p) 58 (BO (zz0 P q0 q1 q3 x x0 R fn ca cb (AQ f (Fh r (.pointer (some sa)) n i 1 x)) (VK P b5 b2 b3 r (.pointer (some sa)) n))) w:=by
  refine⟨rfl,λw1 d _=>?_⟩
  have b:w1.heap[sa.block]?=some (N_ cs UB):=by rw[d _ T];exact S
  have G:S0<=w1.heap.size:=by
   have e1:=d S0 (U S0 w_)
   rw[v_ V]at e1
   exact Nat.le_of_lt (y_.1 e1).1
  refine⟨_,_,_,F.c2 f _ i x x0 R fn ca cb w1,sJ,?_,I w1.heap.size _ G ?_ ?_⟩
  .refine⟨sJ,λy v=>?_,rfl,rfl,rfl⟩;have:y≠w1.heap.size:=λe=>v (U y wB)
   simp only[Array.getElem?_push,this,if_false]
  .have:=(y_.1 b).1;simp only[Array.getElem?_push];rw[ru wB];exact b
  .simp
 rw[Uk];exact Ir.Uz hX (n:=58) H (DT (F.c1 f _ i x x0 R fn ca cb))
end
end Go.Fxa
namespace Go.Fxa
open Go.Conc
open Go.ConcN (sumTo upd sumTo_upd upd_ne upd_same)
variable {m q kq pb B:Nat}{z told:n_}{gS:m_}{Z0:Nat->Prop}{Sh St:Loc->Prop}{Ph:Bool->Nat->m_->o_->Trace->Prop}{X J:o_->Prop}{k:List Item}{Od:Old}{gs:Array m_}{t:Trace}{Q:X_->o_->Prop}{EH:h_}{kd:CallKind}{ds:List Deferred}{c:Code}{tmps:X_}{cs:Z_}{C:m_->o_->Prop}{f fc:Nat->n_}{x:Frame×Z_}{i:Int}{v:o_}{ob:Obj}
theorem I9 {a b cc:CommCase}(h:(#[a,b]:Array CommCase)[m]?=some cc):(m=0/\cc=a)\/(m=1/\cc=b):=by
 match m,h with
 |0,h=>simp at h;exact .inl ⟨rfl,h.symm⟩
 |1,h=>simp at h;exact .inr ⟨rfl,h.symm⟩
 |m+2,h=>simp at h
structure Env (Z:Nat->Prop)(Ad:Loc->Prop)(s:J8)(c:Nat):Prop where
 Lu:∀x,s.own x->Z x
 under:Gx Ad Z
 ofw:∀l,LY s.r s.pre l->Ad l
 ss:∀l,s.Still l->¬Ad l
 ok:s.Ok
 c0:c≠0
def ByK (P:l_)(s:J8)(c:Nat)(gS:m_):Nat->m_->o_->Trace->Prop:=O0 P true s.KW s.KS (KI c s.r s.pre) s.Still (O9 s.q0 s.q2) .select (·=gS)
def rQ (P:l_)(s:J8)(c:Nat)(gC:m_):Nat->m_->o_->Trace->Prop:=O0 P (c==0) s.KW s.KS (KI c s.r s.pre) s.Still (G5 s.q1 s.q3) .select (·=gC)
def Fz (P:l_)(s:J8):SY:=outs P s.r (TM P s.b5 s.b2 s.b3 s.r s.sv s.n)
def ByX (P:l_)(s:J8)(c:Nat)(Ph:Bool->Nat->m_->o_->Trace->Prop)(X:o_->Prop)(k:Nat)(n:Nat)(g:m_)(w:o_)(t:Trace):Prop:=CO P c s.r s.pre 257 (Fz P s) Ph X false n g w t/\(w.heap[s.q3]?=some (.chan 0 #[] false k k false)/\s.cells w)
def ByT (P:l_)(s:J8)(c k:Nat):Nat->m_->o_->Trace->Prop:=ByX P s c cf8 (λ_=>True) k
def I8 (c g:Nat):Prop:=g=0\/g=c
section
variable {P:l_}{Z:Nat->Prop}{Ad:Loc->Prop}{s:J8}{c:Nat}
theorem Env.w (E:Env Z Ad s c):∀l,LY s.r s.pre l->Ad l/\¬s.Still l:=λl h=>⟨E.ofw l h,Wl h⟩
theorem bt5:s.chs s.q0:=.inl rfl
theorem ae7:s.chs s.q1:=.inr (.inl rfl)
theorem ay2:s.chs s.q2:=.inr (.inr (.inl rfl))
theorem aW:s.chs s.q3:=.inr (.inr (.inr rfl))
theorem Env.zq (E:Env Z Ad s c)(h:s.chs q):Z q:=E.Lu q (by obtain e|e|e|e:=h<;>simp[J8.own,e])
theorem Nj {w:o_}(h:s.Open w)(hq:s.chs q):GG w (rcase q z):=by
 obtain⟨k,e⟩:=h q hq;exact⟨q,z,k,rfl,e⟩
theorem zY {w:o_}(h:s.KS w):∀cc∈O9 s.q0 s.q2,GG w cc:=by
 intro cc a;simp only[O9,eu,r_,lG,or_false]at a;obtain rfl|rfl:=a
 .exact Nj h.2.2 bt5
 .exact Nj h.2.2 ay2
theorem ap9 {w:o_}(h:s.KS w):∀cc∈G5 s.q1 s.q3,GG w cc:=by
 intro cc a;simp only[G5,eu,r_,lG,or_false]at a;obtain rfl|rfl:=a
 .exact Nj h.2.2 ae7
 .exact Nj h.2.2 aW
theorem bq5 (E:Env Z Ad s c):∀cc∈O9 s.q0 s.q2,∃q z,cc=rcase q z/\Z q:=by
 intro cc a;simp only[O9,eu,r_,lG,or_false]at a;obtain rfl|rfl:=a
 .exact⟨_,_,rfl,E.zq bt5⟩
 .exact⟨_,_,rfl,E.zq ay2⟩
theorem yR (E:Env Z Ad s c):∀cc∈G5 s.q1 s.q3,∃q z,cc=rcase q z/\Z q:=by
 intro cc a;simp only[G5,eu,r_,lG,or_false]at a;obtain rfl|rfl:=a
 .exact⟨_,_,rfl,E.zq ae7⟩
 .exact⟨_,_,rfl,E.zq aW⟩
theorem Ϭ {c a:Nat}{b:n_}(h:rcase c z=rcase a b):c=a:=by simp[rcase]at h;exact h.1
theorem aw6 {cs:Array CommCase}(h:∀cc∈cs,∃q z,cc=rcase q z/\Z q):∀cc∈cs,∀c z,cc=rcase c z->Z c:=λcc b c z e=>by
 obtain⟨q,f,a,d⟩:=h cc b;rw[e]at a;rw[Ϭ a];exact d
theorem vg (E:Env Z Ad s c):G8 P Z Ad s.Still (λB t=>PX Ad s.Still (I8 c) (λg=>g=0) B c t) 0 (ByK P s c gS):=
 X0 (Ov E.Lu) (λ_ h=>h.PT) (J4 E.w E.ss) (aw6 (bq5 E)) (.inl rfl) rfl
theorem YJ {gC:m_}(E:Env Z Ad s c):G8 P Z Ad s.Still (λB t=>PX Ad s.Still (I8 c) (λg=>g=c) B 0 t) c (rQ P s c gC):=
 X0 (Ov E.Lu) (λ_ h=>h.PT) (J4 E.w E.ss) (aw6 (yR E)) (.inr rfl) rfl
theorem ve {Z':Nat->Prop}{k:Nat}(y:∀r E D,PM P r E D)(j:s.Ok)(n:c≠0)(H:Ny P Z0 Sh St (fun g=>g=c) c s.r s.pre 257 (Fz P s) Ph X)(p:Z0 s.r)(A:∀x,Z0 x->Z' x)(u:∀l,LY s.r s.pre l->Sh l/\¬St l)(o:∀x,s.own x->Z' x)(hq:∀x,s.own x->x≠s.r->¬Z0 x):
  G8 P Z' Sh St (λB t=>PX Sh St (λg=>g=0) (λg=>g=c) B 0 t) c (ByX P s c Ph X k):=
 yf H (Yg (y _ _ _)) p u n n A λw i h e=>by
  have a:s.own s.q3:=by simp[J8.own]
  refine⟨by rw[e _ (hq _ a (j.bq _ (.inr (.inr (.inr rfl)))).2.2.2) (o _ a)];exact h.1,h.2.keep λx d=>?_⟩
  have b:s.own x:=by obtain e|e|e:=d<;>simp[J8.own,e]
  have f:x≠s.r:=by obtain e|e|e:=d<;>subst e<;>first|exact j.br.2.2|exact j.br.1|exact j.br.2.1
  exact e x (hq x b f) (o x b)
theorem co0 {k:Nat}(H:Ny P Z0 Sh St (λg=>g=c) c s.r s.pre 257 (Fz P s) Ph X)(n:Nat)(b:m_)(w:o_)(t:Trace)(h:ByX P s c Ph X k n b w t)(d:Nat):s.KW (w.at d):=by
 obtain⟨f,e,a⟩:=Zj H h.1;exact⟨⟨f,e,a⟩,h.2.2⟩
theorem al6 {k:Nat}(b:∀r e d,PM P r e d)(E:Env Z Ad s c):G8 P Z Ad s.Still (λB t=>PX Ad s.Still (λg=>g=0) (λg=>g=c) B 0 t) c (ByT P s c k):=
 ve (Z0:=λx=>x=s.r) b E.ok E.c0 bo3 rfl (λx a=>E.Lu _ (by rw[a];simp[J8.own])) E.w E.Lu (λ_ _ h=>h)
theorem zo (n:Nat)(b:m_)(w:o_)(t:Trace)(h:ByK P s c gS n b w t)(d:Nat):s.KW (w.at d):=(h.1.1:s.KS w).PT
theorem bp4 {gC:m_}(n:Nat)(b:m_)(w:o_)(t:Trace)(h:rQ P s c gC n b w t)(d:Nat):s.KW (w.at d):=(h.1.1:s.KS w).PT
theorem xQ (E:Env Z Ad s c)(x:n_):zA P Z Ad s.Still (I8 c) c 0 s.KW s.KS (KI c s.r s.pre) (O9 s.q0 s.q2) (mM s.q0 s.q3 x) 0 0 s.q0 x (a_ 0) (a_ 0) where
 leans:=Ov E.Lu
 PT:=λ_ h=>h.PT
 lasts:=J4 E.w E.ss
 meets:={
  hkh:=rfl
  hoh:=λm b a h=>by
   obtain⟨e,_⟩|⟨_,rfl⟩:=I9 h
   .exact(a e).elim
   .exact⟨_,_,rfl,E.ok.qq.2.2.1.symm,E.zq aW⟩
  hkj:=rfl
  hoj:=λm b a h=>by
   obtain⟨e,_⟩|⟨_,rfl⟩:=I9 h
   .exact(a e).elim
   .simp[rcase,E.ok.qq.2.1.symm]
  hrj:=bq5 E}
 ϑ:=.inr rfl
 ϐ:=.inl rfl
 opens:=λw h m b a f=>by
  obtain⟨e,_⟩|⟨_,rfl⟩:=I9 f
  .exact(a e).elim
  .exact Nj h.2.2 aW
 keeps:=λ_ d k h=>h.chan E.ok bt5 d k
theorem aa9 (E:Env Z Ad s c)(o:Int):zA P Z Ad s.Still (I8 c) c 0 s.KW s.KS (KI c s.r s.pre) (O9 s.q0 s.q2) (iI s.q2 s.q3 o) 0 1 s.q2 (b_ o) (b_ 0) (b_ 0) where
 leans:=Ov E.Lu
 PT:=λ_ h=>h.PT
 lasts:=J4 E.w E.ss
 meets:={
  hkh:=rfl
  hoh:=λm b a h=>by
   obtain⟨e,_⟩|⟨_,rfl⟩:=I9 h
   .exact(a e).elim
   .exact⟨_,_,rfl,E.ok.qq.2.2.2.2.2.symm,E.zq aW⟩
  hkj:=rfl
  hoj:=λm b a h=>by
   obtain⟨_,rfl⟩|⟨e,_⟩:=I9 h
   .simp[rcase,E.ok.qq.2.1]
   .exact(a e).elim
  hrj:=bq5 E}
 ϑ:=.inr rfl
 ϐ:=.inl rfl
 opens:=λw h m b a f=>by
  obtain⟨e,_⟩|⟨_,rfl⟩:=I9 f
  .exact(a e).elim
  .exact Nj h.2.2 aW
 keeps:=λ_ d k h=>h.chan E.ok ay2 d k
theorem VD (E:Env Z Ad s c)(A:n_):zA P Z Ad s.Still (I8 c) 0 c s.KW s.KS (KI c s.r s.pre) (G5 s.q1 s.q3) (lU s.q1 A) 0 0 s.q1 A (.tuple #[]) sH where
 leans:=Ov E.Lu
 PT:=λ_ h=>h.PT
 lasts:=J4 E.w E.ss
 meets:={
  hkh:=rfl
  hoh:=λm b a h=>by
   match m,h with
   |0,_=>exact(a rfl).elim
   |m+1,h=>simp[lU]at h
  hkj:=rfl
  hoj:=λm b a h=>by
   obtain⟨e,_⟩|⟨_,rfl⟩:=I9 h
   .exact(a e).elim
   .simp[rcase,E.ok.qq.2.2.2.2.1.symm]
  hrj:=yR E}
 ϑ:=.inl rfl
 ϐ:=.inr rfl
 opens:=λw h m b a f=>by
  match m,f with
  |0,_=>exact(a rfl).elim
  |m+1,h=>simp[lU]at h
 keeps:=λ_ d k h=>h.chan E.ok ae7 d k
theorem cZ.last {w:o_}{sl:d_ (W_)}{a:m_}{k:Nat}(o:Int)(E:Env Z Ad s c)(V:a.status=.running)(W:∀w,stepG P (c==0) a w=.comm a (iI s.q2 s.q3 o) true .select w #[])
  (R:Ls P (DD s.r s.pre 257) false k (Conc.served a (commResult (iI s.q2 s.q3 o) .select 0 undef false)) (Fz P s).gR)
  (H:cZ Od P Z Ad s.Still (I8 c) (λg=>g=0) c 0 (ByK P s c gS) (λg v=>g=a/\J v) gs w t):
  AX P gs w sl t λS w' U=>∃kq,cZ Od P Z Ad s.Still (λg=>g=0) (λg=>g=c) 0 c (ByT P s c kq) (λg v=>g=Conc.served gS (commResult (O9 s.q0 s.q2) .select 1 (b_ o) true)/\J v) S w' U:=by
 have M:=aa9 (P:=P) E o;obtain⟨q,n,B,g,v0,j,⟨rfl,l⟩,T,y,D⟩:=H;obtain⟨b,hb,m⟩:=D.idle;have υ:s.KS w:=m.1.1;refine(Zc (Am:=λg=>g=0) M.leans M.PT M.lasts M.meets M.ϑ M.ϐ rfl (es:=#[]) (n+sumTo gs.size q+1) n gs g w sl t q B wB j V D (M.opens w υ) (λd=>W (w.at d)) sJ).bind λS w' L U K A=>?_
 obtain⟨I,x,d,h,m1,m2,m3,N,O,rfl,F,G,z,u,_⟩:=A;have off:CS Z w ((w.at d).setChan s.q2 0 #[] false (h+1) (h+1) false):=Nk (E.zq ay2) w d (h+1) false;have e:s.KS ((w.at d).setChan s.q2 0 #[] false (h+1) (h+1) false):=M.keeps w d (h+1) υ;obtain⟨kq,p⟩:=e.2.2 s.q3 aW;refine .now ⟨kq,I,_,B,_,v0,m2,⟨by rw[m3];rfl,l⟩,T.off y off,y,⟨D.ne.symm,.inl rfl,λg f=>.inl f,⟨_,m1,.inr ⟨⟨u,.inl ⟨k,rfl,R,e.1,?_⟩⟩,dE⟩,p,e.2.1⟩,λi g j l C=>F i g l j C,G,?_,?_⟩⟩
 .exact z.hears c (.inr rfl)
 .exact(z.fewer (Me:=λg=>g=0) λg f=>.inl f).loosen (λg f=>(f.2 f.1).elim)
 .rw[JI];exact D.size
end
structure Ff (P:l_):Prop where
 F7:Vo P
 child:∀(b5 b2 b3 r q0 q1 q2 q3:Nat)(sv:n_)(n:Int),Eu P b5 b2 b3 r q0 q1 q2 q3 sv n
 ans:∀(r q0 q1 q3:Nat)(sv:n_)(n:Int),Vp P r q0 q1 q3 sv n
 done:∀(r:Nat)(tm:X_)(td:List Item),PM P r tm td
 add:∀(r:Nat)(c:Frame)(Y:Z_),Zm P r c Y
 wait:∀(r:Nat)(c:Frame)(Y:Z_),SG P r c Y
 mixed:P.follows .mixedOrders=true
 blk:oU P
 back:∀(b5 b2 b3 r q0 q1 q3:Nat)(sa:f_)(n:Int),WB P b5 b2 b3 r q0 q1 q3 sa n
def gC (P:l_)(s:J8)(f:Y_)(i:Int)(x:n_):m_:=BO (m3 P s.q0 s.q1 s.q3 x (AQ f (Fh s.r s.sv s.n i 1 x)) (VK P s.b5 s.b2 s.b3 s.r s.sv s.n))
def VW (P:l_)(s:J8)(f:Y_)(td:List Item)(told:n_)(c0:Frame)(cs:Z_):Frame×Z_:=sR P (ϖ (AQ f [(6,told)]) td::c0::cs) s.r
theorem V9 {s:J8}(x:Nat):¬s.Still (.obj x):=by
 intro h;obtain e|e|e|e|e|e|e:=h<;>cases e
section
variable {P:l_}{Z:Nat->Prop}{Ad:Loc->Prop}{s:J8}{c:Nat}{gs:Array m_}{w:o_}{sl:d_ (W_)}{t:Trace}{J:o_->Prop}{f fc:Nat->n_}{i:Int}{x told:n_}{td:List Item}{c0:Frame}{cs:Z_}
theorem cj3 (A:Ff P)(a:m_)(h:a=gC P s fc i x):Ho P false s.KW s.Still (G5 s.q1 s.q3) .select (·=gC P s fc i x) 0 { parked a (G5 s.q1 s.q3) .select with status:=.running}:=by
 subst h;refine⟨gC P s fc i x,#[],rfl,rfl,sJ,λw _=>?_⟩;exact I5 ((A.child s.b5 s.b2 s.b3 s.r s.q0 s.q1 s.q2 s.q3 s.sv s.n).m16 fc _ i x) w
theorem ao6 (A:Ff P)(a:m_)(h:a=gC P s fc i x):Ls P (DD s.r s.pre 257) false 37 (Conc.served a (commResult (G5 s.q1 s.q3) .select 1 (.agg #[]) false)) (Fz P s).gR:=by
 subst h;exact qQ (A.child s.b5 s.b2 s.b3 s.r s.q0 s.q1 s.q2 s.q3 s.sv s.n) fc i x
theorem au2 (O:s.Ok):∀(m:Nat) cc,m≠1->(G5 s.q1 s.q3)[m]?=some cc->cc.chan≠.chan (some s.q3):=λm cc a h=>by
 obtain⟨_,rfl⟩|⟨e,_⟩:=I9 h
 .simp[rcase,O.qq.2.2.2.2.1]
 .exact(a e).elim
def mX (P:l_)(Z:Nat->Prop)(Ad:Loc->Prop)(X:o_->Prop)(c0:Frame)(cs:Z_)(told:n_)(w:o_)(BA:Array m_)(w':o_)(t':Trace):Prop:=
 ∃q' B',BA[0]?=some (G (c0.finish told) cs)/\CS Z w w'/\Leavers P t' BA q'/\Past Ad B' t'/\w'.heap.size<=B'/\X w'
theorem mX.off {Z:Nat->Prop}{Ad:Loc->Prop}{w1:o_}{g:Array m_}{w':o_}{j:Trace}(l:CS Z w w1)(h:mX P Z Ad X c0 cs told w1 g w' j):mX P Z Ad X c0 cs told w g w' j:=by
 obtain⟨e,a,b,c,d⟩:=h;exact⟨e,a,b,l.trans c,d⟩
theorem TG (A:Ff P)(T:Ny P Z Sh St (fun g=>g=c) c s.r s.pre 257 (Fz P s) Ph X)(R:∀l,Sh l->¬St l->Ad l)(V:Z s.r)(U:∀l,LY s.r s.pre l->Sh l/\¬St l)(S:c≠0)(hX:∀w d,X w->X (w.at d))
  {n B:Nat} {q:Nat->Nat} (W:gs[0]?=some (BO (sD P (ϖ (AQ f [(6,told)]) td::c0::cs) s.r s.q3)))
  (D:Duo P Sh St (λg=>g=0) (λg=>g=c) B 0 c (CO P c s.r s.pre 257 (Fz P s) Ph X false) n gs w t q):
  AX P gs w sl t (mX P Z Ad X c0 cs told w):=by
 have i:G8 P Z Sh St (λB t=>PX Sh St (λg=>g=0) (λg=>g=c) B 0 t) c (CO P c s.r s.pre 257 (Fz P s) Ph X false):=PE T (Yg (A.done _ _ _)) V U S S;refine(Ie (J:=λ_=>True) (λ_ _ _ _ _ _=>trivial) i 6 (DT (A.F7.sDa _ _ _)) W D).bind λo w1 I N _ ⟨q1,L,H,a,E,_,e⟩=>?_
 rw[A.F7.sDb]at a;refine(join T R (Yg (A.done _ _ _)) (az0 (A.wait _ _ _)) V U S a e).bind λp w2 G O _ ⟨M,b,v,F,_,h,j,k,m⟩=>?_
 refine(KP Qg _ (Jd (K:=λ_=>True) (A.F7.end_ _ _ _ _ _ _ _)) (λ_=>trivial) v h j).mono λu w3 Q ⟨Y,d,x,y,z,C⟩=>?_
 subst y;exact⟨Y,b,x,(E.trans F).trans (CS.at w2 d),z,C,k,hX w2 d m⟩
theorem qM (A:Ff P)(E:Env Z Ad s c)(H:cZ Od P Z Ad s.Still (I8 c) (fun g=>g=c) 0 c (rQ P s c (gC P s fc i x)) (fun g v=>g=BO (VW P s f td told c0 cs)/\J v) gs w t):
  AX P gs w sl t λY w' t'=>∃v B,J v/\Y[0]?=some (G (c0.finish told) cs)/\Y7 Od P Ad Z B v Y w' t':=by
 refine(H.walk (sl:=sl) bp4 (λw a h z=>JH h z) E.ss (YJ E) (RW.at (A.F7.sRa _ _ s.q3) (λw h=>let ⟨_,_,b⟩:=h.1;(KQ b).2.2.2) (OW (s:=s)).t3)).bind λp w1 R W _ m=>?_
 obtain⟨q1,S,O,g,v,u,⟨rfl,y⟩,T,e,D⟩:=m;have b:Z s.r:=E.Lu _ (by simp[J8.own]);refine(yg (Am:=λg=>g=c) (home:=(·=gC P s fc i x)) (o:=Fz P s) (kR:=37) (zq:=.agg #[]) (Ov E.Lu) (λ_ h=>h.PT) (J4 E.w E.ss) E.c0 V9 (aw6 (yR E)) rfl (λ_ h=>h) (λ_ h=>h.1) (λ_ k h=>h.shut E.ok k) (E.ok.bq _ aW).2.2.2.symm rfl (au2 E.ok) (cj3 A) (A.F7.sCw _ _ _) rfl rfl (λw1 k _ hq d=>ZU (A.F7.sCa _ _ _) hq) u D).bind λq w2 N X _ ⟨V,U,Q,k1,k2,_,l⟩=>?_
 refine(TG (Ad:=Ad) A (bb8 (bh5 E.Lu) (aw6 (yR E)) b E.w E.c0 rfl (ao6 A) λw n d h=>h.set E.ok n d) (λ_ h _=>h) b E.w E.c0 (λ_ _ h=>h) k1 l).mono λY w' t' ⟨M,j,C,F,I,K,L,_⟩=>?_
 exact⟨v,j,y,C,M,(T.off e k2).off e F,e,I,K,L⟩
theorem ZT (A:Ff P)(W:s.Ok)(V:c≠0)(H:Ny P Z0 Sh St (fun g=>g=c) c s.r s.pre 257 (Fz P s) Ph X)(N:Z0 s.r)(O:∀x,Z0 x->Z x)(U:∀l,LY s.r s.pre l->Sh l/\¬St l)(Y:∀x,s.own x->Z x)(hq:∀x,s.own x->x≠s.r->¬Z0 x)
  (S:∀l,s.Still l->¬Sh l) (T:∀x,¬St (.obj x)) (R:∀l,Sh l->¬St l->Ad l) (hX:∀w d,X w->X (w.at d)) {n B:Nat} {q:Nat->Nat} (h0:gs[0]?=some (BO (VW P s f td told c0 cs))) (D:Duo P Sh St (λg=>g=0) (λg=>g=c) B 0 c (ByX P s c Ph X kq) n gs w t q):
  AX P gs w sl t (mX P Z Ad X c0 cs told w):=by
 have e:=ve (k:=kq) A.done W V H N O U Y hq;refine(uo (S0:=s.Still) (co0 H) (λw a h O=>JH h O) S e 1 (RW.at (A.F7.sRa _ _ s.q3) (λw h=>let ⟨_,_,hr⟩:=h.1;(KQ hr).2.2.2) (OW (s:=s)).t3) h0 D).bind λm w1 E K _ ⟨q1,F,y,p,u,_,i⟩=>?_
 have b:s.own s.q3:=by simp[J8.own]
 refine(ac2 (Z:=Z) (X2:=λw=>w.heap[s.q3]?=some (.chan 0 #[] false kq kq false)/\s.cells w) H (Yg (A.done _ _ _)) N U V T (Y _ b) (hq _ b (W.bq _ aW).2.2.2) rfl (λ_ h=>h.1) (λw1 hq d=>ZU (A.F7.sCa _ _ _) hq) p e i).bind λo w2 v L _ ⟨I,G,z,k1,k2,_,j⟩=>?_
 exact(TG (Ad:=Ad) A (H.sub O) R (O _ N) U V hX k1 j).mono λC M J h=>(h.off k2).off u
theorem Xo (A:Ff P)(E:Env Z Ad s c)(H:cZ Od P Z Ad s.Still (fun g=>g=0) (fun g=>g=c) 0 c (ByT P s c kq) (fun g v=>g=BO (VW P s f td told c0 cs)/\J v) gs w t):
  AX P gs w sl t λu w' y=>∃v B,J v/\u[0]?=some (G (c0.finish told) cs)/\Y7 Od P Ad Z B v u w' y:=by
 obtain⟨q1,q,p,g,v,d,⟨rfl,e⟩,T,a,D⟩:=H;refine(ZT (Z0:=λx=>x=s.r) (Ad:=Ad) A E.ok E.c0 bo3 rfl (λx i=>E.Lu _ (by rw[i];simp[J8.own])) E.w E.Lu (λ_ _ h=>h) E.ss V9 (λ_ h _=>h) (λ_ _ h=>h) d D).mono λu w' y ⟨o,b,j,k,l,m,n,_⟩=>?_
 exact⟨v,b,e,j,o,T.off a k,a,l,m,n⟩
end
structure Yl (P:l_)(L:h_->Prop)(p:h_->Oper->Bool)(N:Fence)(host:h_):Prop where
 fenced:V4 P L p N
 QM:dW L N host
 seen:∀f,(f=56\/f=93\/f=97\/f=136\/f=187)->∀es,seen P f es=seen P host es
 ops:∀c,c∈[R2 P,R3 P,S0 P,S1 P,R10 P,R11 P,R15 P,R16 P,A0 P,R21 P,XA P,aX P,R12 P]->c.AP (p host)=true
def Ends (Q:X_->o_->Prop)(e:Exit)(a:Act)(w:o_):Prop:=e=.normal/\a.defers=[]/\Q a.tmps w
def SX (Q:X_->o_->Prop)(e:Exit)(a:Act)(w:o_):Prop:=e=.ret/\a.defers=[]/\Q a.tmps w
def XQ (kv:n_)(pa:f_)(told:n_)(r:Nat)(x:n_)(bA:Nat):List (Nat×n_):=[(0,kv),(1,pv pa),(7,told),(8,pr r),(9,x),(10,pr bA)]
def slG (kv:n_)(pa:f_)(told:n_)(r bA:Nat)(b:Bool):List (Nat×n_):=[(0,kv),(1,pv pa),(7,told),(8,pr r),(10,pr bA),(59,.bool b)]
def VM (pa:f_):n_:=.pointer (some (pa.add 5))
def IG (v v':o_):Prop:=v.heap.size<=v'.heap.size/\(∀x,x<v.heap.size->v'.heap[x]?=v.heap[x]?)/\v'.os=v.os/\v'.output=v.output
def θ (pa:f_)(cs:X_)(ty:j_)(p:Int)(v v':o_):Prop:=
 v.heap.size<=v'.heap.size/\(∀x,x<v.heap.size->x≠pa.block->v'.heap[x]?=v.heap[x]?)/\v'.heap[pa.block]?=some (VV cs ty (pa.add 5) p)/\v'.os=v.os/\v'.output=v.output
structure Tq (P:l_)(N:Fence)(m:Nat)(kv:n_)(pa:f_)(n:Int) where
 I:Int->n_->o_->Prop
 Cd:Int->n_->n_->o_->Prop
 Bd:n_->o_->Prop
 D:Int->n_->n_->Nat->o_->Prop
 E0:Int->n_->Nat->o_->Prop
 E:Int->n_->Nat->o_->Prop
 An:Int->n_->n_->o_->Prop
 Fin:n_->o_->Prop
 Dn:Int->n_->n_->Nat->o_->Prop
 Db:Int->n_->n_->Nat->o_->Prop
 Bc:Int->n_->Nat->o_->Prop
 Bl:Int->n_->o_->Prop
 tDn:∀i told x b,Dw (Dn i told x b)
 tDb:∀i told x b,Dw (Db i told x b)
 tBc:∀i told b,Dw (Bc i told b)
 tBl:∀i told,Dw (Bl i told)
 tI:∀i told,Dw (I i told)
 tC:∀i told x,Dw (Cd i told x)
 tB:∀told,Dw (Bd told)
 tD:∀i told x b,Dw (D i told x b)
 tE0:∀i told b,Dw (E0 i told b)
 tE:∀i told b,Dw (E i told b)
 tA:∀i told A,Dw (An i told A)
 tF:∀told,Dw (Fin told)
 step:∀(r:Nat)(i:Int)(told:n_)(v:o_)(f:Y_),I i told v->0<=i->i<n->∀τ d,(XA P).wpIn N m P (Ends λtm w'=>∃f' oc x,tm=yP (AQ f' (Fh r (VM pa) n i oc x))/\((oc=0/\I (i+1) told w')\/(oc=1/\Cd i told x w')\/(oc=2/\Bd told w'))) ⟨yP (AQ f (Ob r (VM pa) n i)),[]⟩ (v.re τ d)
 serve:∀(r:Nat)(i:Int)(told x:n_)(v:o_)(f:Y_),Cd i told x v->∀τ d,(R10 P).wpIn N m P (Ends λtm w'=>∃f' bA,tm=TN 76 (AQ f' (XQ kv pa told r x bA))/\D i told x bA w') ⟨TN 76 (AQ f (slX kv pa told r x)),[]⟩ (v.re τ d)
 asked:∀(r:Nat)(i:Int)(told x:n_)(bA:Nat)(v:o_)(f:Y_),D i told x bA v->∀τ d,(R11 P).wpIn N m P (Ends λtm w'=>∃f' b,tm=TN 76 (AQ (AQ f' (XQ kv pa told r x bA)) [(39,.bool b)])/\((b=false/\Dn i told x bA w')\/(b=true/\Db i told x bA w'))) ⟨TN 76 (AQ f (XQ kv pa told r x bA)),[]⟩ (v.re τ d)
 tells:∀(r:Nat)(i:Int)(told x:n_)(bA:Nat)(v:o_)(f:Y_),Dn i told x bA v->∀τ d,(R15 P).wpIn N m P (Ends λtm w'=>∃f' CB,tm=TN 76 (AQ f' (yL kv pa CB r bA))/\E0 i CB bA w') ⟨TN 76 (AQ f (XQ kv pa told r x bA)),[]⟩ (v.re τ d)
 ended:∀(r:Nat)(i:Int)(told:n_)(bA:Nat)(v:o_)(f:Y_),E0 i told bA v->∀τ d,(R16 P).wpIn N m P (Ends λtm w'=>∃f' b,tm=TN 76 (AQ f' (slG kv pa told r bA b))/\((b=true/\Fin told w')\/(b=false/\E i told bA w'))) ⟨TN 76 (AQ f (yL kv pa told r bA)),[]⟩ (v.re τ d)
 answer:∀i told bA v,E i told bA v->∃s0 s1 s2,Cells v [(R_ bA),(S_ bA 1),(S_ bA 2)] [s0,s1,s2]/\An i told (.agg #[s0,s1,s2]) v
 grow:∀i told A v v',An i told A v->IG v v'->An i told A v'
 oO:∀(q1 q3:Nat)(i:Int)(told A:n_)(v:o_)(f:Y_),An i told A v->0<=i->i<n->∀τ d,(aX P).wpIn N m P (SX λtm w'=>∃g,tm=TN 49 (AQ g [(6,.bool true)])/\I (i+1) told w') ⟨TN 49 (AQ f (slA q1 q3 (VM pa) A)),[]⟩ (v.re τ d)
 bad:∀(r:Nat)(told:n_)(v:o_)(f:Y_),Bd told v->∀τ d,(R21 P).wpIn N m P (Ends λtm w'=>∃f' CB,tm=TN 76 (AQ f' [(7,CB)])/\Fin CB w') ⟨TN 76 (AQ f (slS kv pa told r)),[]⟩ (v.re τ d)
 spent:∀told v,I n told v->Fin told v
 blocks:∀(r:Nat)(i:Int)(told x:n_)(bA:Nat)(v:o_)(f:Y_),Db i told x bA v->∀τ d,(R12 P).wpIn N m P (Ends λtm w'=>∃f',tm=TN 76 (AQ f' (yL kv pa told r bA))/\Bc i told bA w') ⟨TN 76 (AQ f (XQ kv pa told r x bA)),[]⟩ (v.re τ d)
 blocked:∀i told bA v,Bc i told bA v->∃x0 y0 fn ca cb,Cells v [(R_ bA),(S_ bA 1),(S_ bA 2)] [a_ x0,a_ y0,.func fn ca cb]/\Bl i told v
 bp5:∀i told v,Bl i told v->∃cs ty p,v.heap[pa.block]?=some (N_ cs ty)/\cs[pa.off+7]?=some (a_ p)/\∀v',θ pa cs ty p v v'->Fin told v'
structure dU (P:l_)(N:Fence)(m:Nat):Prop where
 box:∀(r:Nat)(s0 s1 s2:n_)(v:o_)(g:Y_),∀τ d,(A0 P).wpIn N m P (Ends λtm w'=>∃g' bB,tm=TN 9 (AQ g' (ad5 r (.agg #[s0,s1,s2]) bB))/\(IG v w'/\bB=v.heap.size/\w'.heap.size=v.heap.size+1)/\Cells w' [(R_ bB),(S_ bB 1),(S_ bB 2)] [s0,s1,s2]) ⟨TN 9 (AQ g [(0,pr r),(1,.agg #[s0,s1,s2])]),[]⟩ (v.re τ d)
theorem jH:∀e a w,Ends Q e a w->(e=.normal\/e=.ret)/\a.defers=[]:=λ_ _ _ h=>⟨.inl h.1,h.2.1⟩
theorem zN:∀e a w,SX Q e a w->(e=.normal\/e=.ret)/\a.defers=[]:=λ_ _ _ h=>⟨.inr h.1,h.2.1⟩
section
variable {P:l_}{L:h_->Prop}{p:h_->Oper->Bool}{N:Fence}{Z:Nat->Prop}{Ad Still:Loc->Prop}{Mem Am:Nat->Prop}{h j:Nat}{By:Nat->m_->o_->Trace->Prop}{gs:Array m_}{w:o_}{sl:d_ (W_)}{t:Trace}{host:h_}
theorem cZ.part (W:Yl P L p N host)(y:Gx Ad Z)(o:Gx Still Z)(O:G8 P Z Ad Still (fun B t=>PX Ad Still Mem Am B h t) j By)(u:EH=56\/EH=93\/EH=97\/EH=136\/EH=187)(n:(kd==CallKind.early)=false)
  (s:c∈[R2 P,R3 P,S0 P,S1 P,R10 P,R11 P,R15 P,R16 P,A0 P,R21 P,XA P,aX P,R12 P]) (A:∀v,J v->∀τ d,c.wpIn N m P (Ends Q) ⟨tmps,[]⟩ (v.re τ d)) (r:∀l,Dw (Q l))
  (H:cZ Od P Z Ad Still Mem Am h j By (λg v=>g=G (Frame.mk EH tmps (.code c::k) ds .run kd none) cs/\J v) gs w t):AX P gs w sl t (cZ Od P Z Ad Still Mem Am h j By (λg v=>∃l,g=G (Frame.mk EH l k ds .run kd none) cs/\Q l v)):=
 (cZ.piece W.fenced y o O W.QM (W.seen EH u) n (W.ops c s) jH A H).mono λe i f a=>a.mono λg v ⟨l,τ,d,hb⟩=>by
  obtain⟨rfl,_,_,hq⟩|⟨_,_,b,_⟩:=hb
  .exact⟨l,rfl,(r l).back hq⟩
  .cases b
theorem cZ.out (W:Yl P L p N host)(y:Gx Ad Z)(o:Gx Still Z)(O:G8 P Z Ad Still (fun B t=>PX Ad Still Mem Am B h t) j By)(u:EH=56\/EH=93\/EH=97\/EH=136\/EH=187)(n:(kd==CallKind.early)=false)
  (s:c∈[R2 P,R3 P,S0 P,S1 P,R10 P,R11 P,R15 P,R16 P,A0 P,R21 P,XA P,aX P,R12 P]) (A:∀v,J v->∀τ d,c.wpIn N m P (SX Q) ⟨tmps,[]⟩ (v.re τ d)) (r:∀l,Dw (Q l))
  (H:cZ Od P Z Ad Still Mem Am h j By (λg v=>g=G (Frame.mk EH tmps (.code c::k) ds .run kd none) cs/\J v) gs w t):AX P gs w sl t (cZ Od P Z Ad Still Mem Am h j By (λg v=>∃l todo,g=G (Frame.mk EH l todo ds .returning kd none) cs/\Q l v)):=
 (cZ.piece W.fenced y o O W.QM (W.seen EH u) n (W.ops c s) zN A H).mono λe i f a=>a.mono λg v ⟨l,τ,d,hb⟩=>by
  obtain⟨_,b,_⟩|⟨todo,rfl,_,_,hq⟩:=hb
  .cases b
  .exact⟨l,todo,rfl,(r l).back hq⟩
theorem cZ.pick {ι:Type}{C:ι->m_->o_->Prop}(H:cZ Od P Z Ad Still Mem Am h j By (λg v=>∃x,C x g v) gs w t):∃x,cZ Od P Z Ad Still Mem Am h j By (C x) gs w t:=by
 obtain⟨q,n,B,g,v,a,⟨x,c⟩,b⟩:=H;exact⟨x,q,n,B,g,v,a,c,b⟩
theorem cZ.fact {F:Prop}(H:cZ Od P Z Ad Still Mem Am h j By (λg v=>F/\C g v) gs w t):F/\cZ Od P Z Ad Still Mem Am h j By C gs w t:=by
 obtain⟨q,n,B,g,v,a,⟨c,d⟩,b⟩:=H;exact⟨c,q,n,B,g,v,a,d,b⟩
theorem cZ.or {C':m_->o_->Prop}(H:cZ Od P Z Ad Still Mem Am h j By (λg v=>C g v\/C' g v) gs w t):cZ Od P Z Ad Still Mem Am h j By C gs w t\/cZ Od P Z Ad Still Mem Am h j By C' gs w t:=by
 obtain⟨q,n,B,g,v,b,a|a,c⟩:=H
 .exact .inl ⟨q,n,B,g,v,b,a,c⟩
 .exact .inr ⟨q,n,B,g,v,b,a,c⟩
end
def Told (f:Y_)(l:List (Nat×n_)):Prop:=∀p∈l,f p.1=p.2
theorem Told.eq {l:List (Nat×n_)}(h:Told f l):AQ f l=f:=NL h
def rU (kv:n_)(pa:f_)(told:n_)(r q0 q2:Nat):List (Nat×n_):=[(0,kv),(1,pv pa),(7,told),(8,pr r),(25,D5 q0),(27,D5 q2)]
def gK (P:l_)(s:J8)(f:Y_)(cs:Z_):m_:=BO (kS P f cs s.r)
section
variable {P:l_}{L:h_->Prop}{p:h_->Oper->Bool}{N:Fence}{m:Nat}{host:h_}{Z:Nat->Prop}{Ad:Loc->Prop}{s:J8}{c:Nat}{kv:n_}{pa:f_}{c0:Frame}{cs:Z_}
def Back (Od:Old)(P:l_)(Ad:Loc->Prop)(Z:Nat->Prop)(Fin:n_->o_->Prop)(c0:Frame)(cs:Z_)(gs:Array m_)(w:o_)(t:Trace):Prop:=
 ∃told v B,Fin told v/\gs[0]?=some (G (c0.finish told) cs)/\Y7 Od P Ad Z B v gs w t
def zB (Od:Old)(P:l_)(Ad:Loc->Prop)(Z:Nat->Prop)(Fin:n_->o_->Prop)(c0:Frame)(cs:Z_)(gs:Array m_)(w:o_)(t:Trace):Prop:=
 ∃Z',(∀x,Z x->Z' x)/\Back Od P Ad Z' Fin c0 cs gs w t
theorem Back.up {Fin:n_->o_->Prop}{w:o_}(h:Back Od P Ad Z Fin c0 cs gs w t):zB Od P Ad Z Fin c0 cs gs w t:=⟨Z,λ_ h=>h,h⟩
theorem XY {a:List Item}(K:Vo P)(hb:x.1=(sR P [] s.r).1)(b:x.2=(below x).1::c0::cs)(d:Ea (below x)=(56,a,[],.returning,.normal,none,c0::cs))(g:X3 (below x) [6]=[told])(h:(below x).1.tmps.size=76):
  ∃f,BO x=BO (VW P s f a told c0 cs):=by
 have e:=at_toldM (l:=[(6,told)]) d g h;refine⟨slot (below x),?_⟩;unfold VW;rw[K.sRf];have e1:(below x).1=ϖ (AQ (slot (below x)) [(6,told)]) a:=congrArg Prod.fst e;show G x.1 x.2=G (sR P [] s.r).1 (ϖ (AQ (slot (below x)) [(6,told)]) a::c0::cs);rw[hb,b,e1]
theorem pU (A:Ff P)(W:Yl P L p N host)(E:Env Z Ad s c)(S:Tq P N m kv pa s.n){x:n_}(hT:Told f (rU kv pa told s.r s.q0 s.q2)){w:o_}{sl:d_ (W_)}
  (H:cZ Od P Z Ad s.Still (I8 c) (λg=>g=c) 0 c (rQ P s c (gC P s fc i x)) (λg v=>g=Conc.served (gK P s f (c0::cs)) (commResult (O9 s.q0 s.q2) .select 0 x true)/\S.Cd i told x v) gs w t):
  AX P gs w sl t λBA w' t'=>(Back Od P Ad Z S.Fin c0 cs BA w' t'\/(∃f' bA,cZ Od P Z Ad s.Still (I8 c) (λg=>g=c) 0 c (rQ P s c (gC P s fc i x)) (λg v=>g=BO (f56 (AQ f' (yL kv pa told s.r bA)) (c0::cs) (T12 P) (QA s.r))/\S.Bc i told bA v) BA w' t'))\/∃f' CB bA,cZ Od P Z Ad s.Still (I8 c) (λg=>g=c) 0 c (rQ P s c (gC P s fc i x)) (λg v=>g=BO (f56 (AQ f' (slF kv pa CB s.r bA)) (c0::cs) (T16 P) (QA s.r))/\S.E i CB bA v) BA w' t':=by
 have O:=YJ (P:=P) (gC:=gC P s fc i x) E;have I:=Jj E.Lu;have G:∀n b w t,rQ P s c (gC P s fc i x) n b w t->∀d,(λ_=>True:o_->Prop) (w.at d):=λ_ _ _ _ _ _=>trivial
 have e0:Conc.served (gK P s f (c0::cs)) (commResult (O9 s.q0 s.q2) .select 0 x true)=BO (x0 P kv pa told f (c0::cs) s.r s.q0 s.q2 x):=by
  unfold x0
  rw[show AQ f (slS kv pa told s.r)=f from Told.eq λq hq=>hT q (by simp only[slS,rU,r_,lG,or_false]at hq ⊢;obtain h|h|h|h:=hq<;>simp[h])]
  rfl
 rw[e0]at H;refine(H.Uz (sl:=sl) (K:=λ_=>True) G O (DT (A.F7.x1a _ _ _ _ _ _ _ _ _))).bind λgs1 w1 JL t1 _ H1=>?_
 rw[show run P 12 (x0 P kv pa told f (c0::cs) s.r s.q0 s.q2 x)=x1 P kv pa told f (c0::cs) s.r s.q0 s.q2 x from rfl,at_toldN (l:=slX kv pa told s.r x) (A.F7.x1b _ _ _ _ _ _ _ _ _) (A.F7.x1c _ _ _ _ _ _ _ _ _) (A.F7.x1d _ _ _ _ _ _ _ _ _)]at H1;refine(cZ.part (sl:=JL) W E.under I O (.inl rfl) rfl sJ (λv k=>S.serve s.r i told x v _ k) (λo v τ d ⟨f',bA,e,h⟩=>⟨f',bA,e,S.tD _ _ _ _ v τ d h⟩) H1).bind λgs2 w2 V t2 _ Q=>?_
 obtain⟨⟨f2,bA⟩,Q⟩:=(Q.mono (C':=λg v=>∃y:(Y_)×Nat,g=BO (f56 (AQ y.1 (XQ kv pa told s.r x y.2)) (c0::cs) (T10 P) (QA s.r))/\S.D i told x y.2 v) λg v ⟨o,a,f',bA,e,h⟩=>⟨(f',bA),by rw[a,e];rfl,h⟩).pick;refine(Q.Uz (sl:=V) (K:=λ_=>True) G O (Jd (A.F7.x2 _ _ _))).bind λgs3 w3 X t3 _ H3=>?_
 refine(cZ.part (sl:=X) W E.under I O (.inl rfl) rfl sJ (λv k=>S.asked s.r i told x bA v f2 k) (λo v τ d ⟨f',b,e,h⟩=>⟨f',b,e,h.imp (λh=>⟨h.1,S.tDn _ _ _ _ v τ d h.2⟩) λh=>⟨h.1,S.tDb _ _ _ _ v τ d h.2⟩⟩) H3).bind λgs4 w4 Ob t4 _ j=>?_
 rcases(j.mono (C':=λg v=>(∃y:Nat->n_,g=BO (f56 (AQ (AQ y (XQ kv pa told s.r x bA)) [(39,.bool true)]) (c0::cs) (T11 P) (QA s.r))/\S.Db i told x bA v)\/(∃y:Nat->n_,g=BO (f56 (AQ (AQ y (XQ kv pa told s.r x bA)) [(39,.bool false)]) (c0::cs) (T11 P) (QA s.r))/\S.Dn i told x bA v)) λg v ⟨o,a,f',b,e,h⟩=>by
  obtain⟨rfl,h⟩|⟨rfl,h⟩:=h
  .exact .inr ⟨f',by rw[a,e];rfl,h⟩
  .exact .inl ⟨f',by rw[a,e];rfl,h⟩).or with j|j
 .obtain⟨M,j⟩:=j.pick;refine(j.Uz (sl:=Ob) (K:=λ_=>True) G O (Jd (A.blk.y3 _ _ _))).bind λT w5 F t5 _ J=>?_
  rw[show AQ (AQ M (XQ kv pa told s.r x bA)) [(39,.bool true)]=AQ (AQ (AQ M (XQ kv pa told s.r x bA)) [(39,.bool true)]) (XQ kv pa told s.r x bA)from(Told.eq λq hq=>by
   simp only[XQ,r_,lG,or_false]at hq
   obtain h|h|h|h|h|h:=hq<;>subst h<;>rfl).symm]at J;refine(cZ.part (sl:=F) W E.under I O (.inl rfl) rfl sJ (λv k=>S.blocks s.r i told x bA v _ k) (λo v τ d ⟨f',e,h⟩=>⟨f',e,S.tBc _ _ _ v τ d h⟩) J).mono λU w6 t6 z=>?_
  obtain⟨R,z⟩:=(z.mono (C':=λg v=>∃y:Nat->n_,g=BO (f56 (AQ y (yL kv pa told s.r bA)) (c0::cs) (T12 P) (QA s.r))/\S.Bc i told bA v) λg v ⟨o,a,f',e,h⟩=>⟨f',by rw[a,e];rfl,h⟩).pick;exact .inl (.inr ⟨R,bA,z⟩)
 obtain⟨M,j⟩:=j.pick;refine(j.Uz (sl:=Ob) (K:=λ_=>True) G O (Jd (A.F7.x3 _ _ _))).bind λT w5 F t5 _ J=>?_
 rw[show AQ (AQ M (XQ kv pa told s.r x bA)) [(39,.bool false)]=AQ (AQ (AQ M (XQ kv pa told s.r x bA)) [(39,.bool false)]) (XQ kv pa told s.r x bA)from(Told.eq λq hq=>by
  simp only[XQ,r_,lG,or_false]at hq
  obtain h|h|h|h|h|h:=hq<;>subst h<;>rfl).symm]at J;refine(cZ.part (sl:=F) W E.under I O (.inl rfl) rfl sJ (λv k=>S.tells s.r i told x bA v _ k) (λo v τ d ⟨f',CB,e,h⟩=>⟨f',CB,e,S.tE0 _ _ _ v τ d h⟩) J).bind λU w6 Fh t6 _ z=>?_
 obtain⟨⟨R,CB⟩,z⟩:=(z.mono (C':=λg v=>∃y:(Y_)×n_,g=BO (f56 (AQ y.1 (yL kv pa y.2 s.r bA)) (c0::cs) (T15 P) (QA s.r))/\S.E0 i y.2 bA v) λg v ⟨o,a,f',CB,e,h⟩=>⟨(f',CB),by rw[a,e];rfl,h⟩).pick;refine(z.Uz (sl:=Fh) (K:=λ_=>True) G O (Jd (A.F7.x4 _ _ _))).bind λgs7 w7 OL t7 _ H7=>?_
 refine(cZ.part (sl:=OL) W E.under I O (.inl rfl) rfl sJ (λv k=>S.ended s.r i CB bA v R k) (λo v τ d ⟨f',b,e,h⟩=>⟨f',b,e,h.imp (λh=>⟨h.1,S.tF _ v τ d h.2⟩) λh=>⟨h.1,S.tE _ _ _ v τ d h.2⟩⟩) H7).bind λgs8 w8 Y t8 _ H8=>?_
 rcases(H8.mono (C':=λg v=>(∃y:Nat->n_,g=BO (f56 (AQ y (slG kv pa CB s.r bA true)) (c0::cs) (T16 P) (QA s.r))/\S.Fin CB v)\/(∃y:Nat->n_,g=BO (f56 (AQ y (slF kv pa CB s.r bA)) (c0::cs) (T16 P) (QA s.r))/\S.E i CB bA v)) λg v ⟨o,a,f',b,e,h⟩=>by
  obtain⟨rfl,h⟩|⟨rfl,h⟩:=h
  .exact .inl ⟨f',by rw[a,e];rfl,h⟩
  .exact .inr ⟨f',by rw[a,e];rfl,h⟩).or with u|u
 .obtain⟨C,u⟩:=u.pick;rw[show AQ C (slG kv pa CB s.r bA true)=AQ (AQ C (slG kv pa CB s.r bA true)) [(7,CB),(59,.bool true)]from(Told.eq λq hq=>by
   simp only[r_,lG,or_false]at hq
   obtain h|h:=hq<;>subst h<;>rfl).symm]at u;refine(u.Uz (sl:=Y) (K:=λ_=>True) G O (DT (A.F7.w1a _ _ _ _))).bind λgsa wa sla ta _ Ha=>?_
  obtain⟨fe,e⟩:=XY (s:=s) (c0:=c0) (cs:=cs) A.F7 (A.F7.w1b CB _ _ s.r) (A.F7.w1c CB _ _ s.r) (A.F7.w1d CB _ _ s.r) (A.F7.w1e CB _ _ s.r) (A.F7.w1f CB (AQ C (slG kv pa CB s.r bA true)) (c0::cs) s.r);rw[show BO (run P 13 (f56 (AQ (AQ C (slG kv pa CB s.r bA true)) [(7,CB),(59,.bool true)]) (c0::cs) (T16 P) (QA s.r)))=BO (Fxa.w1 P CB (AQ C (slG kv pa CB s.r bA true)) (c0::cs) s.r)from rfl,e]at Ha;exact(qM (sl:=sla) A E Ha).mono λBA w' t' ⟨v,B,k1,k2,k3⟩=>.inl (.inl ⟨CB,v,B,k1,k2,k3⟩)
 .obtain⟨C,u⟩:=u.pick;exact .now (.inr ⟨C,CB,bA,u⟩)
theorem MH (x:Frame×Z_):(BO x).status=.running:=rfl
theorem zK (K:Vo P)(hb:Ea x=(56,yV P,QA s.r,.run,.normal,none,c0::cs))(b:X3 x [0,1,7,8,25,27]=[kv,pv pa,told,pr s.r,D5 s.q0,D5 s.q2])(d:x.1.tmps.size=76):
  ∃f,Told f (rU kv pa told s.r s.q0 s.q2)/\BO x=gK P s f (c0::cs)/\Ox P x=some (O9 s.q0 s.q2):=by
 have e:=at_toldN (l:=rU kv pa told s.r s.q0 s.q2) hb b d;refine⟨AQ (slot x) (rU kv pa told s.r s.q0 s.q2),?_,?_,?_⟩
 .intro q hq;simp only[rU,r_,lG,or_false]at hq;obtain h|h|h|h|h|h:=hq<;>subst h<;>rfl
 .exact congrArg BO e
 .have a:=K.k1 (AQ (slot x) (rU kv pa told s.r s.q0 s.q2)) (c0::cs) s.r s.q0 s.q2;rw[show AQ (AQ (slot x) (rU kv pa told s.r s.q0 s.q2)) [(25,D5 s.q0),(27,D5 s.q2)]=AQ (slot x) (rU kv pa told s.r s.q0 s.q2)from Told.eq λq hq=>by
   simp only[r_,lG,or_false]at hq
   obtain h|h:=hq<;>subst h<;>rfl]at a;rw[e];exact a
def WT (J:o_->Prop)(bB:Nat)(v:o_):Prop:=∃v0,J v0/\IG v0 v/\bB=v0.heap.size/\v.heap.size=v0.heap.size+1
theorem WT.tape {bB:Nat}:Dw (WT J bB):=λ_ _ _ ⟨v0,b,a,c,d⟩=>⟨v0,b,⟨a.1,a.2.1,a.2.2.1,a.2.2.2⟩,c,d⟩
theorem ZC (A:Ff P)(W:Yl P L p N host)(M:dU P N m)(E:Env Z Ad s c){gCx:m_}{s0 s1 s2:n_}{f0:Nat->n_}{Y:Z_}{w:o_}{sl:d_ (W_)}
  (H3:cZ Od P Z Ad s.Still (I8 c) (λg=>g=c) 0 c (rQ P s c gCx) (λg v=>g=BO (Frame.mk 97 (TN 9 (AQ f0 [(0,pr s.r),(1,.agg #[s0,s1,s2])])) (.code (A0 P)::V97 P) [] .run .normal none,Y)/\J v) gs w t):
  AX P gs w sl t λBA w' t'=>∃g4 bB,cZ Od P Z Ad s.Still (I8 c) (λg=>g=c) 0 c (rQ P s c gCx) (λg v=>g=BO (xs P g4 Y s.r s.q1 bB (.agg #[s0,s1,s2]))/\WT J bB v/\Cells v [(R_ bB),(S_ bB 1),(S_ bB 2)] [s0,s1,s2]) BA w' t':=by
 have O:=YJ (P:=P) (gC:=gCx) E;have R:=Jj E.Lu;have x:∀{y:Frame×Z_},Eb P y (D5 s.q1)=some ([(S_ s.r 1)],D5 s.q1)->RW P (0==0) s.KW s.Still 1 (BO y) (BO (BK y (D5 s.q1))):=λh=>RW.at h (λw h=>let ⟨_,_,hr⟩:=h.1;(KQ hr).2.1) (OW (s:=s)).t1
 have walk:∀{gs:Array m_} {w:o_} {sl:d_ (W_)} {t:Trace} {J:o_->Prop} {k:Nat} {a I:m_},cZ Od P Z Ad s.Still (I8 c) (λg=>g=c) 0 c (rQ P s c gCx) (λg v=>g=a/\J v) gs w t->RW P (0==0) s.KW s.Still k a I->AX P gs w sl t (cZ Od P Z Ad s.Still (I8 c) (λg=>g=c) 0 c (rQ P s c gCx) (λg v=>g=I/\J v)):=
  λH hw=>H.walk bp4 (λw a h X=>JH h X) E.ss O hw
 refine(cZ.part (sl:=sl) (Q:=λG w'=>∃q bB,G=TN 9 (AQ q (ad5 s.r (.agg #[s0,s1,s2]) bB))/\WT J bB w'/\Cells w' [(R_ bB),(S_ bB 1),(S_ bB 2)] [s0,s1,s2]) W E.under R O (.inr (.inr (.inl rfl))) rfl sJ
  (λv hv τ d=>wpIn_mono (M.box s.r s0 s1 s2 v _ τ d) λe a w' ⟨k1,k2,q,bB,k3,K,k5⟩=>⟨k1,k2,q,bB,k3,⟨v,hv,K.1,K.2⟩,k5⟩) (λG v τ d ⟨q,bB,e,h,V⟩=>⟨q,bB,e,WT.tape v τ d h,V⟩) H3).bind λU w4 Ob t4 _ B=>?_
 obtain⟨⟨g4,bB⟩,B⟩:=(B.mono (C':=λg v=>∃y:(Y_)×Nat,g=BO (f97 (AQ y.1 (ad5 s.r (.agg #[s0,s1,s2]) y.2)) Y (V97 P))/\WT J y.2 v/\Cells v [(R_ y.2),(S_ y.2 1),(S_ y.2 2)] [s0,s1,s2]) λg v ⟨G,D,q,bB,e,h⟩=>⟨(q,bB),by rw[D,e];rfl,h⟩).pick;refine(cZ.draws (sl:=Ob) A.mixed O (A.F7.dr _ _) A.F7.dl B).bind λC w5 F t5 _ o=>?_
 have S:AX P C w5 F t5 (cZ Od P Z Ad s.Still (I8 c) (λg=>g=c) 0 c (rQ P s c gCx) (λg v=>g=BO (xs P g4 Y s.r s.q1 bB (.agg #[s0,s1,s2]))/\WT J bB v/\Cells v [(R_ bB),(S_ bB 1),(S_ bB 2)] [s0,s1,s2])):=by
  obtain⟨⟨l,z⟩,o⟩:=(o.mono (C':=λg v=>∃y:{ l:List Nat // l∈[[0,1,2,3,4,5],[0,1,2,4,3,5],[0,1,4,2,3,5],[0,4,1,2,3,5],[4,0,1,2,3,5]]},g=BO (XT P g4 Y s.r bB (.agg #[s0,s1,s2]) y.1)/\WT J bB v/\Cells v [(R_ bB),(S_ bB 1),(S_ bB 2)] [s0,s1,s2]) λg v ⟨⟨l,z,D⟩,h⟩=>⟨⟨l,z⟩,D,h⟩).pick
  simp only[r_,lG,or_false]at z
  obtain rfl|rfl|rfl|rfl|rfl:=z
  .refine(walk o (RW.AU (A.F7.l1a _ _ _ _ _))).bind λ_ _ b _ _ j=>(walk j (x (A.F7.l1b _ _ _ _ s.q1 _))).bind λ_ _ f _ _ n=>?_
   have:=cZ.reads (sl:=f) E.under O (A.F7.l1c _ _ _ _ s.q1 _ s0 s1 s2) (λv h=>h.2) n
   rwa [A.F7.l1d]at this
  .refine(walk o (RW.AU (A.F7.l2a _ _ _ _ _))).bind λ_ _ b _ _ j=>(cZ.reads (sl:=b) E.under O (A.F7.l2b _ _ _ _ _ s0 s1 s2) (λv h=>h.2) j).bind λ_ _ f _ _ n=>?_
   have:=walk (sl:=f) n (x (A.F7.l2c _ _ _ _ s.q1 _))
   rwa [A.F7.l2d]at this
  .refine(walk o (RW.AU (A.F7.l3a _ _ _ _ _))).bind λ_ _ b _ _ j=>(cZ.reads (sl:=b) E.under O (A.F7.l3b _ _ _ _ _ s0 s1 s2) (λv h=>h.2) j).bind λ_ _ f _ _ n=>(walk n (RW.AU (A.F7.l3c _ _ _ _ _))).bind λ_ _ i _ _ u=>?_
   have:=walk (sl:=i) u (x (A.F7.l3d _ _ _ _ s.q1 _))
   rwa [A.F7.l3e]at this
  .refine(walk o (RW.AU (A.F7.l4a _ _ _ _ _))).bind λ_ _ b _ _ j=>(cZ.reads (sl:=b) E.under O (A.F7.l4b _ _ _ _ _ s0 s1 s2) (λv h=>h.2) j).bind λ_ _ f _ _ n=>(walk n (RW.AU (A.F7.l4c _ _ _ _ _))).bind λ_ _ i _ _ u=>?_
   have:=walk (sl:=i) u (x (A.F7.l4d _ _ _ _ s.q1 _))
   rwa [A.F7.l4e]at this
  .refine(walk o (RW.AU (A.F7.l5a _ _ _ _ _))).bind λ_ _ b _ _ j=>(cZ.reads (sl:=b) E.under O (A.F7.l5b _ _ _ _ _ s0 s1 s2) (λv h=>h.2) j).bind λ_ _ f _ _ n=>(walk n (RW.AU (A.F7.l5c _ _ _ _ _))).bind λ_ _ i _ _ u=>?_
   have:=walk (sl:=i) u (x (A.F7.l5d _ _ _ _ s.q1 _))
   rwa [A.F7.l5e]at this
 exact S.mono λBA w' t' T=>⟨g4,bB,T⟩
theorem kY (A:Ff P)(W:Yl P L p N host)(M:dU P N m)(E:Env Z Ad s c)(S:Tq P N m kv pa s.n){x:n_}{bA:Nat}{w:o_}{sl:d_ (W_)}
  (H:cZ Od P Z Ad s.Still (I8 c) (λg=>g=c) 0 c (rQ P s c (gC P s fc i x)) (λg v=>g=BO (f56 (AQ f (slF kv pa told s.r bA)) (c0::cs) (T16 P) (QA s.r))/\S.E i told bA v) gs w t):
  AX P gs w sl t λBA w' t'=>∃f' An,Told f' (rU kv pa told s.r s.q0 s.q2)/\cZ Od P Z Ad s.Still (I8 c) (λg=>g=0) c 0 (ByK P s c (gK P s f' (c0::cs))) (λg v=>g=Conc.served (gC P s fc i x) (commResult (G5 s.q1 s.q3) .select 0 An true)/\S.An i told An v) BA w' t':=by
 have O:=YJ (P:=P) (gC:=gC P s fc i x) E;have Q:∀n b w t,rQ P s c (gC P s fc i x) n b w t->∀d,(λ_=>True:o_->Prop) (w.at d):=λ_ _ _ _ _ _=>trivial
 refine(H.Uz (sl:=sl) (K:=λ_=>True) Q O (DT (A.F7.cr6 _ _ _ _ _ _ _))).bind λX w1 U t1 _ q=>?_
 obtain⟨⟨a,e,j⟩,q⟩:=(q.mono (C':=λg v=>∃y:n_×n_×n_,g=BO (x18 P kv pa told f (c0::cs) s.r bA)/\Cells v [(R_ bA),(S_ bA 1),(S_ bA 2)] [y.1,y.2.1,y.2.2]/\S.An i told (.agg #[y.1,y.2.1,y.2.2]) v) λg v ⟨hg,h⟩=>by
  obtain⟨a,e,j,h1,h2⟩:=S.answer i told bA v h
  exact⟨(a,e,j),hg,h1,h2⟩).pick;refine(cZ.reads (sl:=U) E.under O (A.F7.cr5 _ _ _ _ _ _ _ a e j) (λv h=>h.1) q).bind λY w2 D t2 _ R=>?_
 refine(R.Uz (sl:=D) (K:=λ_=>True) Q O (DT (A.F7.cr4 _ _ _ _ _ _ _ _))).bind λgs3 w3 F t3 _ G=>?_
 rw[show run P 2 (BK (x18 P kv pa told f (c0::cs) s.r bA) (.agg #[a,e,j]))=x19 P kv pa told f (c0::cs) s.r bA (.agg #[a,e,j])from rfl,at_toldN (l:=[(0,pr s.r),(1,.agg #[a,e,j])]) (A.F7.cr2 _ _ _ _ _ _ _ _) (A.F7.cr1 _ _ _ _ _ _ _ _) (A.F7.cr0 _ _ _ _ _ _ _ _)]at G;refine(ZC (sl:=F) A W M E (G.mono (C':=λg v=>g=BO (Frame.mk 97 (TN 9 (AQ (slot (x19 P kv pa told f (c0::cs) s.r bA (.agg #[a,e,j]))) [(0,pr s.r),(1,.agg #[a,e,j])])) (.code (A0 P)::V97 P) [] .run .normal none,Y18 P kv pa told f (c0::cs) s.r bA (.agg #[a,e,j]))/\S.An i told (.agg #[a,e,j]) v) λg v h=>⟨h.1,h.2.2⟩)).bind λgs7 w7 OL t7 _ u=>?_
 obtain⟨o,bB,u⟩:=u;obtain⟨J,z,C,B⟩:=zK (s:=s) A.F7 (A.F7.v3b kv pa told f o (c0::cs) s.r s.q0 s.q1 s.q2 bA bB (.agg #[a,e,j])) (A.F7.v3c _ _ _ _ _ _ _ _ _ _ _ _ _) (A.F7.v3d _ _ _ _ _ _ _ _ _ _ _ _ _);have hw:RW P (0==0) s.KW s.Still 48 (BO (v0 P kv pa told f o (c0::cs) s.r s.q1 bA bB (.agg #[a,e,j]))) (BO (v3 P kv pa told f o (c0::cs) s.r s.q0 s.q1 s.q2 bA bB (.agg #[a,e,j]))):=
  ((((RW.AU (A.F7.v1a _ _ _ _ _ _ _ _ _ _ _)).trans (RW.at (A.F7.v1b _ _ _ _ _ _ _ s.q0 _ _ _ _) (OW (s:=s)).r0 (OW (s:=s)).t0)).trans (RW.AU (A.F7.v2a _ _ _ _ _ _ _ _ _ _ _ _))).trans (RW.at (A.F7.v2b _ _ _ _ _ _ _ _ _ s.q2 _ _ _) (OW (s:=s)).r2 (OW (s:=s)).t2)).trans (RW.AU (A.F7.v3a _ _ _ _ _ _ _ _ _ _ _ _ _));have I:=RW.seat (k:=0) (home:=(·=gK P s J (c0::cs))) (cases:=O9 s.q0 s.q2) (shape:=.select) (MH _) ⟨_,#[],C,MH _,sJ,λw _=>I5 B w⟩ hw;have V:BO (v0 P kv pa told f o (c0::cs) s.r s.q1 bA bB (.agg #[a,e,j]))=Conc.served (BO (xs P o (Y18 P kv pa told f (c0::cs) s.r bA (.agg #[a,e,j])) s.r s.q1 bB (.agg #[a,e,j]))) (commResult (lU s.q1 (.agg #[a,e,j])) .send ((0:Nat):Int) undef false):=by
  unfold v0
  rw[Uk]
  rfl
 rw[V]at I;refine(cZ.give (sl:=OL) (VD E (.agg #[a,e,j])) (λw h=>zY h) rfl (λw=>gz (A.F7.xs _ _ _ _ _ _) w) I (u.mono λg v h=>⟨h.1,let ⟨v0,k1,k2,_⟩:=h.2.1;S.grow _ _ _ _ _ k1 k2⟩)).mono λBA w' t' T=>⟨J,_,z,T⟩
end
def ET (v:o_)(pb:Nat)(ob:Obj)(n:Nat):Array Obj:=Array.ofFn (n:=n) λx=>if x.1=pb then ob else(v.heap[x.1]?).getD DV
theorem Hu {n x:Nat}(a:x<n):(ET v pb ob n)[x]?=some (if x=pb then ob else(v.heap[x]?).getD DV):=by
 simp[ET,a]
def LZ (pb bB y:Nat):Prop:=y=pb\/bB<=y
def LL (pb bB:Nat)(l:Loc):Prop:=∃a:f_,l=.cell a/\LZ pb bB a.block
section
variable {P:l_}{L:h_->Prop}{p:h_->Oper->Bool}{N:Fence}{m:Nat}{host:h_}{Z:Nat->Prop}{Ad:Loc->Prop}{s:J8}{c:Nat}{kv:n_}{pa:f_}{c0:Frame}{cs:Z_}
theorem Yr.bu7 {v0 w w2:o_}{bB:Nat}{ob':Obj}(T:Yr Od Z v w)(F:∀r,Z r->r<v.heap.size)(D:IG v0 v)(hb:bB=v0.heap.size)(H:v.heap.size=v0.heap.size+1)(u:¬Z bB/\¬Od.dead bB)(G:v0.heap[pb]?=some ob)(n:¬Z pb/\¬Od.dead pb)(A:ob'.plain=true)
  (y:CS (λx=>Z x\/(x=pb\/bB<=x)) w w2) (E:w2.heap[pb]?=some ob'):
  Yr Od (λx=>Z x\/(bB<=x/\x<w2.heap.size)) {v0 with heap:=ET v0 pb ob' w2.heap.size} w2:=by
 subst hb;have m:=(y_.1 G).1;have l:v0.heap.size<=w2.heap.size:=by have:=y.size;have:=T.size;omega
 have i:∀x,Z x->x<v0.heap.size:=λx a=>by
  have:=F x a
  have:x≠v0.heap.size:=λe=>u.1 (e ▸ a)
  omega
 have f:∀x,Od.dead x->x<v0.heap.size:=λx a=>by
  have:=(y_.1 (T.KN x a)).1
  have:x≠v0.heap.size:=λe=>u.2 (e ▸ a)
  omega
 have c:∀x,x<v0.heap.size->x≠pb->(ET v0 pb ob' w2.heap.size)[x]?=v.heap[x]?:=λx a k=>by
  rw[Hu wB,ru k,D.2.1 x a,v_ a];rfl
 refine⟨by simp[ET],λx a b=>?_,λx a g=>?_,λx o b=>?_,?_,?_,λx a=>?_,λx a=>?_,λx a h=>?_⟩
 .by_cases g:x<w2.heap.size
  .have d:x<v0.heap.size:=Nat.lt_of_not_le λh=>a (.inr ⟨h,g⟩)
   by_cases e:x=pb
   .subst e;rw[E];show(ET v0 x ob' w2.heap.size)[x]?=_;rw[Hu g,rW rfl]
   .show(ET v0 pb ob' w2.heap.size)[x]?=_;have j:¬Z x:=λh=>a (.inl h)
    rw[c x d e,T.same x j b];exact(y.same x λh=>h.elim j λh=>h.elim e λh=>wB).symm
  .rw[Array.getElem?_eq_none (show w2.heap.size<=x by omega)];exact Array.getElem?_eq_none (by show(ET v0 pb ob' w2.heap.size).size<=x;simp only[ET,Array.size_ofFn];omega)
 .show(ET v0 pb ob' w2.heap.size)[x]?=_;obtain a|a:=a
  .have d:=i x a;rw[c x d (λe=>n.1 (e ▸ a))];exact T.dead x a wB
  .rw[Hu a.2,ru wB,Array.getElem?_eq_none a.1];rfl
 .have b:(ET v0 pb ob' w2.heap.size)[x]?=some o:=b;have g:x<w2.heap.size:=by have:=(y_.1 b).1;simpa [ET]using this
  by_cases e:x=pb
  .rw[Hu g,rW e]at b;rw[<-x_ b];exact A
  .by_cases d:x<v0.heap.size
   .rw[c x d e]at b;exact T.plain x o b
   .rw[Hu g,ru e,Array.getElem?_eq_none wB]at b;rw[<-x_ b];rfl
 .exact(D.2.2.1.symm.trans T.os).trans y.os.symm
 .exact(D.2.2.2.symm.trans T.output).trans y.output.symm
 .show(ET v0 pb ob' w2.heap.size)[x]?=_;rw[c x (f x a) (λe=>n.2 (e ▸ a))];exact T.KN x a
 .have:=f x a;rw[y.same x λh=>h.elim (T.ax x a) λh=>h.elim (λe=>n.2 (e ▸ a)) λh=>by omega];exact T.kept x a
 .have:=f x a;exact h.elim (T.ax x a) λh=>wB
theorem bY (A:Ff P)(W:Yl P L p N host)(M:dU P N m)(E:Env Z Ad s c)(S:Tq P N m kv pa s.n)(hsv:s.sv=VM pa){x:n_}{bA:Nat}{w:o_}{sl:d_ (W_)}
  (H:cZ Od P Z Ad s.Still (I8 c) (λg=>g=c) 0 c (rQ P s c (gC P s fc i x)) (λg v=>g=BO (f56 (AQ f (yL kv pa told s.r bA)) (c0::cs) (T12 P) (QA s.r))/\S.Bc i told bA v) gs w t):
  AX P gs w sl t (zB Od P Ad Z S.Fin c0 cs):=by
 have O:=YJ (P:=P) (gC:=gC P s fc i x) E;have hj:∀n b w t,rQ P s c (gC P s fc i x) n b w t->∀d,(λ_=>True:o_->Prop) (w.at d):=λ_ _ _ _ _ _=>trivial
 refine(H.Uz (sl:=sl) (K:=λ_=>True) hj O (DT (A.blk.a13 _ _ _ _ _ _ _))).bind λgs1 w1 JL t1 _ H1=>?_
 obtain⟨⟨x0,u,fn,j,o⟩,H1⟩:=(H1.mono (C':=λg v=>∃y:Int×Int×Fn×X_×X_,g=BO (x13 P kv pa told f (c0::cs) s.r bA)/\Cells v [(R_ bA),(S_ bA 1),(S_ bA 2)] [a_ y.1,a_ y.2.1,.func y.2.2.1 y.2.2.2.1 y.2.2.2.2]/\S.Bl i told v) λg v ⟨hg,h⟩=>by
  obtain⟨x0,u,fn,j,o,h1,h2⟩:=S.blocked i told bA v h
  exact⟨(x0,u,fn,j,o),hg,h1,h2⟩).pick;refine(cZ.reads (sl:=JL) E.under O (A.blk.b13 _ _ _ _ _ _ _ (a_ x0) (a_ u) (.func fn j o)) (λv h=>h.1) H1).bind λgs2 w2 sl2 t2 _ H2=>?_
 refine(H2.Uz (sl:=sl2) (K:=λ_=>True) hj O (DT (A.blk.a14 _ _ _ _ _ _ _ _))).bind λgs3 w3 sl3 t3 _ H3=>?_
 rw[show run P 2 (BK (x13 P kv pa told f (c0::cs) s.r bA) (.agg #[a_ x0,a_ u,.func fn j o]))=x14 P kv pa told (PW x0 u fn j o) f (c0::cs) s.r bA from rfl,at_toldN (l:=[(0,pr s.r),(1,PW x0 u fn j o)]) (A.blk.b14 _ _ _ _ _ _ _ _) (A.blk.c14 _ _ _ _ _ _ _ _) (A.blk.d14 _ _ _ _ _ _ _ _)]at H3;refine(ZC (sl:=sl3) (J:=S.Bl i told) A W M E (H3.mono λg v h=>⟨h.1,h.2.2⟩)).bind λgs7 F OL t7 _ H7=>?_
 obtain⟨V,bB,H7⟩:=H7;obtain⟨q,n,B,g,v,h1,⟨rfl,⟨v0,hBl,gr,hbB,Cm⟩,z⟩,T,hZ,D⟩:=H7;obtain⟨π,C,Q,hp1,hp2,hback⟩:=S.bp5 i told v0 hBl;obtain⟨b,hb,hBy⟩:=D.idle;have υ:s.KS F:=hBy.1.1;have Y:=VD (P:=P) E (PW x0 u fn j o);refine(Zc (Am:=λg=>g=c) Y.leans Y.PT Y.lasts Y.meets Y.ϑ Y.ϐ rfl (es:=#[]) (n+sumTo gs7.size q+1) n gs7 _ F OL t7 q B wB h1 rfl D (Y.opens F υ) (λd=>gz (A.F7.xs _ _ _ _ _ _) (F.at d)) sJ).bind λgs8 X sl8 t8 _ Mt=>?_
 obtain⟨q8,g₂,d,k',m1,m2,m3,m4,m5,rfl,m7,m8,m9,m10,m11⟩:=Mt;subst m3;have hK':s.KS ((F.at d).setChan s.q1 0 #[] false (k'+1) (k'+1) false):=Y.keeps F d (k'+1) υ;generalize hw8:(F.at d).setChan s.q1 0 #[] false (k'+1) (k'+1) false=X at*;have h8:∀y,y≠s.q1->X.heap[y]?=F.heap[y]?:=λy R=>by rw[<-hw8];exact JY (gJ R)
 have h8s:X.heap.size=F.heap.size:=by rw[<-hw8];exact JI
 have h8o:CS Z F X:=by rw[<-hw8];exact Nk (E.zq ae7) F d (k'+1) false
 obtain⟨kq,hkq⟩:=hK'.2.2 s.q3 aW;have hpl:=(y_.1 hp1).1;have G:v.heap[pa.block]?=some (N_ π C):=by rw[gr.2.1 _ hpl];exact hp1
 have I:¬Z pa.block/\¬Od.dead pa.block:=by
  refine⟨λh=>?_,λh=>?_⟩
  .rw[T.dead _ h wB]at G;simp[DV]at G
  .rw[T.KN _ h]at G;simp[DV]at G
 have hbz:¬Z bB/\¬Od.dead bB:=⟨(T.cell z.1).2.1,T.Yh z.1⟩;have U:∀y,(y=pa.block\/bB<=y)->¬Z y:=λy R hz=>by
  obtain rfl|R:=R
  .exact I.1 hz
  .have:=hZ y hz;have:y≠bB:=λe=>hbz.1 (e ▸ hz)
   omega
 have hpw:X.heap[pa.block]?=some (N_ π C):=by
  rw[h8 pa.block (λe=>I.1 (by rw[e];exact E.zq ae7)),<-T.same _ I.1 I.2];exact G
 have hbw:bB<X.heap.size:=by rw[h8s,<-T.size];omega
 have hLs:∀l,(LL pa.block bB) l->¬Ad l:=λl ⟨a,e,ha⟩ h=>by subst e;exact U _ ha (E.under.1 a h)
 have hLt:∀l,(LL pa.block bB) l->¬s.Still l:=λl ⟨a,e,ha⟩ h=>by subst e;exact U _ ha ((Jj E.Lu).1 a h)
 have hLW:∀l,LY s.r s.pre l->¬(LL pa.block bB) l:=λl h hl=>hLs l hl (E.ofw l h)
 have hWL:∀l,LY s.r s.pre l->(λl=>Ad l\/LL pa.block bB l) l/\¬(λl=>s.Still l\/LL pa.block bB l) l:=λl h=>⟨.inl (E.ofw l h),λhs=>hs.elim (λhs=>(E.w l h).2 hs) (hLW l h)⟩
 have hnr:¬(LZ pa.block bB) s.r:=λh=>U _ h (E.Lu _ (by simp[J8.own]))
 have HX:=Xt (Zl:=(LZ pa.block bB)) (cs:=π) (UB:=C) (p:=Q) (sa:=pa.add 5) (.inl rfl);have HP:Ny P (λy=>y=s.r\/(LZ pa.block bB) y) (λl=>Ad l\/LL pa.block bB l) (λl=>s.Still l\/LL pa.block bB l) (λg=>g=c) c s.r s.pre 257 (Fz P s) (ja P c s.r s.pre 257 (Fz P s) (λl=>Ad l\/LL pa.block bB l) (λl=>s.Still l\/LL pa.block bB l) (LZ pa.block bB) (Jt π C (pa.add 5) Q)) (Jt π C (pa.add 5) Q):=
  bh4 (.inl rfl) (λ_ h=>.inr h) hnr hWL (λa ha=>⟨.inr ⟨a,rfl,ha⟩,.inr ⟨a,rfl,ha⟩⟩) E.c0 rfl HX;have hwalk:Ir P s.r s.pre 257 (LZ pa.block bB) (Fz P s).gR (Jt π C (pa.add 5) Q) (66+1) (Conc.served (gC P s fc i x) (commResult (G5 s.q1 s.q3) .select 0 (PW x0 u fn j o) true)) X:=by
  have:=yx (Zl:=(LZ pa.block bB)) (S0:=bB) (cs:=π) (UB:=C) (p:=Q) (pa:=D5 s.q0) (pb:=D5 s.q1) (pc:=D5 s.q2) (pd:=D5 s.q3) (A.back s.b5 s.b2 s.b3 s.r s.q0 s.q1 s.q3 (pa.add 5) s.n) (.inl rfl) (λy R=>.inr R) (by show pa.block<bB;omega) hp2 fc i x x0 u fn j o hpw hbw
  unfold gC Fz outs
  rw[hsv]
  exact this
 have hby:ByX P s c (ja P c s.r s.pre 257 (Fz P s) (λl=>Ad l\/LL pa.block bB l) (λl=>s.Still l\/LL pa.block bB l) (LZ pa.block bB) (Jt π C (pa.add 5) Q)) (Jt π C (pa.add 5) Q) kq (66+1+((Fz P s).k1+(Fz P s).k2+(Fz P s).k3+(Fz P s).k4+(Fz P s).nF+(Fz P s).nP+10)) (Conc.served (gC P s fc i x) (commResult (G5 s.q1 s.q3) .select 0 (PW x0 u fn j o) true)) X t8:=
  ⟨.inl ⟨⟨m10,m9.knL (λl ⟨a,e,_⟩=>by rw[e];rfl) hLs hLt E.ss⟩,hK'.1,m9.hears c (.inr rfl),66,rfl,hwalk⟩,hkq,hK'.2.1⟩;have D8:Duo P (λl=>Ad l\/LL pa.block bB l) (λl=>s.Still l\/LL pa.block bB l) (λg=>g=0) (λg=>g=c) B 0 c (ByX P s c (ja P c s.r s.pre 257 (Fz P s) (λl=>Ad l\/LL pa.block bB l) (λl=>s.Still l\/LL pa.block bB l) (LZ pa.block bB) (Jt π C (pa.add 5) Q)) (Jt π C (pa.add 5) Q) kq) _ gs8 X t8 q8:=
  ⟨gJ E.c0,.inl rfl,λg hg=>.inl hg,⟨_,m2,hby⟩,m7,m8,(m11.fewer (Me:=λg=>g=0) λg hg=>.inl hg).cw2 hLs,by rw[h8s];exact D.size⟩;have IA:∀y,(y=s.r\/(LZ pa.block bB) y)->(Z y\/(LZ pa.block bB) y):=λy R=>R.imp (λe=>by rw[e];exact E.Lu _ (by simp[J8.own])) id
 have hq0:∀y,s.own y->y≠s.r->¬(y=s.r\/(LZ pa.block bB) y):=λy ho CX h=>h.elim CX λh=>U y h (E.Lu y ho)
 have OB:=ve (Z':=λy=>Z y\/(LZ pa.block bB) y) (k:=kq) A.done E.ok E.c0 HP (.inl rfl) IA hWL (λy h=>.inl (E.Lu y h)) hq0;have e8:Conc.served (BO (xs P V (Y13 P kv pa told (PW x0 u fn j o) f (c0::cs) s.r bA) s.r s.q1 bB (PW x0 u fn j o))) (commResult (lU s.q1 (PW x0 u fn j o)) .send ((0:Nat):Int) undef false)=BO (vB P kv pa told (PW x0 u fn j o) f V (c0::cs) s.r s.q1 bA bB):=by
  rw[Uk];rfl
 have m1':gs8[0]?=some (BO (vB P kv pa told (PW x0 u fn j o) f V (c0::cs) s.r s.q1 bA bB)):=by rw[<-e8];exact m1
 refine(Ie (J:=λ_=>True) (λ_ _ _ _ _ _=>trivial) OB 16 (DT (A.blk.w4a kv pa told f V (c0::cs) s.r s.q1 bA bB (PW x0 u fn j o))) m1' D8).bind λgs9 w9 sl9 t9 _ ⟨q9,n9,B9,h9,o9,_,D9⟩=>?_
 obtain⟨fe,ee⟩:=XY (s:=s) (c0:=c0) (cs:=cs) A.F7 (A.blk.w4b kv pa told f V (c0::cs) s.r s.q1 bA bB (PW x0 u fn j o)) (A.blk.w4c kv pa told f V (c0::cs) s.r s.q1 bA bB (PW x0 u fn j o)) (A.blk.w4d kv pa told f V (c0::cs) s.r s.q1 bA bB (PW x0 u fn j o)) (A.blk.w4e kv pa told f V (c0::cs) s.r s.q1 bA bB (PW x0 u fn j o)) (A.blk.w4f kv pa told f V (c0::cs) s.r s.q1 bA bB (PW x0 u fn j o));have h9':gs9[0]?=some (BO (VW P s fe (ca4 P) told c0 cs)):=by rw[<-ee];exact h9
 refine(ZT (Z:=λy=>Z y\/(LZ pa.block bB) y) (Ad:=Ad) A E.ok E.c0 HP (.inl rfl) IA hWL (λy h=>.inl (E.Lu y h)) hq0 (λl hl h=>h.elim (E.ss l hl) λh=>hLt l h hl) (λy h=>h.elim (V9 y) λ⟨_,e,_⟩=>by cases e) (λl h h'=>h.resolve_right λhl=>h' (.inr hl)) (λ_ _ h=>h) h9' D9).mono λBA w' t' dd0=>?_
 obtain⟨q',B',j1,j2,j3,j4,j5,j6⟩:=dd0;have br0:CS (λy=>Z y\/(y=pa.block\/bB<=y)) F w':=((h8o.sub λ_ h=>.inl h).trans o9).trans j2;have TW:=T.bu7 hZ gr hbB Cm hbz hp1 I (ob':=VV π C (pa.add 5) Q) rfl br0 j6;have hle:v0.heap.size<=w'.heap.size:=by have:=br0.size;have:=T.size;omega
 refine⟨λy=>Z y\/(bB<=y/\y<w'.heap.size),λ_ h=>.inl h,told,{v0 with heap:=ET v0 pa.block (VV π C (pa.add 5) Q) w'.heap.size},B',hback _ ⟨?_,λy R CX=>?_,?_,rfl,rfl⟩,j1,q',TW,λr hr=>?_,j3,j4,j5⟩
 .simp[ET];exact hle
 .show(ET v0 pa.block _ w'.heap.size)[y]?=_;rw[Hu wB,ru CX,v_ R];rfl
 .show(ET v0 pa.block _ w'.heap.size)[pa.block]?=_;rw[Hu wB,rW rfl]
 .show r<(ET v0 pa.block _ w'.heap.size).size;simp only[ET,Array.size_ofFn];obtain hr|hr:=hr
  .have:=hZ r hr;have:=br0.size;have:=T.size;omega
  .exact hr.2
theorem bu4 (S:Tq P N m kv pa s.n)(e:s.sv=VM pa)(told:n_):al8 P N m s.r s.sv s.n (λi=>S.I i told) (λi x=>S.Cd i told x) (S.Bd told) where
 wp:=λi v f b a hi τ d=>by rw[e];exact S.step s.r i told v f b a hi τ d
 tI:=λi=>S.tI i told
 tC:=λi x=>S.tC i told x
 tB:=S.tB told
theorem aj2 (hT:Told f (rU kv pa told s.r s.q0 s.q2)):AQ f (slS kv pa told s.r)=f:=
 Told.eq λq hq=>hT q (by simp only[slS,rU,r_,lG,or_false]at hq ⊢;obtain h|h|h|h:=hq<;>simp[h])
theorem ad1 (A:Ff P)(W:Yl P L p N host)(E:Env Z Ad s c)(S:Tq P N m kv pa s.n)(hT:Told f (rU kv pa told s.r s.q0 s.q2)){w:o_}{sl:d_ (W_)}
  (H:cZ Od P Z Ad s.Still (λg=>g=0) (λg=>g=c) 0 c (ByT P s c kq) (λg v=>g=Conc.served (gK P s f (c0::cs)) (commResult (O9 s.q0 s.q2) .select 1 (b_ 2) true)/\S.Bd told v) gs w t):
  AX P gs w sl t (Back Od P Ad Z S.Fin c0 cs):=by
 have O:=al6 (P:=P) (k:=kq) A.done E;have C:∀n b w t,ByT P s c kq n b w t->∀d,(λ_=>True:o_->Prop) (w.at d):=λ_ _ _ _ _ _=>trivial
 have F:Conc.served (gK P s f (c0::cs)) (commResult (O9 s.q0 s.q2) .select 1 (b_ 2) true)=BO (n0 P kv pa told f (c0::cs) s.r s.q0 s.q2 2):=by
  unfold n0
  rw[aj2 hT]
  rfl
 rw[F]at H;refine(H.Uz (sl:=sl) (K:=λ_=>True) C O (DT (A.F7.n1a _ _ _ _ _ _ _ _))).bind λG w1 D X _ x=>?_
 rw[at_toldN (l:=slS kv pa told s.r) (A.F7.n1b _ _ _ _ _ _ _ _) (A.F7.n1c _ _ _ _ _ _ _ _) (A.F7.n1d _ _ _ _ _ _ _ _)]at x;refine(cZ.part (sl:=D) W E.under (Jj E.Lu) O (.inl rfl) rfl sJ (λv Q=>S.bad s.r told v _ Q) (λR v τ d ⟨j,a,e,h⟩=>⟨j,a,e,S.tF _ v τ d h⟩) x).bind λI w2 q Y _ i=>?_
 obtain⟨⟨o,a⟩,i⟩:=(i.mono (C':=λg v=>∃y:(Y_)×n_,g=BO (f56 (AQ y.1 [(7,y.2)]) (c0::cs) (T21 P) (QA s.r))/\S.Fin y.2 v) λg v ⟨R,M,j,a,e,h⟩=>⟨(j,a),by rw[M,e];rfl,h⟩).pick;refine(i.Uz (sl:=q) (K:=λ_=>True) C O (DT (A.F7.w3a _ _ _ _))).bind λJ wa u ta _ z=>?_
 obtain⟨U,e⟩:=XY (s:=s) (c0:=c0) (cs:=cs) A.F7 (A.F7.w3b a _ _ s.r) (A.F7.w3c a _ _ s.r) (A.F7.w3d a _ _ s.r) (A.F7.w3e a _ _ s.r) (A.F7.w3f a o (c0::cs) s.r);rw[show BO (run P 12 (f56 (AQ o [(7,a)]) (c0::cs) (T21 P) (QA s.r)))=BO (Fxa.w3 P a o (c0::cs) s.r)from rfl,e]at z;exact(Xo (sl:=u) A E z).mono λT w' V ⟨v,B,k1,k2,k3⟩=>⟨a,v,B,k1,k2,k3⟩
theorem pO (A:Ff P)(E:Env Z Ad s c)(S:Tq P N m kv pa s.n)(hT:Told f (rU kv pa told s.r s.q0 s.q2)){w:o_}{sl:d_ (W_)}
  (H:cZ Od P Z Ad s.Still (λg=>g=0) (λg=>g=c) 0 c (ByT P s c kq) (λg v=>g=Conc.served (gK P s f (c0::cs)) (commResult (O9 s.q0 s.q2) .select 1 (b_ 0) true)/\S.I s.n told v) gs w t):
  AX P gs w sl t (Back Od P Ad Z S.Fin c0 cs):=by
 have O:=al6 (P:=P) (k:=kq) A.done E;have l:∀n b w t,ByT P s c kq n b w t->∀d,(λ_=>True:o_->Prop) (w.at d):=λ_ _ _ _ _ _=>trivial
 have i:Conc.served (gK P s f (c0::cs)) (commResult (O9 s.q0 s.q2) .select 1 (b_ 0) true)=BO (n0 P kv pa told f (c0::cs) s.r s.q0 s.q2 0):=by
  unfold n0
  rw[aj2 hT]
  rfl
 rw[i]at H;refine(H.Uz (sl:=sl) (K:=λ_=>True) l O (DT (A.F7.w2a _ _ _ _ _ _ _ _))).bind λj y a u _ h=>?_
 obtain⟨p,e⟩:=XY (s:=s) (c0:=c0) (cs:=cs) A.F7 (A.F7.w2b kv pa told _ _ s.r s.q0 s.q2) (A.F7.w2c kv pa told _ _ s.r s.q0 s.q2) (A.F7.w2d kv pa told _ _ s.r s.q0 s.q2) (A.F7.w2e kv pa told _ _ s.r s.q0 s.q2) (A.F7.w2f kv pa told f (c0::cs) s.r s.q0 s.q2);rw[show BO (run P 32 (n0 P kv pa told f (c0::cs) s.r s.q0 s.q2 0))=BO (Fxa.w2 P kv pa told f (c0::cs) s.r s.q0 s.q2)from rfl,e]at h;exact(Xo (sl:=a) A E h).mono λo x q ⟨v,B,k1,k2,k3⟩=>⟨told,v,B,S.spent _ _ k1,k2,k3⟩
theorem xI (A:Ff P)(W:Yl P L p N host)(M:dU P N m)(E:Env Z Ad s c)(S:Tq P N m kv pa s.n)(hn:s.n<=1000)(hsv:s.sv=VM pa):
  ∀(k:Nat)(i:Int)(told:n_)(f fK:Y_)(gs:Array m_)(w:o_)(sl:d_ (W_))(t:Trace),(s.n-i).toNat<=k->0<=i->i<=s.n->Told fK (rU kv pa told s.r s.q0 s.q2)->
  cZ Od P Z Ad s.Still (I8 c) (λg=>g=0) c 0 (ByK P s c (gK P s fK (c0::cs))) (λg v=>g=BO (LH P (AQ f (Ob s.r s.sv s.n i)) (VK P s.b5 s.b2 s.b3 s.r s.sv s.n))/\S.I i told v) gs w t->
  AX P gs w sl t (zB Od P Ad Z S.Fin c0 cs):=by
 intro k
 induction k using Nat.strongRecOn with
 |_ k ih=>
  intro i told f fK gs w sl t hk h0 hle hT H
  have F:=A.child s.b5 s.b2 s.b3 s.r s.q0 s.q1 s.q2 s.q3 s.sv s.n
  have OK:=vg (P:=P) (gS:=gK P s fK (c0::cs)) E
  refine(yw F OW (bu4 S hsv told) hn W.fenced E.under (Jj E.Lu) zo (λw a h B=>JH h B) E.ss OK W.QM (W.seen 136 sJ) (W.ops _ sJ) h0 k i f gs w sl t hk (Int.le_refl _) hle H).bind λgs1 w1 T t1 _ j=>?_
  obtain j|j:=j.or
  ·
   obtain⟨⟨b,l,x⟩,j⟩:=(j.mono (C':=λg v=>∃y:Int×(Y_)×n_,(i<=y.1/\y.1<s.n)/\g=BO (k3 P s.q0 s.q3 (AQ y.2.1 (Fh s.r s.sv s.n y.1 1 y.2.2)) (VK P s.b5 s.b2 s.b3 s.r s.sv s.n))/\S.Cd y.1 told y.2.2 v) λg v ⟨b,l,x,k1,k2,k3,k4⟩=>⟨(b,l,x),⟨k1,k2⟩,k3,k4⟩).pick;obtain⟨⟨hi0,hi1⟩,j⟩:=j.fact;refine(cZ.give (sl:=T) (xQ E x) (λw h=>ap9 h) (MH _) (λw=>I5 (F.s16 l _ b x) w) (yl F OW l _ b x) j).bind λz w2 o t2 _ u=>?_
   refine(pU (sl:=o) A W E S hT u).bind λgs3 w3 D t3 _ q=>?_
   obtain(q|⟨f3,bA,q⟩)|⟨f3,J,bA,q⟩:=q
   .exact .now q.up
   .exact bY (sl:=D) A W M E S hsv q
   refine(kY (sl:=D) A W M E S q).bind λgs4 w4 Ob t4 _ O=>?_
   obtain⟨f4,An,Y,O⟩:=O;have U:=vg (P:=P) (gS:=gK P s f4 (c0::cs)) E;obtain⟨f5,hw5⟩:=ae (main:=c==0) (K:=s.KW) (Still:=s.Still) (A.ans s.r s.q0 s.q1 s.q3 s.sv s.n) l (VK P s.b5 s.b2 s.b3 s.r s.sv s.n) b x An;refine(O.walk (sl:=Ob) zo (λw a h B=>JH h B) E.ss U hw5).bind λgs5 w5 sl5 t5 _ H5=>?_
   refine(cZ.out (sl:=sl5) (Q:=λtm w'=>∃g,tm=TN 49 (AQ g [(6,.bool true)])/\S.I (b+1) J w') W E.under (Jj E.Lu) U sJ rfl sJ (λv hv=>by rw[hsv];exact S.oO s.q1 s.q3 b J An v f5 hv wB hi1) (λtm v τ d ⟨g,e,h⟩=>⟨g,e,S.tI _ _ v τ d h⟩) H5).bind λgs6 w6 Fh t6 _ R=>?_
   obtain⟨⟨V,td⟩,R⟩:=(R.mono (C':=λg v=>∃y:(Y_)×List Item,g=BO (a2 P s.q0 s.q1 s.q3 x (AQ l (Fxa.Fh s.r s.sv s.n b 1 x)) y.1 (VK P s.b5 s.b2 s.b3 s.r s.sv s.n) y.2)/\S.I (b+1) J v) λg v ⟨tm,G,hg,V,e,h⟩=>⟨(V,G),by rw[hg,e];rfl,h⟩).pick;obtain⟨f7,C⟩:=qW (main:=c==0) (K:=s.KW) (Still:=s.Still) (A.ans s.r s.q0 s.q1 s.q3 s.sv s.n) l V (VK P s.b5 s.b2 s.b3 s.r s.sv s.n) td b x;rw[show IntKind.i64.wrap (b+1)=b+1 by simp[IntKind.wrap,IntKind.bits,IntKind.signed];omega]at C;refine(R.walk (sl:=Fh) zo (λw a h B=>JH h B) E.ss U C).bind λX w7 OL t7 _ H7=>?_
   exact ih (s.n-(b+1)).toNat wB (b+1) J f7 f4 X w7 OL t7 w_ wB wB Y H7
  .obtain j|j:=j.or
   ·
    obtain⟨⟨b,l,x⟩,j⟩:=(j.mono (C':=λg v=>∃y:Int×(Y_)×n_,g=BO (e3 P s.q2 s.q3 (AQ y.2.1 (Fh s.r s.sv s.n y.1 2 y.2.2)) (VK P s.b5 s.b2 s.b3 s.r s.sv s.n))/\S.Bd told v) λg v ⟨b,l,x,k1,k2⟩=>⟨(b,l,x),k1,k2⟩).pick;refine(cZ.last (sl:=T) 2 E (MH _) (λw=>I5 (F.e16 l _ b x) w) (kX F l b x) j).bind λz w2 o t2 _ ⟨kq,u⟩=>?_
    exact(ad1 (sl:=o) A W E S hT u).mono λ_ _ _ h=>h.up
   ·
    obtain⟨l,j⟩:=j.pick;refine(cZ.last (sl:=T) 0 E (MH _) (λw=>I5 (F.d16 l _ s.n) w) (Z9 F l s.n) j).bind λz w2 o t2 _ ⟨kq,u⟩=>?_
    exact(pO (sl:=o) A E S hT u).mono λ_ _ _ h=>h.up
end
structure al9 (P:l_)(N:Fence)(m:Nat):Prop where
 boxes:∀(sa:f_)(n:Int)(v:o_)(g:Y_),∀τ d,(S0 P).wpIn N m P (Ends λtm w'=>∃g' b2 b3,tm=TN 18 (AQ g' [(2,pr b2),(3,pr b3)])/\IG v w'/\v.heap.size<=b2/\v.heap.size<=b3/\b2<w'.heap.size/\b3<w'.heap.size/\b2≠b3/\w'.cell? (R_ b2)=some (.pointer (some sa))/\w'.cell? (R_ b3)=some (b_ n)) ⟨TN 18 (AQ g [(0,.pointer (some sa)),(1,b_ n)]),[]⟩ (v.re τ d)
 makes:∀(b2 b3:Nat)(v:o_)(g:Y_),∀τ d,(S1 P).wpIn N m P (Ends λtm w'=>∃g' b5 r q0 q1 q2 q3,tm=TN 18 (AQ g' (ύ b2 b3 b5))/\IG v w'/\(∀x∈[b5,r,q0,q1,q2,q3],v.heap.size<=x)/\[b5,r,q0,q1,q2,q3].Nodup/\BC r #[D5 q0,D5 q1,D5 q2,D5 q3] 257 w' 0 0/\w'.cell? (R_ b5)=some (pr r)/\∀q∈[q0,q1,q2,q3],w'.heap[q]?=some (.chan 0 #[] false 0 0 false)) ⟨TN 18 (AQ g [(2,pr b2),(3,pr b3)]),[]⟩ (v.re τ d)
structure κ {P:l_}{N:Fence}{m:Nat}{kv:n_}{pa:f_}{n:Int}(S:Tq P N m kv pa n) where
 B0:o_->Prop
 B2:o_->Prop
 B3:o_->Prop
 t2:Dw B2
 t3:Dw B3
 bring:∀(v:o_)(f:Y_),B0 v->∀τ d,(R2 P).wpIn N m P (Ends λtm w'=>∃f',tm=TN 76 (AQ f' (rV kv pa n Di))/\B2 w') ⟨TN 76 (AQ f (rV kv pa n Di)),[]⟩ (v.re τ d)
 clear:∀(v:o_)(f:Y_),B2 v->∀τ d,(R3 P).wpIn N m P (Ends λtm w'=>∃f',tm=TN 76 (AQ f' (rV kv pa n Di))/\B3 w') ⟨TN 76 (AQ f (rV kv pa n Di)),[]⟩ (v.re τ d)
 start:∀v v',B3 v->IG v v'->S.I 0 Di v'
section
variable {P:l_}{L:h_->Prop}{p:h_->Oper->Bool}{N:Fence}{m:Nat}{host:h_}{Z:Nat->Prop}{Ad:Loc->Prop}{gs:Array m_}{w:o_}{sl:d_ (W_)}{t:Trace}
theorem Y7.part (W:Yl P L p N host)(D:Gx Ad Z)(A:EH=56\/EH=93\/EH=97\/EH=136\/EH=187)(n:(kd==CallKind.early)=false)
  (y:c∈[R2 P,R3 P,S0 P,S1 P,R10 P,R11 P,R15 P,R16 P,A0 P,R21 P,XA P,aX P,R12 P]) (E:∀τ d,c.wpIn N m P (Ends Q) ⟨tmps,[]⟩ (v.re τ d)) (u:∀h,Dw (Q h)) (r:Y7 Od P Ad Z B v gs w t) (s:gs[0]?=some (G (Frame.mk EH tmps (.code c::k) ds .run kd none) cs)):
  AX P gs w sl t λl w' o=>∃h v' j,l[0]?=some (G (Frame.mk EH h k ds .run kd none) cs)/\Q h v'/\Y7 Od P Ad Z j v' l w' o:=by
 refine(MS W.fenced D W.QM (W.seen EH A) n (W.ops c y) jH E r s).mono λl w' o ⟨g,v',j,a,⟨h,τ,d,hb⟩,_,_,b⟩=>?_
 obtain⟨rfl,_,_,hq⟩|⟨_,_,e,_⟩:=hb
 .exact⟨h,v',j,a,(u h).back hq,b⟩
 .cases e
theorem IG.trans {a b c:o_}(h:IG a b)(e:IG b c):IG a c:=
 ⟨lN h.1 e.1,λx d=>(e.2.1 x (Nat.lt_of_lt_of_le d h.1)).trans (h.2.1 x d),e.2.2.1.trans h.2.2.1,e.2.2.2.trans h.2.2.2⟩
theorem qL (A:Ff P)(W:Yl P L p N host)(M:dU P N m)(ST:al9 P N m){kv:n_}{pa:f_}{n:Int}{c0:Frame}(hn:n<=1000)(hn0:0<=n)(S:Tq P N m kv pa n)(U:κ S)(hu:Gx Ad Z)(hB0:U.B0 v)(Bs:Y7 Od P Ad Z B v gs w t)
  (h0:gs[0]?=some (BO (z0 P kv pa n (c0::cs)))):
  NG P gs w sl t λBA w' t'=>∃Z' Po,(∀x,Z x->Z' x)/\Gx Po Z'/\Back Od P Po Z' S.Fin c0 cs BA w' t':=by
 have K:=A.F7;refine(Bs.Uz h0 (DT (K.z1a _ _ _ _))).then λgs1 w1 JL t1 _ ⟨h1,Bs1,_⟩=>?_
 rw[show run P 9 (z0 P kv pa n (c0::cs))=z1 P kv pa n (c0::cs)from rfl,at_toldN (l:=rV kv pa n Di) (K.z1b _ _ _ _) (K.z1c _ _ _ _) (K.z1d _ _ _ _)]at h1;refine(Y7.part W hu (.inl rfl) rfl sJ (U.bring v _ hB0) (λtm v τ d ⟨f',e,h⟩=>⟨f',e,U.t2 v τ d h⟩) Bs1 h1).then λgs2 w2 sl2 t2 _ ⟨tm2,v2,B2,h2,⟨f2,e2,hB2⟩,Bs2⟩=>?_
 subst e2;refine(Bs2.Uz h2 (Jd (K.z3 (AQ f2 (rV kv pa n Di)) (c0::cs)))).then λgs3 w3 sl3 t3 _ ⟨h3,Bs3,_⟩=>?_
 refine(Y7.part W hu (.inl rfl) rfl sJ (U.clear v2 f2 hB2) (λtm v τ d ⟨f',e,h⟩=>⟨f',e,U.t3 v τ d h⟩) Bs3 h3).then λgs4 w4 Ob t4 _ ⟨tm4,v4,B4,h4,⟨D,e4,hB4⟩,Bs4⟩=>?_
 subst e4;refine(Bs4.Uz h4 (DT (K.z5a kv pa n Di D (c0::cs)))).then λgs5 w5 sl5 t5 _ ⟨h5,Bs5,_⟩=>?_
 rw[show run P 8 (f56 (AQ D (rV kv pa n Di)) (c0::cs) (T3 P) [])=z5 P kv pa n Di D (c0::cs)from rfl,at_toldN (l:=[(0,VM pa),(1,b_ n)]) (K.z5b _ _ _ _ _ _) (K.z5c _ _ _ _ _ _) (K.z5d _ _ _ _ _ _)]at h5;refine(Y7.part W hu (.inr (.inl rfl)) rfl sJ (ST.boxes (pa.add 5) n v4 _) (λtm v τ d h=>h) Bs5 h5).then λgs6 w6 Fh t6 _ ⟨tm6,v6,B6,h6,⟨g6,f,j,e6,H,k2,k3,l2,l3,k23,c2,c3⟩,Bs6⟩=>?_
 subst e6;refine(Bs6.Uz h6 (Jd (K.y1 (AQ g6 [(2,pr f),(3,pr j)]) (Y4 P kv pa n Di D (c0::cs))))).then λgs7 w7 OL t7 _ ⟨h7,Bs7,_⟩=>?_
 refine(Y7.part W hu (.inr (.inl rfl)) rfl sJ (ST.makes f j v6 g6) (λtm v τ d h=>h) Bs7 h7).then λgs8 w8 sl8 t8 _ ⟨tm8,v8,B8,h8,⟨E,o,r,O,q1,Q,q3,e8,z,C,knd,kr,k5,kq⟩,Bs8⟩=>?_
 subst e8;have hZ4:∀x,Z x->x<v4.heap.size:=Bs4.choose_spec.2.1;have T4:Yr Od Z v4 w4:=Bs4.choose_spec.1;obtain⟨q8,T8,hZ8,L8,P8,S8⟩:=Bs8;have cw3:v6.heap.size<=o/\v6.heap.size<=r/\v6.heap.size<=O/\v6.heap.size<=q1/\v6.heap.size<=Q/\v6.heap.size<=q3:=⟨C _ sJ,C _ sJ,C _ sJ,C _ sJ,C _ sJ,C _ sJ⟩;obtain⟨m5,mr,m0,m1,m2,m3⟩:=cw3;simp only[List.nodup_cons,r_,lG,or_false,not_or,List.nodup_nil,and_true,not_false_eq_true]at knd;obtain⟨⟨d5r,d50,d51,d52,d53⟩,⟨dr0,dr1,dr2,dr3⟩,⟨d01,d02,d03⟩,⟨d12,d13⟩,d23⟩:=knd;have g46:=H.1;have g68:=z.1
 let b:J8:=⟨f,j,o,r,O,q1,Q,q3,VM pa,n⟩
 have G:∀q,b.chs q->v8.heap[q]?=some (.chan 0 #[] false 0 0 false):=λq h=>kq q (by obtain e|e|e|e:=h<;>simp[e,b])
 have V:∀x,b.own x->v4.heap.size<=x:=λx c=>by
  simp only[J8.own,b]at c
  omega
 have BL:∀x,b.own x->x<v8.heap.size:=λx c=>by
  have hr:=kr.lt
  have h5:=ML k5
  have e0:=(y_.1 (G O (.inl rfl))).1
  have e1:=(y_.1 (G q1 (.inr (.inl rfl)))).1
  have e2:=(y_.1 (G Q (.inr (.inr (.inl rfl))))).1
  have e3:=(y_.1 (G q3 (.inr (.inr (.inr rfl))))).1
  simp only[J8.own,b]at c
  simp only at h5
  omega
 have hnz:∀x,b.own x->¬Z x:=λx c hz=>by have:=V x c;have:=hZ4 x hz;omega
 have OK:b.Ok:=by
  refine⟨λq hq=>?_,?_,?_⟩
  .simp only[J8.chs,b]at hq;simp only[b];refine⟨wB,wB,?_,?_⟩<;>(obtain e|e|e|e:=hq<;>subst e<;>first|exact gJ d50|exact gJ d51|exact gJ d52|exact gJ d53|exact gJ dr0|exact gJ dr1|exact gJ dr2|exact gJ dr3)
  .simp only[b];exact⟨wB,wB,d5r⟩
  .exact⟨d01,d02,d03,d12,d13,d23⟩
 have hod:∀x,b.own x->¬Od.dead x:=λx c F=>by have:=V x c;have:=(y_.1 (T4.KN x F)).1;omega
 have mG:∀x,b.own x->w8.heap[x]?=v8.heap[x]?:=λx c=>(T8.same x (hnz x c) (hod x c)).symm
 have BJ:BC r b.pre 257 w8 0 0:=by unfold BC;rw[mG r (by simp[J8.own,b])];exact kr
 have y:b.cells w8:=by
  refine⟨Ij k5 (mG o (by simp[J8.own,b])),Ij (w:=v8) ?_ (mG f (by simp[J8.own,b])),Ij (w:=v8) ?_ (mG j (by simp[J8.own,b]))⟩
  .exact Ij c2 (z.2.1 f l2)
  .exact Ij c3 (z.2.1 j l3)
 have cz9:∀q,b.chs q->w8.heap[q]?=some (.chan 0 #[] false 0 0 false):=λq h=>by
  rw[mG q (by obtain e|e|e|e:=h<;>simp[J8.own,e])];exact G q h
 obtain⟨v9,T9,sz9,cj1,os9,cv6⟩:=T8.kill (Z':=λx=>Z x\/b.own x) (λ_ h=>.inl h) (λx c F=>c.elim (T8.ax x F) λh=>hod x h F);have hg9:IG v4 v9:=by
  refine⟨wB,λx c=>?_,by rw[os9,z.2.2.1,H.2.2.1],by rw[cv6,z.2.2.2,H.2.2.2]⟩
  by_cases hz:Z x
  .rw[T9.dead x (.inl hz) wB,T4.dead x hz c]
  .have F:¬b.own x:=λF=>by have:=V x F;omega
   rw[cj1 x (λh=>h.elim hz F),z.2.1 x wB,H.2.1 x c]
 have hZ9:∀x,(Z x\/b.own x)->x<v9.heap.size:=λx c=>by
  rw[sz9]
  exact c.elim (hZ8 x) (BL x)
 have Y:Gx (λl=>Ad l\/LY b.r b.pre l) (λx=>Z x\/b.own x):=by
  refine⟨λa h=>?_,λx h=>?_⟩
  .obtain h|h|h:=h
   .exact .inl (hu.1 a h)
   .injection h with h;subst h;exact .inr (by simp[J8.own,stA])
   .injection h with h;subst h;exact .inr (by simp[J8.own,smA])
  .obtain h|h|h:=h
   .exact .inl (hu.2 x h)
   .cases h
   .cases h
 have J:∀l,b.Still l->¬(Ad l\/LY b.r b.pre l):=λl hl h=>by
  obtain h|h:=h
  .have:∃a,l=.cell a/\b.own a.block:=by obtain e|e|e|e|e|e|e:=hl<;>exact⟨_,e,by simp[J8.own]⟩
   obtain⟨a,rfl,ha⟩:=this;exact hnz _ ha (hu.1 a h)
  .exact Wl h hl
 have Bs9:Y7 Od P (λl=>Ad l\/LY b.r b.pre l) (λx=>Z x\/b.own x) B8 v9 gs8 w8 t8:=⟨q8,T9,hZ9,L8,Past.shun P8 (λ_ h=>.inl h),S8⟩;refine(Bs9.Uz h8 (DT (K.y3a E (Y4 P kv pa n Di D (c0::cs)) f j o))).then λgsa wa sla ta _ ⟨ha,Ba,wa8⟩=>?_
 refine(Ba.read ha (K.y3b E _ f j o r) (Ij y.1 (by rw[wa8])) (J _ (.inl rfl))).then λgsb wb slb tb _ ⟨hb,Bb,wba⟩=>?_
 refine(Bb.Uz hb (DT (K.y4a E _ f j o r))).then λgsc wc slc tc _ ⟨hc,Bc,wcb⟩=>?_
 have ec:wc.heap=w8.heap:=wcb.trans (wba.trans wa8);have hc':gsc[0]?=some (BO (y4 P E (Y4 P kv pa n Di D (c0::cs)) f j o r)):=hc;rw[K.y4b]at hc';obtain⟨qc,Tc,hZc,Lc,Pc,Sc⟩:=Bc;refine(yI (Z:=λx=>x=r) (bz0 (A.add _ _ _)) rfl hc' Lc Pc Sc (show BC r b.pre 257 wc 0 0 by unfold BC;rw[ec];exact BJ)).then λgsd wd sld td _ ⟨qd,hd,od,rd,Ld,Pd,Sd⟩=>?_
 have odZ:CS (λx=>Z x\/b.own x) wc wd:=⟨od.size,λx c=>od.same x (λe=>c (.inr (by simp[J8.own,b,e]))),od.os,od.output,od.tape⟩;have Bd:Y7 Od P (λl=>Ad l\/LY b.r b.pre l) (λx=>Z x\/b.own x) B8 v9 gsd wd td:=⟨qd,Tc.off hZc odZ,hZc,Ld,Pd,Sd⟩;have KSd:b.KS wd:=by
  refine⟨rd,y.keep λx c=>?_,λq hq=>⟨0,?_⟩⟩
  .rw[od.same x (by obtain e|e|e:=c<;>subst e<;>first|exact OK.br.2.2|exact OK.br.1|exact OK.br.2.1),ec]
  .rw[od.same q (OK.bq q hq).2.2.2,ec];exact cz9 q hq
 refine(Bd.Uz hd (DT (K.y6a E (Y4 P kv pa n Di D (c0::cs)) f j o r))).then λu we sle te _ ⟨he,Be,eed⟩=>?_
 have KSe:b.KS we:=(Ov (s:=b) (Z:=λ_=>True) (λ_ _=>trivial)).keep wd we (λx _=>by rw[eed]) KSd;obtain⟨qe,Te,hZe,Le,Pe,Se⟩:=Be;have Mc:0<u.size:=(y_.1 he).1;have EV:Env (λx=>Z x\/b.own x) (λl=>Ad l\/LY b.r b.pre l) b u.size:=⟨λ_ h=>.inr h,Y,λ_ h=>.inr h,J,OK,wB⟩;obtain⟨fK,hTK,hgK,hcK⟩:=zK (s:=b) K (K.cq8 kv pa n Di D E (c0::cs) f j o r O Q) (K.cq7 kv pa n Di D E (c0::cs) f j o r O Q) (K.cq6 kv pa n Di D E (c0::cs) f j o r O Q);have R:=OW (s:=b);have hw:RW P true b.KW b.Still 58 (BO (BK (y6 P E (Y4 P kv pa n Di D (c0::cs)) f j o r) undef)) (BO (y10 P kv pa n Di D E (c0::cs) f j o r O Q)):=
  ((((((RW.AU (K.y7a _ _ _ _ _ _)).trans (RW.at (K.y7b _ _ _ _ _ _) R.c5 R.s5)).trans (RW.AU (K.y8a _ _ _ _ _ _ _ _ _ _ _))).trans (RW.at (K.y8b _ _ _ _ _ _ _ _ _ _ _ O) R.r0 R.t0)).trans (RW.AU (K.y9a _ _ _ _ _ _ _ _ _ _ _ _))).trans (RW.at (K.y9b _ _ _ _ _ _ _ _ _ _ _ _ Q) R.r2 R.t2)).trans (RW.AU (K.cq9 _ _ _ _ _ _ _ _ _ _ _ _ _));have QG:=RW.seat (k:=0) (home:=(·=gK P b fK (c0::cs))) (cases:=O9 b.q0 b.q2) (shape:=.select) (MH _) ⟨_,#[],hgK,MH _,sJ,λw _=>I5 hcK w⟩ hw;obtain⟨N1,gsf,df,slf,tf,qf,hrf,hzf,hcf,Df⟩:=au3 (K:=b.KW) (K1:=b.KS) (TT:=KI u.size b.r b.pre) (sl:=sle) (Ov (s:=b) EV.Lu) (λl hl=>by obtain e|e|e|e|e|e|e:=hl<;>subst e<;>rfl) J he (MH _) Le Pe Se (λd=>wV (K.y6b E _ f j o r) (we.at d)) sJ KSe
  (λt' hp i a ha F hk=>by
   have hmem:a.loc.isMemory=true:=by obtain e|e:=F<;>rw[e]<;>rfl
   obtain h|⟨_,h,_⟩|⟨_,h,_⟩:=hp.known i a ha hmem
   .exact h
   .exact(Wl F h).elim
   .rw[hk]at h;cases h.1) (zY KSe) (MH _) QG
 have Hf:cZ Od P (λx=>Z x\/b.own x) (λl=>Ad l\/LY b.r b.pre l) b.Still (I8 u.size) (λg=>g=0) u.size 0 (ByK P b u.size (gK P b fK (c0::cs))) (λg v=>g=BO (ch0 P o f j)/\S.I 0 Di v) gsf (we.at df) tf:=
  ⟨qf,_,B8,_,v9,hcf,⟨rfl,U.start v4 v9 hB4 hg9⟩,Te.off hZe (CS.at we df),hZe,Df⟩;obtain⟨fb,bx5⟩:=qV (main:=u.size==0) (A.child o f j r O q1 Q q3 (VM pa) n) R;have step2:NG P gsf (we.at df) slf tf (zB Od P (λl=>Ad l\/LY b.r b.pre l) (λx=>Z x\/b.own x) S.Fin c0 cs):=
  (Hf.walk (sl:=slf) zo (λw a h hs=>JH h hs) J (vg EV) bx5).then λgsg wg slg tg _ Hg=>
   (xI (s:=b) A W M EV S hn rfl n.toNat 0 Di fb fK gsg wg slg tg (by show(n-0).toNat<=n.toNat;omega) (Int.le_refl _) hn0 hTK Hg).leads
 obtain⟨N2,da5,w2',sl2',t2',hr2,X⟩:=step2;obtain⟨Zf,T,X⟩:=X;exact⟨N1+N2,da5,w2',sl2',t2',by rw[runNT_add,hrf];exact hr2,Zf,_,λ_ h=>T _ (.inl h),⟨λa h=>T _ (Y.1 a h),λx h=>T _ (Y.2 x h)⟩,X⟩
end
end Go.Fxa
namespace Go.Fxa
open Go.Conc Go.Proofs
theorem ad3:Ff prog where
 F7:=aa0
 child:=λ_ _ _ _ _ _ _ _ _ _=>qR
 ans:=λ_ _ _ _ _ _=>ad2
 done:=λr b a=>xX r b a
 add:=λr c Y=>ad4 r c Y
 wait:=λr c Y=>vN r c Y
 mixed:=sU
 blk:=ac9
 back:=λ_ _ _ _ _ _ _ _ _=>yE
end Go.Fxa
namespace Go
open Go.Fxa Go.Conc
def Sem.KL (P:l_){α:Type}:Sem α->Prop
 |.pure _=>True
 |.load _ _ k=>∀x,(k x).KL P
 |.store _ _ _ k=>k.KL P
 |.new o k=>o.plain=true/\∀r,(k r).KL P
 |.shape _ k=>∀s,(k s).KL P
 |.freeze _ _ k=>k.KL P
 |.frozen _ k=>∀b,(k b).KL P
 |.getObj _ k=>∀o,(k o).KL P
 |.setObj _ o k=>o.plain=true/\k.KL P
 |.choose _ k=>∀n,(k n).KL P
 |.sys _ k=>∀r,(k r).KL P
 |.program k=>(k P).KL P
 |.mark _ k=>k.KL P
 |.halt h=>h.LD=true
end Go
namespace Go.Fxa
open Go.Conc
variable {P:l_}{α β:Type}{t e:j_}{v:o_}{n i c b l d:Nat}{ps:Array (Nat×n_)}{x recv:n_}{a args:X_}{y:Operand}{ts:Array j_}{fr:Frame}{op:BinOp}{f:h_}{name:String}
theorem Np {e:Sem α}{f:α->Sem β}(h:e.KL P)(g:∀a,(f a).E5 P):(e>>= f).E5 P:=by
 show(e.bind f).E5 P
 induction e with
 |pure a=>exact g a
 |load m a k b=>exact λx=>b x (h x)
 |store m a v k b=>exact b h
 |new o k b=>exact⟨h.1,λx=>b x (h.2 x)⟩
 |shape r k b=>exact λx=>b x (h x)
 |freeze a n k b=>exact b h
 |frozen a k b=>exact λx=>b x (h x)
 |getObj r k b=>exact λx=>b x (h x)
 |setObj r o k b=>exact⟨h.1,b h.2⟩
 |choose q k b=>exact λx=>b x (h x)
 |sys c k b=>exact λx=>b x (h x)
 |program k b=>exact b P h
 |mark m k b=>exact b h
 |halt d=>exact h
theorem Su {e:Sem α}{f:α->Sem β}(h:e.KL P)(g:∀a,(f a).KL P):(e>>= f).KL P:=by
 show(e.bind f).KL P
 induction e with
 |pure a=>exact g a
 |load m a k b=>exact λx=>b x (h x)
 |store m a v k b=>exact b h
 |new o k b=>exact⟨h.1,λx=>b x (h.2 x)⟩
 |shape r k b=>exact λx=>b x (h x)
 |freeze a n k b=>exact b h
 |frozen a k b=>exact λx=>b x (h x)
 |getObj r k b=>exact λx=>b x (h x)
 |setObj r o k b=>exact⟨h.1,b h.2⟩
 |choose q k b=>exact λx=>b x (h x)
 |sys c k b=>exact λx=>b x (h x)
 |program k b=>exact b P h
 |mark m k b=>exact b h
 |halt d=>exact h
section
variable {P:l_}
theorem XN:(underlying t).KL P:=by
 show Sem.KL P (Sem.program _);show Sem.KL P (match P.underlying t with|some d=>_|none=>_);cases P.underlying t<;>first|trivial|rfl
theorem qO:(elemOf t).KL P:=by
 refine Su XN λd=>?_
 cases d<;>first|trivial|rfl
theorem VH {e:RuntimeError}:(runtimePanic e:Sem α).E5 P:=by
 refine Np (e:=program) trivial λp=>?_
 cases e<;>first
  |exact Qs
  |exact Np qO λ_=>Np (e:=newVar _ _) ⟨rfl,λ_=>trivial⟩ λ_=>Qs
theorem Gt {f:TypeDesc->Sem α}{K:α->Prop}(h:∀d,P.underlying t=some d->(f d).Au P K):(underlying t>>= f).Au P K:=Ej AB h
theorem wH {h:Bool}{g:n_}:(Instr.alloc e h g).Au P λ_=>True:=by
 unfold Instr.alloc;refine Ac Fg λz=>?_
 split
 .exact Ac TA λ_=>Ae trivial
 .exact Ac Q3 λ_=>Ae trivial
theorem an1 {v:n_}:(Instr.box e v).Au P λ_=>True:=Ac Q3 λ_=>Ae trivial
theorem DW:(sizeOf t).Au P λ_=>True:=Bf Oz
theorem Eh:(typeInfo t).Au P λ_=>True:=Bf IK
theorem Vu:(askRoom n).Au P λ_=>True:=by
 unfold askRoom;exact AO (λ_=>.inl ⟨rfl,dE⟩) λ_=>Ae trivial
theorem wu:(Instr.build t ps).Au P λ_=>True:=by
 unfold Instr.build;refine Ac Fg λz=>Ac (Bf AB) λd=>?_
 split
 .refine Ac (Zq (λf=>Ac DW λ_=>Ae trivial) _) λa=>?_
  split
  .exact Ae trivial
  .exact Ak
 .refine Ac DW λn=>?_
  split
  .exact Ae trivial
  .exact Ak
 .exact Ak
theorem XK:(Instr.buildSlice t n ps).Au P λ_=>True:=by
 unfold Instr.buildSlice;refine Ac (Bf AB) λd=>?_
 split
 .refine Ac DW λsize=>?_
  extract_lets jp jp2
  have b:∀z,(jp z).Au P λ_=>True:=λz=>by
   simp only[jp]
   split
   .exact Ac KY λ_=>Ae trivial
   .exact Ak
  have a:∀z,(jp2 z).Au P λ_=>True:=λz=>by
   simp only[jp2]
   exact AO (λ_=>Ac (Ae trivial) λ_=>b _) λ_=>Ac Fg λ_=>Ac (Ae trivial) λ_=>b _
  exact AO (λ_=>rfl) λ_=>a ()
 .exact Ak
theorem ZY {l c:n_}:(Instr.makeSlice t l c).Au P λ_=>True:=by
 unfold Instr.makeSlice;refine Ac (Bf AB) λd=>?_
 split
 .refine Ac NQ λa=>Ac NQ λb=>Ac Eh λi=>?_
  extract_lets bytes tooLarge l' c' jp
  have e:∀z,(jp z).Au P λ_=>True:=λz=>by
   simp only[jp]
   refine Ac Vu λ_=>Ac DW λk=>?_
   exact AO (λ_=>Ac (Ae trivial) λ_=>Ac KY λ_=>Ae trivial) λ_=>Ac Fg λ_=>Ac (Ae trivial) λ_=>Ac KY λ_=>Ae trivial
  refine AO (λ_=>AO (λ_=>Ac Bg λu=>e u) λ_=>AO (λ_=>Ac Bg λu=>e u) λ_=>Ac FT λ_=>Ac Bg λu=>e u) λ_=>e ()
 .exact Ak
theorem FM {y:Nat}{c:BoundsCode}:(Instr.sliceBound x y c).Au P λ_=>True:=by
 unfold Instr.sliceBound;refine Ac (Bf MO) λa=>?_
 exact AO (λ_=>Ae trivial) λ_=>Gv
theorem bn {f:Fn}{b:X_}:(Instr.makeFunc f a b).Au P λ_=>True:=Ae trivial
theorem Ux:(Instr.makeInterface t x).Au P λ_=>True:=by
 unfold Instr.makeInterface;refine Ac (Bf AB) λd=>?_
 split
 .exact Ak
 .exact Ae trivial
theorem jY:(Instr.extract x i).Au P λ_=>True:=by
 unfold Instr.extract;split
 .split
  .exact Ae trivial
  .exact Ak
 .exact Ak
theorem vY:(Instr.field t x i).Au P λ_=>True:=by
 unfold Instr.field;refine Ac (Bf AB) λd=>?_
 split
 .split
  .exact Ac wG λ_=>Ja
  .exact Ak
 .exact Ak
theorem vX {i:n_}:(Instr.index t x i).Au P λ_=>True:=by
 unfold Instr.index;refine Ac (Bf MO) λa=>Ac (Bf AB) λd=>?_
 split
 .exact AO (λ_=>Ac DW λ_=>Ja) λ_=>Gv
 .split
  .exact Ae trivial
  .exact Gv
 .exact Ak
theorem o6 {a:f_}:(partAt a c b).Au P λ_=>True:=Ac Q7 λ_=>Ac Q7 λ_=>Ae trivial
theorem LP {a:f_}{f:Field}:(fieldPlace a f).Au P λ_=>True:=by
 unfold fieldPlace;exact Ac DW λ_=>AO (λ_=>o6) λ_=>Ae trivial
theorem jX:(Instr.fieldAt t x i).Au P λ_=>True:=by
 unfold Instr.fieldAt;refine Ac (Bf AB) λd=>?_
 split
 .split
  .exact Ac IL λ_=>Ac LP λ_=>Ae trivial
  .exact Ak
 .exact Ak
theorem pq:(Instr.loadAt t x).Au P λ_=>True:=Ac IL λ_=>Ik
theorem jT {y:n_}:(Instr.storeAt t x y).Au P λ_=>True:=Ac IL λ_=>TA
theorem vW:(Instr.panic x).Au P λ_=>True:=by
 unfold Instr.panic;split
 .exact Ql
 .have a:(Instr.panicnil).KL P:=by
   unfold Instr.panicnil
   refine λr=>?_
   cases r<;>first|exact rfl|exact dE
  exact Sem.E5.lK (Np a λn=>by split<;>first|exact Qs|exact VH)
 .exact Ak
theorem Gu {b:Bool}{x y z:d_ n_}:(Instr.sliceBounds b l c x y z).Au P λ_=>True:=by
 unfold Instr.sliceBounds
 extract_lets j1
 have a:∀k,(j1 k).Au P λ_=>True:=λk=>by
  cases y<;>cases z<;>cases x<;>simp only[j1]<;>first
   |exact Ac FM λ_=>Ac FM λ_=>Ae trivial
   |exact Ac FM λ_=>Ac (Ae trivial) λ_=>Ae trivial
   |exact Ac (Ae trivial) λ_=>Ac FM λ_=>Ae trivial
   |exact Ac (Ae trivial) λ_=>Ac (Ae trivial) λ_=>Ae trivial
   |exact Ac Ak λ_=>Ac FM λ_=>Ae trivial
   |exact Ac Ak λ_=>Ac (Ae trivial) λ_=>Ae trivial
 clear_value j1
 split
 .exact Ac FM λ_=>a _
 .exact Ac (Ae trivial) λ_=>a _
theorem vV {a b c:d_ n_}:(Instr.slice t x a b c).Au P λ_=>True:=by
 unfold Instr.slice;refine Ac (Bf AB) λd=>?_
 split
 .exact AO (λ_=>Ac Ak λ_=>Ac Gu λ_=>Ae trivial) λ_=>Ac Gu λ_=>Ae trivial
 .exact Ac Gu λ_=>Ac DW λ_=>Ae trivial
 .refine Ac Lj λ_=>Ac (Bf AB) λd=>?_
  split
  .exact Ac Gu λ_=>Ac DW λ_=>Ae trivial
  .exact Ak
 .exact Ak
theorem jU {a b c:d_ n_}:(Instr.sliceAt t x a b c).Au P λ_=>True:=by
 unfold Instr.sliceAt;refine Ac (Bf AB) λd=>?_
 split
 .exact Ac IL λ_=>Ac Gu λ_=>Ac DW λ_=>Ae trivial
 .exact vV
theorem jW {i:n_}:(Instr.indexAt t x i).Au P λ_=>True:=by
 unfold Instr.indexAt;refine Ac (Bf MO) λe=>Ac (Bf AB) λd=>?_
 extract_lets jp
 have b:∀z,(jp z).Au P λ_=>True:=λ⟨base,len,elem⟩=>by
  simp only[jp]
  refine Ac (Bf AB) λc=>?_
  cases base with
  |none=>exact Gv
  |some a=>exact AO (λ_=>Ac DW λ_=>Ae trivial) λ_=>AO (λ_=>rfl) λ_=>Gv
 clear_value jp
 split
 .exact Ac IL λ_=>Ac (Ae trivial) λ_=>b _
 .exact Ac (Ae trivial) λ_=>b _
 .exact Ac Ak λ_=>b _
theorem am9:(Builtin.len_ ts t a).Au P λ_=>True:=by
 unfold Builtin.len_;split
 .refine Ac (Bf AB) λd=>?_
  split
  .exact Ae trivial
  .exact Ae trivial
  .refine Ac (Bf AB) λd=>?_
   split
   .exact Ae trivial
   .exact Ak
  .exact Ae trivial
  .exact Ae trivial
  .exact Ae trivial
  .refine⟨λo _=>?_,I4⟩;cases o<;>first|exact Ak|exact Ae trivial
  .refine⟨λo _=>?_,I4⟩;cases o<;>first|exact Ak|exact Ae trivial
  .exact Ak
 .exact Ak
theorem an0:(Builtin.cap_ ts t a).Au P λ_=>True:=by
 unfold Builtin.cap_;split
 .refine Ac (Bf AB) λd=>?_
  split
  .exact Ae trivial
  .refine Ac (Bf AB) λd=>?_
   split
   .exact Ae trivial
   .exact Ak
  .exact Ae trivial
  .exact Ae trivial
  .refine⟨λo _=>?_,I4⟩;cases o<;>first|exact Ak|exact Ae trivial
  .exact Ak
 .exact Ak
theorem Zr:(Builtin.lenOf x).Au P λ_=>True:=by
 unfold Builtin.lenOf;split<;>first|exact Ae trivial|exact Ak
theorem LM {a:Nat}:(Builtin.firstCells a b x).Au P λ_=>True:=by
 unfold Builtin.firstCells;split<;>first|exact Rn|exact Ae trivial|exact Ak
theorem Ϣ:(Builtin.copy_ ts t a).Au P λ_=>True:=by
 unfold Builtin.copy_;split
 .refine Ac (Bf AB) λd=>?_
  split
  .split
   .refine Ac Zr λ_=>Ac DW λ_=>Ac LM λ_=>?_
    split
    .exact Ac FK λ_=>Ae trivial
    .exact Ae trivial
   .exact Ak
  .exact Ak
 .exact Ak
theorem wo:(Builtin.clear_ ts t a).Au P λ_=>True:=by
 unfold Builtin.clear_;split
 .refine Ac (Bf AB) λd=>?_
  extract_lets jp
  have b:∀z,(jp z).Au P λ_=>True:=λz=>Ae trivial
  clear_value jp
  split
  .exact b ()
  .exact b ()
  .exact b ()
  .refine⟨λo c=>?_,show EZ P _ (stuck "clear: map expected">>= jp)from fO I4⟩;cases o<;>first|(cases c;done)|exact(show Sem.Au P (λ_=>True) (stuck "clear: map expected">>= jp)from Ac Ak λu=>b u)
  .exact Ac Fg λ_=>Ac FK λu=>b u
  .exact Ac Ak λu=>b u
 .exact Ak
theorem Qx {a:f_}:(Builtin.holdsCells a n).KL P:=by
 refine λs=>?_
 cases s<;>trivial
theorem qN {a:f_}:(frozen a).KL P:=λ_=>trivial
theorem bV {a:Nat}{base:d_ f_}:(Builtin.mayShare a b c base x).KL P:=by
 unfold Builtin.mayShare
 extract_lets jp
 have d:∀z,(jp z).KL P:=λz=>by
  simp only[jp]
  split
  .trivial
  .split
   .exact Su Qx λ_=>trivial
   .trivial
 clear_value jp
 split
 .exact d _
 .exact Su Qx λ_=>Su qN λ_=>d _
theorem pG:(Builtin.append_ ts t a).Au P λ_=>True:=by
 unfold Builtin.append_;split
 .refine Ac (Bf AB) λd=>?_
  split
  .split
   .refine Ac DW λsize=>?_
    extract_lets ju jp1
    have m:∀u,(ju u).E5 P:=λu=>rfl
    clear_value ju
    have c:∀z,(jp1 z).Au P λ_=>True:=λo=>by
     dsimp -zeta only[jp1]
     extract_lets jp2
     have f:∀n,(jp2 n).Au P λ_=>True:=λn=>by
      dsimp -zeta only[jp2]
      extract_lets appended need jA j4 j3
      have p:appended.Au P λ_=>True:=by
       simp only[appended]
       exact AO (λ_=>LM) λ_=>AO (λ_=>Ae trivial) λ_=>Ac Fg λ_=>Ae trivial
      have hA:∀u,(jA u).Au P λ_=>True:=λu=>Ae trivial
      have h:∀u,(j4 u).Au P λ_=>True:=λu=>
       Ac FT λ_=>Ac Eh λ_=>Ac Vu λ_=>Ac LM λ_=>Ac p λ_=>Ac Fg λ_=>Ac KY λ_=>Ae trivial
      clear_value j4
      have g:∀u,(j3 u).Au P λ_=>True:=λu=>by
       refine Ac Eh λi=>?_
       refine AO (λ_=>Ac (AO (λ_=>Bg) λ_=>Sem.E5.lK (Np bV λb=>?_)) λu=>h u) λ_=>h ()
       split
       .exact Np (e:=mark .noRoom) trivial λu=>m u
       .exact m ()
      clear_value appended jA j3
      refine AO (λ_=>Ac p λnew=>?_) λ_=>Ac Eh λi=>AO (λ_=>Ac Bg λu=>g u) λ_=>g ()
      split
      .exact Ac FK λu=>hA u
      .exact hA ()
     clear_value jp2
     refine AO (λ_=>Ac NQ λa=>?_) λ_=>Ac Zr λn=>f n
     extract_lets l jp6 jp5
     have k:∀u,(jp6 u).Au P λ_=>True:=λu=>Ac (Ae trivial) λn=>f n
     clear_value jp6
     have j:∀u,(jp5 u).Au P λ_=>True:=λu=>by
      dsimp -zeta only[jp5]
      refine Ac Eh λi=>?_
      exact AO (λ_=>Ac FT λ_=>Ac Bg λu=>k u) λ_=>k ()
     clear_value jp5
     exact AO (λ_=>Ac Bg λu=>j u) λ_=>j ()
    clear_value jp1
    split
    .exact Ac (Bf AB) λ_=>Ac (Ae trivial) λz=>c z
    .exact Ac (Ae trivial) λz=>c z
   .exact Ak
  .exact Ak
 .exact Ak
end
def OZ (P:l_):Nat->j_->Bool
 |0,_=>false
 |d+1,t=>match P.underlying t with
  |some (.int _)=>match P.info? t with
   |some i=>match i.desc with
    |.named n _=>n != "sync.copyChecker"
    |_=>true
   |none=>true
  |some .bool=>true
  |some .string=>true
  |some (.struct fs)=>fs.all λf=>OZ P d f.type
  |_=>false
section
variable {P:l_}
theorem Zu {α β:Type}{f:α->β->Sem (ForInStep β)}:∀{l:List α} {b:β},(∀a∈l,∀b,(f a b).Au P λ_=>True)->(forIn l b f).Au P λ_=>True
 |[],b,_=>Ae trivial
 |a::l,b,h=>by
  rw[List.forIn_cons]
  refine Ac (h a (List.mem_cons_self ..) b) λs=>?_
  cases s with
  |done c=>exact Ae trivial
  |yield c=>exact Zu λa d b=>h a (List.mem_cons_of_mem _ d) b
theorem WZ {f:α->β->Sem (ForInStep β)}{l:Array α}{b:β}(h:∀a∈l,∀b,(f a b).Au P λ_=>True):(forIn l b f).Au P λ_=>True:=by
 rw[<-Array.forIn_toList];exact Zu λa c b=>h a (Array.mem_toList_iff.1 c) b
theorem Xn {fs:Array Field}(h:OZ P (d+1) t=true)(e:P.underlying t=some (.struct fs)):∀f∈fs,OZ P d f.type=true:=by
 simp only[OZ,e]at h;intro f a;exact Array.all_eq_true'.1 h f a
theorem Vt (w:P.globals.size=0):∀(k d:Nat)(t:j_)(x y:n_),OZ P k t=true->(Op.equalIn d t x y).Au P λ_=>True
 |0,d,t,x,y,h=>by cases h
 |k+1,0,t,x,y,h=>rfl
 |k+1,d+1,t,x,y,h=>by
  unfold Op.equalIn
  refine Gt λa c=>?_
  cases a with
  |bool=>split<;>first|contradiction|exact Ae trivial|exact Ak
  |string=>split<;>first|contradiction|exact Ae trivial|exact Ak
  |int p=>
   split<;>first
    |contradiction
    |exact Ae trivial
    |exact Ak
    |exact rfl
    |exact AO (λ_=>Ae trivial) λ_=>Ak
    |skip
   refine Dk (λz=>Dk (λn=>Bf (K:=λ_=>False) ?_) (DZ ?_)) (Io λn=>DZ ?_)
   all_goals
    refine Ej Dz λq hq=>?_
    subst hq
    rw[ru (by simp[w])]
    refine Ej IK λi hi=>?_
    simp only[OZ,c,hi]at h
    split
    .rename_i e;rw[e]at h;simp at h
    .rfl
  |struct o=>
   have g:=Xn h c
   split<;>first
    |contradiction
    |exact Ak
    |skip
   rename_i e
   injection e with e
   subst e
   refine Ac (Bf Dz) λq=>?_
   extract_lets jp
   have j:∀u,(jp u).Au P λ_=>True:=λu=>by
    refine Ac (WZ λf l b=>AO (λ_=>Ac Ja λ_=>Ac Ja λ_=>Ac (Vt w k d f.type _ _ (g f l)) λr=>AO (λ_=>Ae trivial) λ_=>Ae trivial) λ_=>Ae trivial) λs=>?_
    obtain⟨m,_⟩:=s
    cases m<;>exact Ae trivial
   exact AO (λ_=>Ac (E8 sJ) λu=>j u) λ_=>j ()
  |_=>(simp only[OZ,c]at h;cases h)
theorem NU:∀(k d:Nat)(t:j_)(x y:n_),OZ P k t=true->(Op.eqGuardIn d t x y).Au P λ_=>True
 |0,d,t,x,y,h=>by cases h
 |k+1,0,t,x,y,h=>rfl
 |k+1,d+1,t,x,y,h=>by
  unfold Op.eqGuardIn
  refine Gt λa g=>?_
  cases a with
  |struct l=>
   have c:=Xn h g
   split<;>first
    |contradiction
    |exact Ae trivial
    |skip
   rename_i e
   injection e with e
   subst e
   refine Ac (WZ λf i b=>AO (λ_=>Ac Ja λ_=>Ac Ja λ_=>Ac (NU k d f.type _ _ (c f i)) λr=>AO (λ_=>Ae trivial) λ_=>Ae trivial) λ_=>Ae trivial) λs=>?_
   obtain⟨j,_⟩:=s
   cases j<;>exact Ae trivial
  |bool=>split<;>first|contradiction|exact Ae trivial
  |string=>split<;>first|contradiction|exact Ae trivial
  |int m=>split<;>first|contradiction|exact Ae trivial
  |_=>(simp only[OZ,g]at h;cases h)
def yZ:Operand->Bool
 |.const (.pointer none)=>true
 |.const (.slice none _ _)=>true
 |.const .nilFunc=>true
 |_=>false
def YH:n_->Bool
 |.pointer none=>true
 |.slice none _ _=>true
 |.nilFunc=>true
 |_=>false
def ag6 (P:l_)(t:j_):Bool:=match P.underlying t with
 |some (.pointer _)=>true
 |some (.slice _)=>true
 |some (.func _ _ _)=>true
 |_=>false
theorem bz {y:n_}(h:ag6 P t=true)(j:YH x=true\/YH y=true):(Op.equalIn (d+1) t x y).Au P λ_=>True:=by
 unfold Op.equalIn;refine Gt λf g=>?_
 cases f with
 |pointer e=>
  split<;>first
   |contradiction
   |exact Ae trivial
   |exact Ak
   |(exfalso;obtain j|j:=j<;>cases j;done)
 |slice e=>split<;>first|contradiction|exact Ae trivial|exact Ak
 |func a b c=>split<;>first|contradiction|exact Ae trivial|exact Ak
 |_=>(simp only[ag6,g]at h;cases h)
theorem Vg {x:Operand}(h:yZ x=true)(fr:Frame):YH (fr.eval x)=true:=by
 unfold yZ at h;split at h<;>first|rfl|cases h
def QN (P:l_)(t:j_)(x y:Operand):Bool:=OZ P 5 t || (ag6 P t && (yZ x || yZ y))
theorem vZ (g:P.globals.size=0){x:Operand}(h:QN P t x y=true):(Op.equal t (fr.eval x) (fr.eval y)).Au P λ_=>True:=by
 unfold QN at h;simp only[Bool.or_eq_true,Bool.and_eq_true]at h;obtain h|⟨a,b⟩:=h
 .exact Vt g 5 _ _ _ _ h
 .exact bz (d:=9999) a (b.imp (λh=>Vg h fr) λh=>Vg h fr)
theorem wF (g:P.globals.size=0)(j:op=.eql\/op=.neq){x:Operand}(h:QN P t x y=true):(binOp op t (fr.eval x) (fr.eval y)).Au P λ_=>True:=by
 have c:=vZ g (fr:=fr) h;generalize fr.eval x=a at c ⊢;generalize fr.eval y=b at c ⊢;obtain rfl|rfl:=j
 .unfold binOp;split<;>first
   |contradiction
   |exact Ac c λ_=>Ae trivial
   |exact AO (λ_=>rfl) λ_=>Q4
   |exact AO (λ_=>rfl) λ_=>Kq
   |exact AO (λ_=>rfl) λ_=>NV
   |exact IM
 .unfold binOp;split<;>first
   |contradiction
   |exact Ac c λ_=>Ae trivial
   |exact AO (λ_=>rfl) λ_=>Q4
   |exact AO (λ_=>rfl) λ_=>Kq
   |exact AO (λ_=>rfl) λ_=>NV
   |exact IM
theorem jZ {x:Operand}(h:(op=.eql\/op=.neq)->QN P t x y=true):(eqGuard op t x y (fr.eval x) (fr.eval y)).Au P λ_=>True:=by
 unfold eqGuard;by_cases g:op=.eql\/op=.neq
 .have d:=h g;unfold QN at d;simp only[Bool.or_eq_true,Bool.and_eq_true]at d;have e:(!(match op with | .eql=>true | .neq=>true|_=>false))=false:=by obtain rfl|rfl:=g<;>rfl
  refine AO (λ_=>Ae trivial) λ_=>?_
  obtain d | ⟨_,f⟩:=d
  .split
   .exact AO (λ_=>Ae trivial) λ_=>Ac (NU 5 _ _ _ _ d) λ_=>AO (λ_=>E8 sJ) λ_=>Ae trivial
   .exact Ac (Bf Dz) λ_=>Ac (Bf Dz) λ_=>AO (λ_=>Ae trivial) λ_=>Ac (NU 5 _ _ _ _ d) λ_=>AO (λ_=>E8 sJ) λ_=>Ae trivial
   .exact Ae trivial
  .have c:YH (fr.eval x)=true\/YH (fr.eval y)=true:=f.imp (λh=>Vg h fr) λh=>Vg h fr
   generalize fr.eval x=a at c ⊢;generalize fr.eval y=b at c ⊢;split
   .obtain c|c:=c<;>cases c
   .obtain c|c:=c<;>cases c
   .exact Ae trivial
 .refine AO (λ_=>Ae trivial) λf=>?_
  exfalso;apply g;cases op<;>first|exact .inl rfl|exact .inr rfl|(simp at f;done)
def mF (P:l_)(t:j_):Bool:=match P.underlying t with
 |some (.int _)=>true
 |_=>false
theorem XJ {s:FloatKind}{k:IntKind}:(Conv.floatToInt s b k).Au P λ_=>True:=by
 unfold Conv.floatToInt;split
 .exact AO (λ_=>Ae trivial) λ_=>Ac FT λ_=>Ae trivial
 .exact Ac FT λ_=>Ae trivial
theorem ku {a b:j_}(g:mF P a=true)(hb:mF P b=true):(convert a b x).Au P λ_=>True:=by
 unfold convert;refine Gt λd f=>Gt λe c=>?_
 unfold mF at g hb;rw[f]at g;rw[c]at hb;cases d<;>first|(cases g;done)|skip
 cases e<;>first|(cases hb;done)|skip
 split<;>first
  |contradiction
  |exact Ae trivial
  |exact XJ
  |exact rfl
theorem Ip:∀(l:List FieldStep)(t:j_)(x:d_ n_),(followBlind l t x).Au P λ_=>True
 |[],_,_=>Ae trivial
 |s::l,t,x=>by
  unfold followBlind
  refine Ac (Bf AB) λd=>?_
  split
  .split
   .split
    .exact Ae trivial
    .exact Ip l _ _
    .exact Ak
    .exact Ae trivial
    .exact Ac Ja λ_=>Ip l _ _
    .exact Ak
    .exact Ip l _ _
   .exact Ak
  .exact Ak
theorem TB:∀(n:Nat)(t:j_)(v:n_)(s:String),(nilAhead n t v s).Au P λ_=>True
 |0,_,_,_=>Ae trivial
 |n+1,t,v,s=>by
  unfold nilAhead
  refine Ac Eh λi=>?_
  split
  .refine Ac (Ip _ _ _) λr=>?_
   split
   .exact Ae trivial
   .split
    .exact TB n _ _ _
    .exact Ae trivial
    .exact Ak
    .exact Ae trivial
    .exact Ae trivial
    .refine Ac (Bf AB) λd=>?_
     split<;>exact Ae trivial
  .exact Ak
theorem Lh:∀(l:List FieldStep)(t:j_)(x:Place),(follow l t x).Au P λ_=>True
 |[],_,_=>Ae trivial
 |s::l,t,x=>by
  unfold follow
  refine Ac (Bf AB) λd=>?_
  have b:∀(t:j_)(x:Place),(x.get t).Au P λ_=>True:=λt x=>by
   cases x with
   |val v=>exact Ae trivial
   |var a=>exact Ik
  split
  .split
   .refine AO (λ_=>Ac (b _ _) λ_=>Ac Lj λ_=>Ac LP λ_=>Lh l _ _) λ_=>?_
    split
    .exact Ac LP λ_=>Lh l _ _
    .exact Ac Ja λ_=>Lh l _ _
    .exact Ak
   .exact Ak
  .exact Ak
theorem Va {x:Place}:(x.get t).Au P λ_=>True:=by
 cases x with
 |val v=>exact Ae trivial
 |var a=>exact Ik
theorem jS {a b:n_}:(Builtin.ssaWrapNilChk_ #[t] t #[x,a,b]).Au P λ_=>True:=by
 cases a<;>first|exact rfl|skip
 cases b<;>first|exact rfl|skip
 cases x<;>first|exact rfl|skip
 rename_i o;cases o with
 |some a=>exact dE
 |none=>
  refine Ac (e:=choose _) FT λc=>?_
  extract_lets jp
  have f:∀u,(jp u).Au P λ_=>True:=λu=>by
   dsimp -zeta only[jp]
   split
   .refine Ac (Bf AB) λd=>?_
    split
    .refine Ac Eh λi=>?_
     split
     .split
      .extract_lets base targs
       split
       .exact Bg
       .exact rfl
      .exact Ak
     .exact Ak
    .exact Ak
   .exact Ak
  exact AO (λ_=>Ac Bg λu=>f u) λ_=>f ()
theorem Qv {x:Place}{b:Bool}{o:d_ String}:(receiverAt t x b o).Au P λ_=>True:=by
 unfold receiverAt;refine Ac (Bf AB) λd=>?_
 split
 .exact Va
 .refine Ac Va λq=>?_
  split
  .exact Ac jS λ_=>Ac Lj λ_=>Ik
  .exact Ac (Ae trivial) λ_=>Ac Lj λ_=>Ik
 .exact Ae trivial
 .exact Ak
 .exact Va
theorem WC {v:n_}{p:Array FieldStep}{b:Bool}:(receiverVia t v p b).Au P λ_=>True:=Ac (Lh _ _ _) λ_=>Qv
theorem WW:∀(n:Nat)(t:j_)(v:n_)(s:String),(method n t v s).Au P λ_=>True
 |0,_,_,_=>rfl
 |n+1,t,v,s=>by
  unfold method
  refine Ac Eh λi=>?_
  split
  .refine Ac (Lh _ _ _) λr=>?_
   obtain⟨a,b⟩:=r;dsimp only;split
   .refine Ac Va λq=>?_
    split
    .exact WW n _ _ _
    .exact Bg
    .exact Ak
   .exact Ac Qv λ_=>Ae trivial
  .exact Ak
def Ud (P:Program) (L:FuncId->Prop):Prop:=∀f,L f->∃fn,P.funcs[f]?=some fn/\fn.body.isNone=false/\(fn.name== "runtime.NumGoroutine")=false
variable {L:h_->Prop}{bb:Bool}
theorem bF (hB:Ud P L)(g:L f):(callFunc f args).Au P (FC L bb):=by
 obtain⟨fn,a,b,c⟩:=hB f g;unfold callFunc;refine Ej Dz λq hq=>?_
 subst hq;rw[a];simp only[b,c,jb,if_false];exact g
theorem vS:(Instr.yield l args).Au P (FC L bb):=by
 unfold Instr.yield Instr.getLoop;refine⟨λo b=>?_,λw d a e c _ _ h=>?_⟩
 .cases o<;>first|(cases b;done)|exact rfl
 .simp[Sem.bind,stuck,DV,Bind.bind]at h
theorem Xg {e:Sem α}{w w':o_}{es g:Array Event}{a:α}(h:e.runT P w es=(.ok a w',g)):e.run P w=.ok a w':=by
 have:=Sem.runT_eq P e w es;rw[this]at h;exact congrArg Prod.fst h
def KR (recv:n_)(name:String):Sem (h_×n_):=match recv with
 |.iface t u=>program>>= λq=>method (q.types.size+Made.depth) t u name
 |.nilIface=>runtimePanic .nilDeref
 |_=>stuck "invoke: interface value expected"
theorem TK (recv:n_)(name:String)(args:X_):callMethod recv name args=(KR recv name>>= λx=>callFunc x.1 (#[x.2]++args)):=by
 cases recv<;>rfl
theorem TC:(KR recv name).Au P λ_=>True:=by
 unfold KR;split
 .exact Ac (Bf Dz) λ_=>WW _ _ _ _
 .exact Bg
 .exact Ak
theorem Vx {v1:o_}{x:h_×n_}(h:(KR recv name).run P v=.ok x v1):∃t u,recv=.iface t u/\(method (P.types.size+Made.depth) t u name).run P v=.ok x v1:=by
 cases recv with
 |iface t u=>exact⟨t,u,rfl,h⟩
 |nilIface=>
  have:(runtimePanic .nilDeref:Sem (h_×n_)).run P v=.ok x v1:=h
  cases this
 |_=>cases (show(stuck "invoke: interface value expected":Sem (FuncId×Value)).run P v=.ok x v1 from h)
theorem Ku (hB:Ud P L)(g:L f\/Ext P f)(v:o_):Iy P (FC L bb) (callFunc f args) v:=
 g.elim (λh=>Sem.Au.here (bF hB h) v) λh=>av3 h args v
theorem Xk (hB:Ud P L)(g:∀t u f r w',recv=.iface t u->(method (P.types.size+Made.depth) t u name).run P v=.ok (f,r) w'->L f\/Ext P f):
  Iy P (FC L bb) (callMethod recv name args) v:=by
 rw[TK];refine Ug (e1:=KR recv name) (f:=λx=>callFunc x.1 (#[x.2]++args)) TC λx v1 c b h=>?_
 obtain⟨t,u,e,a⟩:=Vx (Xg h);exact Ku hB (g t u x.1 x.2 v1 e a) v1
theorem ac7 (hB:Ud P L){f:n_}(s:∀d w',(Deferred.ofValue f args).run P v=.ok d w'->∀g,d.target.leads P w' d.args=some g->L g\/Ext P g):
  Iy P (FC L bb) (Deferred.ofValue f args>>= λd=>invoke d.target d.args) v:=by
 cases f with
 |nilFunc=>exact Sem.Au.here (show(invoke .nil args).Au P (FC L bb) by simp only[invoke];exact Bg) v
 |func fn first cap=>
  have a:=s ⟨.fn fn cap,first++args⟩ v rfl
  show Iy P (FC L bb) (invoke (.fn fn cap) (first++args)) v
  simp only at a
  generalize first++args=b at a ⊢
  cases fn with
  |func g=>exact Ku hB (a g rfl) v
  |via t c g ptr=>
   simp only[invoke]
   cases b[0]? with
   |none=>exact Sem.Au.here Ak v
   |some x=>exact Ug (e1:=receiverVia t x c ptr) (f:=λy=>callFunc g (#[y]++b.extract 1 b.size)) WC λ_ v1 _ _ _=>Ku hB (a g rfl) v1
  |yield l=>exact Sem.Au.here (show(Instr.yield l b).Au P (FC L bb)from vS) v
  |method name=>
   simp only[invoke]
   cases h0:b[0]? with
   |none=>exact Sem.Au.here Ak v
   |some x=>
    refine Xk hB λt u f r w' e j=>a f ?_
    subst e
    simp only[Target.leads,h0,j]
  |methodOf t name=>
   simp only[invoke]
   cases h0:b[0]? with
   |none=>exact Sem.Au.here Ak v
   |some x=>
    have e:(underlying t>>= λd=>callMethod (match d with | .interface _=>x|_=>.iface t x) name (b.extract 1 b.size))=((underlying t>>= λd=>KR (match d with | .interface _=>x|_=>.iface t x) name)>>= λy=>callFunc y.1 (#[y.2]++b.extract 1 b.size)):=by
     rw[bind_assoc]
     congr 1
     funext d
     exact TK _ _ _
    refine(congrArg (Iy P (FC L bb) · v) e).mpr (Ug (e1:=underlying t>>= λd=>KR (match d with | .interface _=>x|_=>.iface t x) name) (f:=λy=>callFunc y.1 (#[y.2]++b.extract 1 b.size)) (Ac (Bf AB) λ_=>TC) λy v1 o n h=>?_)
    have j:=Xg h
    have i:(match P.underlying t with
     |some d=>KR (match d with | .interface _=>x|_=>.iface t x) name
     |none=>stuck "":Sem (FuncId×Value)).run P v=.ok y v1:=by
     cases hu:P.underlying t with
     |none=>simp[underlying,hu]at j
     |some d=>simpa [underlying,hu]using j
    cases hu:P.underlying t with
    |none=>rw[hu]at i;cases i
    |some d=>
     rw[hu]at i
     obtain⟨p,q,k,m⟩:=Vx i
     refine Ku hB (a y.1 ?_) v1
     simp only[Target.leads,h0,hu,Option.map_some]
     cases d<;>(simp only at k ⊢;first
      |(injection k with e1 e2;subst e1 e2;simp only[m];done)
      |(subst k;simp only[m];done))
 |_=>exact Sem.Au.here (ac1 (e:=(stuck _:Sem Deferred)) xZ) v
end
end Go.Fxa
