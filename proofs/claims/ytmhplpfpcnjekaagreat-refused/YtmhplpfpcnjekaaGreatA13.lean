/- Where a process goes on: the b -/
import Derived.Test.YtmhplpfpcnjekaaGreatA12
open Go.Proofs.Tryz
namespace Go.Fxa
open Go.Conc
open Go.ConcN (sumTo upd sumTo_upd upd_ne upd_same)
variable {a:f_}{v:n_}{q k:Nat}{P:l_}{K:o_->Prop}{main:Bool}{x:Frame×Z_}{Od:Old}
structure J8 where
 b2:Nat
 b3:Nat
 b5:Nat
 r:Nat
 q0:Nat
 q1:Nat
 q2:Nat
 q3:Nat
 sv:n_
 n:Int
namespace J8
variable (s:J8)
def own (x:Nat):Prop:=x=s.b2\/x=s.b3\/x=s.b5\/x=s.r\/x=s.q0\/x=s.q1\/x=s.q2\/x=s.q3
def pre:X_:=#[D5 s.q0,D5 s.q1,D5 s.q2,D5 s.q3]
def Still (l:Loc):Prop:=l=.cell (R_ s.b5)\/l=.cell (R_ s.b2)\/l=.cell (R_ s.b3)\/l=.cell (R_ s.r)\/l=.cell (S_ s.r 1)\/l=.cell (S_ s.r 2)\/l=.cell (S_ s.r 3)
def cells (w:o_):Prop:=w.cell? (R_ s.b5)=some (pr s.r)/\w.cell? (R_ s.b2)=some s.sv/\w.cell? (R_ s.b3)=some (b_ s.n)
def KW (w:o_):Prop:=DD s.r s.pre 257 w/\s.cells w
def chs (q:Nat):Prop:=q=s.q0\/q=s.q1\/q=s.q2\/q=s.q3
def Open (w:o_):Prop:=∀q,s.chs q->∃k,w.heap[q]?=some (.chan 0 #[] false k k false)
def KS (w:o_):Prop:=BC s.r s.pre 257 w KK 0/\s.cells w/\s.Open w
structure Ok:Prop where
 bq:∀q,s.chs q->q≠s.b2/\q≠s.b3/\q≠s.b5/\q≠s.r
 br:s.b2≠s.r/\s.b3≠s.r/\s.b5≠s.r
 qq:s.q0≠s.q1/\s.q0≠s.q2/\s.q0≠s.q3/\s.q1≠s.q2/\s.q1≠s.q3/\s.q2≠s.q3
end J8
section
variable {s:J8}{Z:Nat->Prop}{w w':o_}
theorem Ij (h:w.cell? a=some v)(e:w'.heap[a.block]?=w.heap[a.block]?):w'.cell? a=some v:=by
 unfold World.cell? at*;rw[e];exact h
theorem J8.KS.PT (h:s.KS w):s.KW w:=⟨⟨_,_,h.1⟩,h.2.1⟩
theorem J8.cells.keep (h:s.cells w)(e:∀x,(x=s.b5\/x=s.b2\/x=s.b3)->w'.heap[x]?=w.heap[x]?):s.cells w':=
 ⟨Ij h.1 (e _ (.inl rfl)),Ij h.2.1 (e _ (.inr (.inl rfl))),Ij h.2.2 (e _ (.inr (.inr rfl)))⟩
theorem KQ {a sm:Int}(h:BC s.r s.pre 257 w a sm):w.cell? (R_ s.r)=some (D5 s.q0)/\w.cell? (S_ s.r 1)=some (D5 s.q1)/\w.cell? (S_ s.r 2)=some (D5 s.q2)/\w.cell? (S_ s.r 3)=some (D5 s.q3):=by
 unfold BC at h;refine⟨?_,?_,?_,?_⟩<;>simp[World.cell?,h,J8.pre]
theorem ML (h:w.cell? a=some v):a.block<w.heap.size:=by
 unfold World.cell? at h;cases e:w.heap[a.block]? with
 |none=>rw[e]at h;simp at h
 |some o=>exact(y_.1 e).1
theorem JH (h:s.KW w)(l:s.Still (.cell a)):a.block<w.heap.size:=by
 obtain⟨⟨k,j,i⟩,g,d,f⟩:=h;obtain⟨b,c,c2,c3⟩:=KQ i;obtain e|e|e|e|e|e|e:=l<;>(injection e with e;subst e;first|exact ML g|exact ML d|exact ML f|exact ML b|exact ML c|exact ML c2|exact ML c3)
theorem Ov (g:∀x,s.own x->Z x):Tz Z s.Still s.KS where
 keep:=λw f b h=>⟨h.1.keep (g _ (by simp[J8.own])) b,h.2.1.keep λx d=>b x (g _ (by obtain e|e|e:=d<;>simp[J8.own,e])),λq hq=>by
  obtain⟨k,e⟩:=h.2.2 q hq
  exact⟨k,by rw[b q (g _ (by obtain e|e|e|e:=hq<;>simp[J8.own,e]))];exact e⟩⟩
 still:=λw a h c=>JH h.PT c
theorem bh5 (l:∀x,s.own x->Z x):Tz Z s.Still s.KW where
 keep:=λw k b h=>by
  obtain⟨⟨j,i,d⟩,c⟩:=h
  exact⟨⟨j,i,d.keep (l _ (by simp[J8.own])) b⟩,c.keep λx g=>b x (l _ (by obtain e|e|e:=g<;>simp[J8.own,e]))⟩
 still:=λw a h f=>JH h f
theorem OW:TZ s.KW s.Still s.b5 s.b2 s.b3 s.r s.q0 s.q1 s.q2 s.q3 s.sv s.n where
 c5:=λ_ h=>h.2.1
 s5:=.inl rfl
 c2:=λ_ h=>h.2.2.1
 s2:=.inr (.inl rfl)
 c3:=λ_ h=>h.2.2.2
 s3:=.inr (.inr (.inl rfl))
 r0:=λ_ h=>let ⟨_,_,hr⟩:=h.1;(KQ hr).1
 t0:=.inr (.inr (.inr (.inl rfl)))
 r1:=λ_ h=>let ⟨_,_,hr⟩:=h.1;(KQ hr).2.1
 t1:=.inr (.inr (.inr (.inr (.inl rfl))))
 r2:=λ_ h=>let ⟨_,_,hr⟩:=h.1;(KQ hr).2.2.1
 t2:=.inr (.inr (.inr (.inr (.inr (.inl rfl)))))
 r3:=λ_ h=>let ⟨_,_,hr⟩:=h.1;(KQ hr).2.2.2
 t3:=.inr (.inr (.inr (.inr (.inr (.inr rfl)))))
theorem JY {x d cap k':Nat}{a:X_}{b c:Bool}(h:q≠x):((w.at d).setChan q cap a b k k' c).heap[x]?=w.heap[x]?:=by
 simp[World.setChan,World.at,z_ h]
theorem J8.KS.chan (O:s.Ok)(hq:s.chs q)(h:s.KS w)(d k:Nat):s.KS ((w.at d).setChan q 0 #[] false k k false):=by
 obtain⟨e2,e3,g,i⟩:=O.bq q hq;refine⟨?_,h.2.1.keep λx j=>?_,λf b=>?_⟩
 .unfold BC;rw[JY i];exact h.1
 .obtain e|e|e:=j<;>subst e
  .exact JY g
  .exact JY e2
  .exact JY e3
 .by_cases e:q=f
  .subst e;obtain⟨c,a⟩:=h.2.2 q hq;have:=(y_.1 a).1;exact⟨k,by simp[World.setChan,World.at,this]⟩
  .obtain⟨c,a⟩:=h.2.2 f b;exact⟨c,by rw[JY e];exact a⟩
theorem J8.KW.shut (O:s.Ok)(h:s.KW w)(k:Nat):s.KW (w.setChan s.q3 0 #[] true k k false):=by
 obtain⟨e2,e3,c,d⟩:=O.bq s.q3 (.inr (.inr (.inr rfl)));have a:∀x,s.q3≠x->(w.setChan s.q3 0 #[] true k k false).heap[x]?=w.heap[x]?:=λx b=>by simp[World.setChan,z_ b]
 obtain⟨⟨j,i,g⟩,f⟩:=h;refine⟨⟨j,i,by unfold BC;rw[a _ d];exact g⟩,f.keep λx b=>?_⟩;obtain e|e|e:=b<;>subst e
 .exact a _ c
 .exact a _ e2
 .exact a _ e3
theorem J8.KW.set (O:s.Ok)(h:s.KW w)(m:Int)(d:Nat):s.KW ((w.at d).setCell (stA s.r s.pre) (.int .u64 m)):=by
 obtain⟨⟨i,a,f⟩,c⟩:=h;have b:BC s.r s.pre 257 (w.at d) i a:=f;refine⟨⟨m,a,b.setSt m⟩,c.keep λx g=>?_⟩;have:s.r≠x:=by obtain e|e|e:=g<;>subst e<;>first|exact O.br.2.2.symm|exact O.br.1.symm|exact O.br.2.1.symm
 simp[World.setCell,World.at,stA,iF,this]
theorem Wl {l:Loc}(h:LY s.r s.pre l):¬s.Still l:=by
 have a:s.pre.size=4:=rfl;intro b;obtain e|e:=h<;>subst e<;>obtain e|e|e|e|e|e|e:=b<;>simp[stA,smA,a]at e
theorem J4 {Ad:Loc->Prop}{c j:Nat}(g:∀l,LY s.r s.pre l->Ad l/\¬s.Still l)(f:∀l,s.Still l->¬Ad l):dV Ad s.Still j (KI c s.r s.pre) where
 ss:=f
 calm:=λ_ _ h e=>h.app λop a b hb d=>((e op a).2.1 b hb).2 (g _ d).1
 reads:=λ_ _ h e=>h.app λop a b hb d=>((g _ d).2 (e op a b hb).2).elim
theorem Jj (c:∀x,s.own x->Z x):Gx s.Still Z:=by
 refine⟨λa b=>?_,λr b=>?_⟩
 .obtain e|e|e|e|e|e|e:=b<;>(injection e with e;subst e;apply c;simp[J8.own])
 .obtain e|e|e|e|e|e|e:=b<;>cases e
end
theorem Jd {s:d_ (j_×Nat)}:∀{n:Nat} {x y:Frame×Z_},Ec P s n x=some ([],y)->Ls P K main n (BO x) (BO y):=by
 intro n
 induction n with
 |zero=>
  intro x y h
  simp only[Ec,l7,lQ,true_and]at h
  subst h;exact rfl
 |succ n c=>
  intro x y h
  simp only[Ec]at h
  split at h
  .rename_i d z b;split at h
   .rename_i e f a;simp only[l7,lQ,List.append_eq_nil_iff]at h;obtain⟨⟨rfl,rfl⟩,rfl⟩:=h;exact⟨rfl,_,λw _=>Sm b sJ,c a⟩
   .cases h
  .cases h
theorem DT {n:Nat}(h:AU P n x=some []):Ls P K main n (BO x) (BO (run P n x)):=by
 unfold Fxa.AU at h;obtain⟨⟨l,y⟩,a,rfl⟩:=lT.1 h;have e:run P n x=y:=by unfold run;rw[a]
 rw[e];exact Jd a
def NG (P:l_)(gs:Array m_)(w:o_)(sl:d_ (W_))(t:Trace)(Q:Array m_->o_->Trace->Prop):Prop:=
 ∃N BA w' Em t',runNT P N (crowd gs w sl) t=(.next (crowd BA w' Em),t')/\Q BA w' t'
section
variable {P:l_}{gs:Array m_}{w:o_}{sl:d_ (W_)}{t:Trace}{Q Q':Array m_->o_->Trace->Prop}
theorem AX.leads (h:AX P gs w sl t Q):NG P gs w sl t Q:=by
 obtain⟨N,a,w1,b,e,d,_,c⟩:=h;exact⟨N,a,w1,b,e,d,c⟩
theorem NG.now (hq:Q gs w t):NG P gs w sl t Q:=⟨0,gs,w,sl,t,rfl,hq⟩
theorem NG.bind (hq:NG P gs w sl t Q)(o:∀l w' n m,Q l w' m->NG P l w' n m Q'):NG P gs w sl t Q':=by
 obtain⟨N,a,w1,e,j,i,g⟩:=hq;obtain⟨f,b,w2,d,k,c,h⟩:=o a w1 e j g;exact⟨N+f,b,w2,d,k,by rw[runNT_add,i];exact c,h⟩
theorem AX.then (hq:AX P gs w sl t Q)(p:∀m w' o n,m.size=gs.size->Q m w' n->NG P m w' o n Q'):NG P gs w sl t Q':=by
 obtain⟨N,a,w1,e,k,i,j,g⟩:=hq;obtain⟨f,b,w2,d,l,c,h⟩:=p a w1 e k j g;exact⟨N+f,b,w2,d,l,by rw[runNT_add,i];exact c,h⟩
theorem NG.mono (hq:NG P gs w sl t Q)(h:∀f w' g,Q f w' g->Q' f w' g):NG P gs w sl t Q':=by
 obtain⟨N,a,w1,b,e,d,c⟩:=hq;exact⟨N,a,w1,b,e,d,h _ _ _ c⟩
variable {Ad:Loc->Prop}{Z:Nat->Prop}{B:Nat}{v:o_}
theorem Qg:Ub (Past Ad B):=λ_ _ _ _ _ hi a h=>h.mute hi a
theorem Y7.Uz {a l:m_}(n:Y7 Od P Ad Z B v gs w t)(o:gs[0]?=some a)(p:Ls P (λ_=>True) true k a l):AX P gs w sl t λj w' m=>j[0]?=some l/\Y7 Od P Ad Z B v j w' m/\w'.heap=w.heap:=by
 obtain⟨q,T,c,hL,b,hB⟩:=n;refine(KP Qg k p (λ_=>trivial) o hL b).mono λj w' m ⟨i,d,e,f,g,h⟩=>?_
 subst f;exact⟨e,⟨i,T.TP v.tape w.tape v.drawn d,c,g,h,hB⟩,rfl⟩
theorem Y7.read {ad:f_}{y u:n_}(H:Y7 Od P Ad Z B v gs w t)(I:gs[0]?=some (BO x))(J:Eb P x u=some ([ad],y))(G:w.cell? ad=some u)(K:¬Ad (.cell ad)):
  AX P gs w sl t λF w' L=>F[0]?=some (BO (BK x y))/\Y7 Od P Ad Z B v F w' L/\w'.heap=w.heap:=by
 obtain⟨q,T,r,hL,p,hB⟩:=H;have z:RW P true (λw=>w.cell? ad=some u) (λl=>l=.cell ad) 1 (BO x) (BO (BK x y)):=RW.at J (λ_ h=>h) rfl;obtain⟨_,n,D,k,j,e⟩:=z;have m:n=BO (BK x y):=e;subst m;refine go_mute Qg I rfl hL p λd E f=>⟨_,_,_,j (w.at d) G,λF A _ o c C=>.now ⟨o,⟨A,T.TP v.tape w.tape v.drawn d,r,c,f.own λe s=>?_,hB⟩,rfl⟩⟩
 obtain⟨a,rfl,g⟩:=k e s;injection g with g;subst g;refine⟨λb hb i=>?_,sJ,sJ,?_⟩
 .obtain rfl:=x_ hb;exact(K i).elim
 .have:=ML G;show a.block<B;omega
end
end Go.Fxa
namespace Go.Fxa
open Go.Conc Go.Proofs
def aQ (P:l_){α:Type}:Sem α->d_ (List (f_×n_)×α)
 |.pure a=>some ([],a)
 |.program k=>aQ P (k P)
 |.store .plain a (.int t v) k=>(aQ P k).map λx=>((a,.int t v)::x.1,x.2)
 |.store .plain a (.func f x y) k=>(aQ P k).map λz=>((a,.func f x y)::z.1,z.2)
 |_=>none
def vM (w:o_):List (f_×n_)->Prop
 |[]=>True
 |x::l=>(∃u,w.cell? x.1=some u)/\w.frozen? x.1=false/\vM (w.setCell x.1 x.2) l
def Ju (w:o_)(l:List (f_×n_)):o_:=l.foldl (λw x=>w.setCell x.1 x.2) w
def II (l:List (f_×n_)):Array Event:=(l.map λx=>(⟨.cell x.1,true,false⟩:Event)).toArray
section
variable {P:l_}
theorem Ϯ {α:Type}{e:Sem α}{a:α}:∀{l:List (f_×n_)} {w:o_},aQ P e=some (l,a)->vM w l->∀es,e.runT P w es=(.ok a (Ju w l),es++II l):=by
 induction e with
 |pure b=>
  intro l w h _ es
  simp only[aQ,l7,lQ]at h
  obtain⟨rfl,rfl⟩:=h
  simp[Sem.runT,Ju,II]
 |program k p=>intro l w h i es;exact p P h i es
 |store m g v k p=>
  intro l w h i es
  have key:∀q,l=(g,v)::q->m=.plain->aQ P k=some (q,a)->(∀u:o_,(∃x,u.cell? g=some x)->u.frozen? g=false->(Sem.store m g v k).runT P u es=k.runT P (u.setCell g v) (es.push ⟨.cell g,true,false⟩))->(Sem.store m g v k).runT P w es=(.ok a (Ju w l),es++II l):=by
   rintro q rfl rfl C r
   obtain⟨s,A,B⟩:=i
   rw[r w s A,p C B]
   simp[Ju,II]
  cases m with
  |atomic=>cases v<;>simp[aQ]at h
  |plain=>
   cases v with
   |int t x=>
    obtain⟨y,n,e⟩:=lT.1 h
    simp only[lQ]at e
    obtain⟨e1,e2⟩:=e
    refine key y.1 e1.symm rfl (by rw[n,<-e2]) λu ⟨z,o⟩ j=>?_
    simp only[Sem.runT,o,j,jb,if_false]
    rfl
   |func f c d=>
    obtain⟨y,n,e⟩:=lT.1 h
    simp only[lQ]at e
    obtain⟨e1,e2⟩:=e
    refine key y.1 e1.symm rfl (by rw[n,<-e2]) λu ⟨z,o⟩ j=>?_
    simp only[Sem.runT,o,j,jb,if_false]
    rfl
   |_=>simp[aQ]at h
 |_=>intro l w h;simp[aQ]at h
def Vb (P:l_)(x:Frame×Z_):d_ (List (f_×n_)):=match XC x with
 |some o=>match aQ P (execOp x.1.eval o)with
  |some (l,.skip)=>if(P.funcs[x.1.fn]?).any (·.norace)then none else some l
  |_=>none
 |none=>none
theorem Xe {main:Bool}{x:Frame×Z_}{l:List (f_×n_)}{w:o_}(h:Vb P x=some l)(m:vM w l):stepG P main (BO x) w=.go (BO (BK x undef)) (Ju w l) (II l):=by
 unfold Vb at h;split at h
 .rename_i o j;split at h
  .rename_i c i;split at h
   .cases h
   .rename_i hq;obtain rfl:=x_ h;obtain⟨d,g⟩:=QX (P:=P) (main:=main) (w:=w) j;show stepG P main (G x.1 x.2) w=_;rw[d];have k:seen P x.1.fn (#[]++II c)=II c:=by
     rw[Array.empty_append]
     exact seen_eq (by simpa using hq) (λe b f=>by
      simp only[II,eu,List.mem_map]at b
      obtain⟨a,_,rfl⟩:=b
      simp)
    simp only[stepG.apply,Ϯ i m #[],if_true,GStep.after,kL,g,jb,if_false,k]
    rfl
  .cases h
 .cases h
end
def ae8:Obj:=.cells #[a_ 0,a_ 0,.nilFunc] 206 (0,0)
def PW (x0 y0:Int)(fn:Fn)(ca cb:X_):n_:=.agg #[a_ x0,a_ y0,.func fn ca cb]
section
variable (P:l_)(q0 q1 q3:Nat)(x:n_)(x0 y0:Int)(fn:Fn)(ca cb:X_)(f:Y_)(Y:Z_)(k:Nat)(p:Int)
def zz0:=run P 9 (a0 P q0 q1 q3 x (PW x0 y0 fn ca cb) f Y)
def zz1:=BK (zz0 P q0 q1 q3 x x0 y0 fn ca cb f Y) (pr k)
def zz2:=run P 5 (BK (zz1 P q0 q1 q3 x x0 y0 fn ca cb f Y k) undef)
def zz3:=run P 11 (BK (zz2 P q0 q1 q3 x x0 y0 fn ca cb f Y k) (.func fn ca cb))
def zz4:=run P 3 (BK (zz3 P q0 q1 q3 x x0 y0 fn ca cb f Y k) (a_ p))
end
structure WB (P:l_)(b5 b2 b3 r q0 q1 q3:Nat)(sa:f_)(n:Int):Prop where
 c1:∀(f:Y_)(Y:Z_)(i:Int)(x:n_)(x0 y0:Int)(fn:Fn)(ca cb:X_),AU P 9 (a0 P q0 q1 q3 x (PW x0 y0 fn ca cb) (AQ f (Fh r (.pointer (some sa)) n i 1 x)) Y)=some []
 c2:∀(f:Y_)(Y:Z_)(i:Int)(x:n_)(x0 y0:Int)(fn:Fn)(ca cb:X_)(w:o_),stepG P false (BO (zz0 P q0 q1 q3 x x0 y0 fn ca cb (AQ f (Fh r (.pointer (some sa)) n i 1 x)) Y)) w=.go (BO (zz1 P q0 q1 q3 x x0 y0 fn ca cb (AQ f (Fh r (.pointer (some sa)) n i 1 x)) Y w.heap.size)) {w with heap:=w.heap.push ae8} #[]
 c3:∀(f:Y_)(Y:Z_)(i:Int)(x:n_)(x0 y0:Int)(fn:Fn)(ca cb:X_)(k:Nat),Vb P (zz1 P q0 q1 q3 x x0 y0 fn ca cb (AQ f (Fh r (.pointer (some sa)) n i 1 x)) Y k)=some [((R_ k),a_ x0),((S_ k 1),a_ y0),((S_ k 2),.func fn ca cb)]
 c4:∀(f:Y_)(Y:Z_)(i:Int)(x:n_)(x0 y0:Int)(fn:Fn)(ca cb:X_)(k:Nat),AU P 5 (BK (zz1 P q0 q1 q3 x x0 y0 fn ca cb (AQ f (Fh r (.pointer (some sa)) n i 1 x)) Y k) undef)=some []
 c5:∀(f:Y_)(Y:Z_)(i:Int)(x:n_)(x0 y0:Int)(fn:Fn)(ca cb:X_)(k:Nat),Eb P (zz2 P q0 q1 q3 x x0 y0 fn ca cb (AQ f (Fh r (.pointer (some sa)) n i 1 x)) Y k) (.func fn ca cb)=some ([(S_ k 2)],.func fn ca cb)
 c6:∀(f:Y_)(Y:Z_)(i:Int)(x:n_)(x0 y0:Int)(fn:Fn)(ca cb:X_)(k:Nat),AU P 11 (BK (zz2 P q0 q1 q3 x x0 y0 fn ca cb (AQ f (Fh r (.pointer (some sa)) n i 1 x)) Y k) (.func fn ca cb))=some []
 c7:∀(f:Y_)(Y:Z_)(i:Int)(x:n_)(x0 y0:Int)(fn:Fn)(ca cb:X_)(k:Nat)(p:Int),Eb P (zz3 P q0 q1 q3 x x0 y0 fn ca cb (AQ f (Fh r (.pointer (some sa)) n i 1 x)) Y k) (a_ p)=some ([sa.add 2],a_ p)
 c8:∀(f:Y_)(Y:Z_)(i:Int)(x:n_)(x0 y0:Int)(fn:Fn)(ca cb:X_)(k:Nat)(p:Int),AU P 3 (BK (zz3 P q0 q1 q3 x x0 y0 fn ca cb (AQ f (Fh r (.pointer (some sa)) n i 1 x)) Y k) (a_ p))=some []
 c9:∀(f:Y_)(Y:Z_)(i:Int)(x:n_)(x0 y0:Int)(fn:Fn)(ca cb:X_)(k:Nat)(p:Int),Vb P (zz4 P q0 q1 q3 x x0 y0 fn ca cb (AQ f (Fh r (.pointer (some sa)) n i 1 x)) Y k p)=some [(sa.add 2,a_ (IntKind.u16.wrap (p-2)))]
 ca:∀(f:Y_)(i:Int)(x:n_)(x0 y0:Int)(fn:Fn)(ca cb:X_)(k:Nat)(p:Int),Ec P (some (257,6)) 34 (BK (zz4 P q0 q1 q3 x x0 y0 fn ca cb (AQ f (Fh r (.pointer (some sa)) n i 1 x)) (VK P b5 b2 b3 r (.pointer (some sa)) n) k p) undef)=some ([r,r],dR P r (TM P b5 b2 b3 r (.pointer (some sa)) n))
theorem yE {a b2 b3 r b q1 c:Nat}{sa:f_}{n:Int}:WB prog a b2 b3 r b q1 c sa n:=by
 constructor<;>intros<;>kernel_rfl
section
variable {P:l_}{b5 b2 b3 r q0 q1 q3:Nat}{sa:f_}{n:Int}{Zl:Nat->Prop}{S0:Nat}{cs:X_}{UB:j_}{p:Int}{pa pb pc pd:n_}
def VV (cs:X_)(UB:j_)(sa:f_)(p:Int):Obj:=.cells (cs.setIfInBounds (sa.off+2) (a_ (IntKind.u16.wrap (p-2)))) UB (0,0)
def Jt (cs:X_)(UB:j_)(sa:f_)(p:Int)(w:o_):Prop:=w.heap[sa.block]?=some (VV cs UB sa p)
theorem Xt (a:Zl sa.block)(w w1:o_)(b:AgL Zl w w1)(h:Jt cs UB sa p w):Jt cs UB sa p w1:=by
 unfold Jt;rw[b _ a];exact h
theorem yx (F:WB P b5 b2 b3 r q0 q1 q3 sa n)(T:Zl sa.block)(U:∀x,S0<=x->Zl x)(X:sa.block<S0)(W:cs[sa.off+2]?=some (a_ p))(f:Y_)(i:Int)(x:n_)(x0 R:Int)(fn:Fn)(ca cb:X_){w:o_}(S:w.heap[sa.block]?=some (N_ cs UB))(V:S0<w.heap.size):
  Ir P r #[pa,pb,pc,pd] 257 Zl (BO (dR P r (TM P b5 b2 b3 r (.pointer (some sa)) n))) (Jt cs UB sa p) 67 (Conc.served (BO (m3 P q0 q1 q3 x (AQ f (Fh r (.pointer (some sa)) n i 1 x)) (VK P b5 b2 b3 r (.pointer (some sa)) n))) (commResult (G5 q1 q3) .select 0 (PW x0 R fn ca cb) true)) w:=by
 have hX:=Xt (Zl:=Zl) (cs:=cs) (UB:=UB) (p:=p) (sa:=sa) T;have g:∀{w1:o_},w1.heap[sa.block]?=some (N_ cs UB)->w1.cell? (sa.add 2)=some (a_ p)/\w1.frozen? (sa.add 2)=false:=fun {w1} h=>by
  constructor
  .simp[World.cell?,Addr.add,h,W]
  .simp[World.frozen?,Addr.add,h]
 have N:∀(k:Nat)(w:o_),Jt cs UB sa p w->Ir P r #[pa,pb,pc,pd] 257 Zl (BO (dR P r (TM P b5 b2 b3 r (.pointer (some sa)) n))) (Jt cs UB sa p) (34+0) (BO (BK (zz4 P q0 q1 q3 x x0 R fn ca cb (AQ f (Fh r (.pointer (some sa)) n i 1 x)) (VK P b5 b2 b3 r (.pointer (some sa)) n) k p) undef)) w:=
  λk w Q=>Ir.Uz hX (n:=0) ⟨rfl,Q⟩ (Gy Hw (F.ca f i x x0 R fn ca cb k p) sJ)
 have M:∀(k:Nat)(w:o_),w.heap[sa.block]?=some (N_ cs UB)->Ir P r #[pa,pb,pc,pd] 257 Zl (BO (dR P r (TM P b5 b2 b3 r (.pointer (some sa)) n))) (Jt cs UB sa p) 35 (BO (zz4 P q0 q1 q3 x x0 R fn ca cb (AQ f (Fh r (.pointer (some sa)) n i 1 x)) (VK P b5 b2 b3 r (.pointer (some sa)) n) k p)) w:=by
  intro k w S
  refine⟨rfl,λw1 d _=>?_⟩
  have b:w1.heap[sa.block]?=some (N_ cs UB):=by rw[d _ T];exact S
  obtain⟨u,c2⟩:=g b
  have j:=(y_.1 b).1
  refine⟨_,_,_,Xe (F.c9 f _ i x x0 R fn ca cb k p) ⟨⟨_,u⟩,c2,dE⟩,λe m=>?_,?_,N k _ ?_⟩
  .simp only[II,List.map_cons,List.map_nil,eu,r_,lG,or_false]at m;subst m;exact⟨_,_,rfl,T,by simpa [Ju,World.setCell,Addr.add]using j⟩
  .refine⟨by simp[Ju,World.setCell],λy v=>?_,rfl,rfl,rfl⟩;have:sa.block≠y:=λe=>v (e ▸ T)
   simp[Ju,World.setCell,Addr.add,iF,this]
  .simp[Jt,VV,Ju,World.setCell,Addr.add,iF,b]
 have L:∀(k:Nat)(w:o_),w.heap[sa.block]?=some (N_ cs UB)->Ir P r #[pa,pb,pc,pd] 257 Zl (BO (dR P r (TM P b5 b2 b3 r (.pointer (some sa)) n))) (Jt cs UB sa p) 39 (BO (zz3 P q0 q1 q3 x x0 R fn ca cb (AQ f (Fh r (.pointer (some sa)) n i 1 x)) (VK P b5 b2 b3 r (.pointer (some sa)) n) k)) w:=by
  intro k w S
  refine⟨rfl,λw1 d _=>?_⟩
  have b:w1.heap[sa.block]?=some (N_ cs UB):=by rw[d _ T];exact S
  obtain⟨u,c2⟩:=g b
  have j:=(y_.1 b).1
  have D:=RW.at (main:=false) (K:=λw=>w=w1) (Still:=λl=>l=.cell (sa.add 2)) (F.c7 f (VK P b5 b2 b3 r (.pointer (some sa)) n) i x x0 R fn ca cb k p) (λw S=>by rw[S];exact u) rfl
  obtain⟨_,C,O,A,z,e⟩:=D
  have B:C=BO (BK (zz3 P q0 q1 q3 x x0 R fn ca cb (AQ f (Fh r (.pointer (some sa)) n i 1 x)) (VK P b5 b2 b3 r (.pointer (some sa)) n) k) (a_ p)):=e
  subst B
  refine⟨_,_,_,z w1 rfl,λe m=>?_,CS.refl w1,Ir.Uz hX (n:=35) (M k w1 b) (DT (F.c8 f _ i x x0 R fn ca cb k p))⟩
  obtain⟨a,rfl,c⟩:=A e m
  injection c with c
  subst c
  exact⟨_,_,rfl,T,j⟩
 have J:∀(k:Nat)(w:o_),S0<=k->w.heap[sa.block]?=some (N_ cs UB)->w.heap[k]?=some (N_ #[a_ x0,a_ R,.func fn ca cb] 206)->Ir P r #[pa,pb,pc,pd] 257 Zl (BO (dR P r (TM P b5 b2 b3 r (.pointer (some sa)) n))) (Jt cs UB sa p) 51 (BO (zz2 P q0 q1 q3 x x0 R fn ca cb (AQ f (Fh r (.pointer (some sa)) n i 1 x)) (VK P b5 b2 b3 r (.pointer (some sa)) n) k)) w:=by
  intro k w q S s
  refine⟨rfl,λw1 d _=>?_⟩
  have b:w1.heap[sa.block]?=some (N_ cs UB):=by rw[d _ T];exact S
  have t:w1.heap[k]?=some (N_ #[a_ x0,a_ R,.func fn ca cb] 206):=by rw[d _ (U k q)];exact s
  have o:=(y_.1 t).1
  have u:w1.cell? (S_ k 2)=some (.func fn ca cb):=by simp[World.cell?,t]
  have D:=RW.at (main:=false) (K:=λw=>w=w1) (Still:=λl=>l=.cell (S_ k 2)) (F.c5 f (VK P b5 b2 b3 r (.pointer (some sa)) n) i x x0 R fn ca cb k) (λw S=>by rw[S];exact u) rfl
  obtain⟨_,C,O,A,z,e⟩:=D
  have B:C=BO (BK (zz2 P q0 q1 q3 x x0 R fn ca cb (AQ f (Fh r (.pointer (some sa)) n i 1 x)) (VK P b5 b2 b3 r (.pointer (some sa)) n) k) (.func fn ca cb)):=e
  subst B
  refine⟨_,_,_,z w1 rfl,λe m=>?_,CS.refl w1,Ir.Uz hX (n:=39) (L k w1 b) (DT (F.c6 f _ i x x0 R fn ca cb k))⟩
  obtain⟨a,rfl,c⟩:=A e m
  injection c with c
  subst c
  exact⟨_,_,rfl,U k q,o⟩
 have I:∀(k:Nat)(w:o_),S0<=k->w.heap[sa.block]?=some (N_ cs UB)->w.heap[k]?=some ae8->Ir P r #[pa,pb,pc,pd] 257 Zl (BO (dR P r (TM P b5 b2 b3 r (.pointer (some sa)) n))) (Jt cs UB sa p) 57 (BO (zz1 P q0 q1 q3 x x0 R fn ca cb (AQ f (Fh r (.pointer (some sa)) n i 1 x)) (VK P b5 b2 b3 r (.pointer (some sa)) n) k)) w:=by
  intro k w q S s
  refine⟨rfl,λw1 d _=>?_⟩
  have b:w1.heap[sa.block]?=some (N_ cs UB):=by rw[d _ T];exact S
  have t:w1.heap[k]?=some ae8:=by rw[d _ (U k q)];exact s
  have o:=(y_.1 t).1
  have E:k≠sa.block:=wB
  refine⟨_,_,_,Xe (F.c3 f _ i x x0 R fn ca cb k) ?_,λe m=>?_,?_,Ir.Uz hX (n:=51) (J k _ q ?_ ?_) (DT (F.c4 f _ i x x0 R fn ca cb k))⟩
  .refine⟨⟨a_ 0,?_⟩,?_,⟨a_ 0,?_⟩,?_,⟨.nilFunc,?_⟩,?_,dE⟩<;>simp[World.cell?,World.frozen?,World.setCell,iF,t,ae8]
  .simp only[II,List.map_cons,List.map_nil,eu,r_,lG,or_false]at m;obtain rfl|rfl|rfl:=m<;>exact⟨_,_,rfl,U k q,by simpa [Ju,World.setCell]using o⟩
  .refine⟨by simp[Ju,World.setCell],λy v=>?_,rfl,rfl,rfl⟩;have:k≠y:=λe=>v (e ▸ U k q)
   simp[Ju,World.setCell,iF,this]
  .simp[Ju,World.setCell,iF,E,b]
  .simp[Ju,World.setCell,iF,t,ae8]
 have H:Ir P r #[pa,pb,pc,pd] 257 Zl (BO (dR P r (TM P b5 b2 b3 r (.pointer (some sa)) n))) (Jt cs UB sa p) 58 (BO (zz0 P q0 q1 q3 x x0 R fn ca cb (AQ f (Fh r (.pointer (some sa)) n i 1 x)) (VK P b5 b2 b3 r (.pointer (some sa)) n))) w:=by
  refine⟨rfl,λw1 d _=>?_⟩
  have b:w1.heap[sa.block]?=some (N_ cs UB):=by rw[d _ T];exact S
  have G:S0<=w1.heap.size:=by
   have e1:=d S0 (U S0 w_)
   rw[v_ V]at e1
   exact Nat.le_of_lt (y_.1 e1).1
  refine⟨_,_,_,F.c2 f _ i x x0 R fn ca cb w1,sJ,?_,I w1.heap.size _ G ?_ ?_⟩
  .refine⟨sJ,λy v=>?_,rfl,rfl,rfl⟩;have:y≠w1.heap.size:=λe=>v (U y wB)
   simp only[Array.getElem?_push,this,if_false]
  .have:=(y_.1 b).1;simp only[Array.getElem?_push];rw[ru wB];exact b
  .simp
 rw[Uk];exact Ir.Uz hX (n:=58) H (DT (F.c1 f _ i x x0 R fn ca cb))
end
end Go.Fxa
namespace Go.Fxa
open Go.Conc
open Go.ConcN (sumTo upd sumTo_upd upd_ne upd_same)
variable {q k kq:Nat}{z:n_}{gS:m_}{Z0:Nat->Prop}{Sh St:Loc->Prop}{Ph:Bool->Nat->m_->o_->Trace->Prop}{X:o_->Prop}{Od:Old}
theorem I9 {a b cc:CommCase}{m:Nat}(h:(#[a,b]:Array CommCase)[m]?=some cc):(m=0/\cc=a)\/(m=1/\cc=b):=by
 match m,h with
 |0,h=>simp at h;exact .inl ⟨rfl,h.symm⟩
 |1,h=>simp at h;exact .inr ⟨rfl,h.symm⟩
 |m+2,h=>simp at h
structure Env (Z:Nat->Prop)(Ad:Loc->Prop)(s:J8)(c:Nat):Prop where
 Lu:∀x,s.own x->Z x
 under:Gx Ad Z
 ofw:∀l,LY s.r s.pre l->Ad l
 ss:∀l,s.Still l->¬Ad l
 ok:s.Ok
 c0:c≠0
def ByK (P:l_)(s:J8)(c:Nat)(gS:m_):Nat->m_->o_->Trace->Prop:=O0 P true s.KW s.KS (KI c s.r s.pre) s.Still (O9 s.q0 s.q2) .select (·=gS)
def rQ (P:l_)(s:J8)(c:Nat)(gC:m_):Nat->m_->o_->Trace->Prop:=O0 P (c==0) s.KW s.KS (KI c s.r s.pre) s.Still (G5 s.q1 s.q3) .select (·=gC)
def Fz (P:l_)(s:J8):SY:=outs P s.r (TM P s.b5 s.b2 s.b3 s.r s.sv s.n)
def ByX (P:l_)(s:J8)(c:Nat)(Ph:Bool->Nat->m_->o_->Trace->Prop)(X:o_->Prop)(k:Nat)(n:Nat)(g:m_)(w:o_)(t:Trace):Prop:=CO P c s.r s.pre 257 (Fz P s) Ph X false n g w t/\(w.heap[s.q3]?=some (.chan 0 #[] false k k false)/\s.cells w)
def ByT (P:l_)(s:J8)(c k:Nat):Nat->m_->o_->Trace->Prop:=ByX P s c cf8 (λ_=>True) k
def I8 (c g:Nat):Prop:=g=0\/g=c
section
variable {P:l_}{Z:Nat->Prop}{Ad:Loc->Prop}{s:J8}{c:Nat}
theorem Env.w (E:Env Z Ad s c):∀l,LY s.r s.pre l->Ad l/\¬s.Still l:=λl h=>⟨E.ofw l h,Wl h⟩
theorem bt5:s.chs s.q0:=.inl rfl
theorem ae7:s.chs s.q1:=.inr (.inl rfl)
theorem ay2:s.chs s.q2:=.inr (.inr (.inl rfl))
theorem aW:s.chs s.q3:=.inr (.inr (.inr rfl))
theorem Env.zq (E:Env Z Ad s c)(h:s.chs q):Z q:=E.Lu q (by obtain e|e|e|e:=h<;>simp[J8.own,e])
theorem Nj {w:o_}(h:s.Open w)(hq:s.chs q):GG w (rcase q z):=by
 obtain⟨k,e⟩:=h q hq;exact⟨q,z,k,rfl,e⟩
theorem zY {w:o_}(h:s.KS w):∀cc∈O9 s.q0 s.q2,GG w cc:=by
 intro cc a;simp only[O9,eu,r_,lG,or_false]at a;obtain rfl|rfl:=a
 .exact Nj h.2.2 bt5
 .exact Nj h.2.2 ay2
theorem ap9 {w:o_}(h:s.KS w):∀cc∈G5 s.q1 s.q3,GG w cc:=by
 intro cc a;simp only[G5,eu,r_,lG,or_false]at a;obtain rfl|rfl:=a
 .exact Nj h.2.2 ae7
 .exact Nj h.2.2 aW
theorem bq5 (E:Env Z Ad s c):∀cc∈O9 s.q0 s.q2,∃q z,cc=rcase q z/\Z q:=by
 intro cc a;simp only[O9,eu,r_,lG,or_false]at a;obtain rfl|rfl:=a
 .exact⟨_,_,rfl,E.zq bt5⟩
 .exact⟨_,_,rfl,E.zq ay2⟩
theorem yR (E:Env Z Ad s c):∀cc∈G5 s.q1 s.q3,∃q z,cc=rcase q z/\Z q:=by
 intro cc a;simp only[G5,eu,r_,lG,or_false]at a;obtain rfl|rfl:=a
 .exact⟨_,_,rfl,E.zq ae7⟩
 .exact⟨_,_,rfl,E.zq aW⟩
theorem Ϭ {c a:Nat}{b:n_}(h:rcase c z=rcase a b):c=a:=by simp[rcase]at h;exact h.1
theorem aw6 {cs:Array CommCase}(h:∀cc∈cs,∃q z,cc=rcase q z/\Z q):∀cc∈cs,∀c z,cc=rcase c z->Z c:=λcc b c z e=>by
 obtain⟨q,f,a,d⟩:=h cc b;rw[e]at a;rw[Ϭ a];exact d
theorem vg (E:Env Z Ad s c):G8 P Z Ad s.Still (λB t=>PX Ad s.Still (I8 c) (λg=>g=0) B c t) 0 (ByK P s c gS):=
 X0 (Ov E.Lu) (λ_ h=>h.PT) (J4 E.w E.ss) (aw6 (bq5 E)) (.inl rfl) rfl
theorem YJ {gC:m_}(E:Env Z Ad s c):G8 P Z Ad s.Still (λB t=>PX Ad s.Still (I8 c) (λg=>g=c) B 0 t) c (rQ P s c gC):=
 X0 (Ov E.Lu) (λ_ h=>h.PT) (J4 E.w E.ss) (aw6 (yR E)) (.inr rfl) rfl
theorem ve {Z':Nat->Prop}(u:∀r A y,PM P r A y)(j:s.Ok)(m:c≠0)(H:Ny P Z0 Sh St (fun g=>g=c) c s.r s.pre 257 (Fz P s) Ph X)(o:Z0 s.r)(v:∀x,Z0 x->Z' x)(p:∀l,LY s.r s.pre l->Sh l/\¬St l)(n:∀x,s.own x->Z' x)(hq:∀x,s.own x->x≠s.r->¬Z0 x):
  G8 P Z' Sh St (λB t=>PX Sh St (λg=>g=0) (λg=>g=c) B 0 t) c (ByX P s c Ph X k):=
 yf H (Yg (u _ _ _)) o p m m v λw i h e=>by
  have a:s.own s.q3:=by simp[J8.own]
  refine⟨by rw[e _ (hq _ a (j.bq _ (.inr (.inr (.inr rfl)))).2.2.2) (n _ a)];exact h.1,h.2.keep λx d=>?_⟩
  have b:s.own x:=by obtain e|e|e:=d<;>simp[J8.own,e]
  have f:x≠s.r:=by obtain e|e|e:=d<;>subst e<;>first|exact j.br.2.2|exact j.br.1|exact j.br.2.1
  exact e x (hq x b f) (n x b)
theorem co0 (H:Ny P Z0 Sh St (λg=>g=c) c s.r s.pre 257 (Fz P s) Ph X)(n:Nat)(b:m_)(w:o_)(t:Trace)(h:ByX P s c Ph X k n b w t)(d:Nat):s.KW (w.at d):=by
 obtain⟨f,e,a⟩:=Zj H h.1;exact⟨⟨f,e,a⟩,h.2.2⟩
theorem al6 (b:∀r e d,PM P r e d)(E:Env Z Ad s c):G8 P Z Ad s.Still (λB t=>PX Ad s.Still (λg=>g=0) (λg=>g=c) B 0 t) c (ByT P s c k):=
 ve (Z0:=λx=>x=s.r) b E.ok E.c0 bo3 rfl (λx a=>E.Lu _ (by rw[a];simp[J8.own])) E.w E.Lu (λ_ _ h=>h)
theorem zo (n:Nat)(b:m_)(w:o_)(t:Trace)(h:ByK P s c gS n b w t)(d:Nat):s.KW (w.at d):=(h.1.1:s.KS w).PT
theorem bp4 {gC:m_}(n:Nat)(b:m_)(w:o_)(t:Trace)(h:rQ P s c gC n b w t)(d:Nat):s.KW (w.at d):=(h.1.1:s.KS w).PT
theorem xQ (E:Env Z Ad s c)(x:n_):zA P Z Ad s.Still (I8 c) c 0 s.KW s.KS (KI c s.r s.pre) (O9 s.q0 s.q2) (mM s.q0 s.q3 x) 0 0 s.q0 x (a_ 0) (a_ 0) where
 leans:=Ov E.Lu
 PT:=λ_ h=>h.PT
 lasts:=J4 E.w E.ss
 meets:={
  hkh:=rfl
  hoh:=λm b a h=>by
   obtain⟨e,_⟩|⟨_,rfl⟩:=I9 h
   .exact(a e).elim
   .exact⟨_,_,rfl,E.ok.qq.2.2.1.symm,E.zq aW⟩
  hkj:=rfl
  hoj:=λm b a h=>by
   obtain⟨e,_⟩|⟨_,rfl⟩:=I9 h
   .exact(a e).elim
   .simp[rcase,E.ok.qq.2.1.symm]
  hrj:=bq5 E}
 ϑ:=.inr rfl
 ϐ:=.inl rfl
 opens:=λw h m b a f=>by
  obtain⟨e,_⟩|⟨_,rfl⟩:=I9 f
  .exact(a e).elim
  .exact Nj h.2.2 aW
 keeps:=λ_ d k h=>h.chan E.ok bt5 d k
theorem aa9 (E:Env Z Ad s c)(o:Int):zA P Z Ad s.Still (I8 c) c 0 s.KW s.KS (KI c s.r s.pre) (O9 s.q0 s.q2) (iI s.q2 s.q3 o) 0 1 s.q2 (b_ o) (b_ 0) (b_ 0) where
 leans:=Ov E.Lu
 PT:=λ_ h=>h.PT
 lasts:=J4 E.w E.ss
 meets:={
  hkh:=rfl
  hoh:=λm b a h=>by
   obtain⟨e,_⟩|⟨_,rfl⟩:=I9 h
   .exact(a e).elim
   .exact⟨_,_,rfl,E.ok.qq.2.2.2.2.2.symm,E.zq aW⟩
  hkj:=rfl
  hoj:=λm b a h=>by
   obtain⟨_,rfl⟩|⟨e,_⟩:=I9 h
   .simp[rcase,E.ok.qq.2.1]
   .exact(a e).elim
  hrj:=bq5 E}
 ϑ:=.inr rfl
 ϐ:=.inl rfl
 opens:=λw h m b a f=>by
  obtain⟨e,_⟩|⟨_,rfl⟩:=I9 f
  .exact(a e).elim
  .exact Nj h.2.2 aW
 keeps:=λ_ d k h=>h.chan E.ok ay2 d k
theorem VD (E:Env Z Ad s c)(A:n_):zA P Z Ad s.Still (I8 c) 0 c s.KW s.KS (KI c s.r s.pre) (G5 s.q1 s.q3) (lU s.q1 A) 0 0 s.q1 A (.tuple #[]) sH where
 leans:=Ov E.Lu
 PT:=λ_ h=>h.PT
 lasts:=J4 E.w E.ss
 meets:={
  hkh:=rfl
  hoh:=λm b a h=>by
   match m,h with
   |0,_=>exact(a rfl).elim
   |m+1,h=>simp[lU]at h
  hkj:=rfl
  hoj:=λm b a h=>by
   obtain⟨e,_⟩|⟨_,rfl⟩:=I9 h
   .exact(a e).elim
   .simp[rcase,E.ok.qq.2.2.2.2.1.symm]
  hrj:=yR E}
 ϑ:=.inl rfl
 ϐ:=.inr rfl
 opens:=λw h m b a f=>by
  match m,f with
  |0,_=>exact(a rfl).elim
  |m+1,h=>simp[lU]at h
 keeps:=λ_ d k h=>h.chan E.ok ae7 d k
theorem cZ.last {gs:Array m_}{w:o_}{sl:d_ (W_)}{t:Trace}{a:m_}{J:o_->Prop}(o:Int)(E:Env Z Ad s c)(U:a.status=.running)(V:∀w,stepG P (c==0) a w=.comm a (iI s.q2 s.q3 o) true .select w #[])
  (Q:Ls P (DD s.r s.pre 257) false k (Conc.served a (commResult (iI s.q2 s.q3 o) .select 0 undef false)) (Fz P s).gR)
  (H:cZ Od P Z Ad s.Still (I8 c) (λg=>g=0) c 0 (ByK P s c gS) (λg v=>g=a/\J v) gs w t):
  AX P gs w sl t λR w' S=>∃kq,cZ Od P Z Ad s.Still (λg=>g=0) (λg=>g=c) 0 c (ByT P s c kq) (λg v=>g=Conc.served gS (commResult (O9 s.q0 s.q2) .select 1 (b_ o) true)/\J v) R w' S:=by
 have M:=aa9 (P:=P) E o;obtain⟨q,n,B,g,v0,j,⟨rfl,l⟩,T,y,D⟩:=H;obtain⟨b,hb,m⟩:=D.idle;have υ:s.KS w:=m.1.1;refine(Zc (Am:=λg=>g=0) M.leans M.PT M.lasts M.meets M.ϑ M.ϐ rfl (es:=#[]) (n+sumTo gs.size q+1) n gs g w sl t q B wB j U D (M.opens w υ) (λd=>V (w.at d)) sJ).bind λR w' L S K A=>?_
 obtain⟨I,x,d,h,m1,m2,m3,N,O,rfl,F,G,z,u,_⟩:=A;have off:CS Z w ((w.at d).setChan s.q2 0 #[] false (h+1) (h+1) false):=Nk (E.zq ay2) w d (h+1) false;have e:s.KS ((w.at d).setChan s.q2 0 #[] false (h+1) (h+1) false):=M.keeps w d (h+1) υ;obtain⟨kq,p⟩:=e.2.2 s.q3 aW;refine .now ⟨kq,I,_,B,_,v0,m2,⟨by rw[m3];rfl,l⟩,T.off y off,y,⟨D.ne.symm,.inl rfl,λg f=>.inl f,⟨_,m1,.inr ⟨⟨u,.inl ⟨k,rfl,Q,e.1,?_⟩⟩,dE⟩,p,e.2.1⟩,λi g j l C=>F i g l j C,G,?_,?_⟩⟩
 .exact z.hears c (.inr rfl)
 .exact(z.fewer (Me:=λg=>g=0) λg f=>.inl f).loosen (λg f=>(f.2 f.1).elim)
 .rw[JI];exact D.size
end
structure Ff (P:l_):Prop where
 F7:Vo P
 child:∀(b5 b2 b3 r q0 q1 q2 q3:Nat)(sv:n_)(n:Int),Eu P b5 b2 b3 r q0 q1 q2 q3 sv n
 ans:∀(r q0 q1 q3:Nat)(sv:n_)(n:Int),Vp P r q0 q1 q3 sv n
 done:∀(r:Nat)(tm:X_)(td:List Item),PM P r tm td
 add:∀(r:Nat)(c:Frame)(Y:Z_),Zm P r c Y
 wait:∀(r:Nat)(c:Frame)(Y:Z_),SG P r c Y
 mixed:P.follows .mixedOrders=true
 blk:oU P
 back:∀(b5 b2 b3 r q0 q1 q3:Nat)(sa:f_)(n:Int),WB P b5 b2 b3 r q0 q1 q3 sa n
def gC (P:l_)(s:J8)(f:Y_)(i:Int)(x:n_):m_:=BO (m3 P s.q0 s.q1 s.q3 x (AQ f (Fh s.r s.sv s.n i 1 x)) (VK P s.b5 s.b2 s.b3 s.r s.sv s.n))
def VW (P:l_)(s:J8)(f:Y_)(td:List Item)(told:n_)(c0:Frame)(cs:Z_):Frame×Z_:=sR P (ϖ (AQ f [(6,told)]) td::c0::cs) s.r
theorem V9 {s:J8}(x:Nat):¬s.Still (.obj x):=by
 intro h;obtain e|e|e|e|e|e|e:=h<;>cases e
section
variable {P:l_}{Z:Nat->Prop}{Ad:Loc->Prop}{s:J8}{c:Nat}{gs:Array m_}{w:o_}{sl:d_ (W_)}{t:Trace}{J:o_->Prop}{f fc:Nat->n_}{i:Int}{x told:n_}{td:List Item}{c0:Frame}{cs:Z_}
theorem cj3 (A:Ff P)(a:m_)(h:a=gC P s fc i x):Ho P false s.KW s.Still (G5 s.q1 s.q3) .select (·=gC P s fc i x) 0 { parked a (G5 s.q1 s.q3) .select with status:=.running}:=by
 subst h;refine⟨gC P s fc i x,#[],rfl,rfl,sJ,λw _=>?_⟩;exact I5 ((A.child s.b5 s.b2 s.b3 s.r s.q0 s.q1 s.q2 s.q3 s.sv s.n).m16 fc _ i x) w
theorem ao6 (A:Ff P)(a:m_)(h:a=gC P s fc i x):Ls P (DD s.r s.pre 257) false 37 (Conc.served a (commResult (G5 s.q1 s.q3) .select 1 (.agg #[]) false)) (Fz P s).gR:=by
 subst h;exact qQ (A.child s.b5 s.b2 s.b3 s.r s.q0 s.q1 s.q2 s.q3 s.sv s.n) fc i x
theorem au2 (O:s.Ok):∀(m:Nat) cc,m≠1->(G5 s.q1 s.q3)[m]?=some cc->cc.chan≠.chan (some s.q3):=λm cc a h=>by
 obtain⟨_,rfl⟩|⟨e,_⟩:=I9 h
 .simp[rcase,O.qq.2.2.2.2.1]
 .exact(a e).elim
def mX (P:l_)(Z:Nat->Prop)(Ad:Loc->Prop)(X:o_->Prop)(c0:Frame)(cs:Z_)(told:n_)(w:o_)(BA:Array m_)(w':o_)(t':Trace):Prop:=
 ∃q' B',BA[0]?=some (G (c0.finish told) cs)/\CS Z w w'/\Leavers P t' BA q'/\Past Ad B' t'/\w'.heap.size<=B'/\X w'
theorem mX.off {Z:Nat->Prop}{Ad:Loc->Prop}{w1:o_}{g:Array m_}{w':o_}{j:Trace}(l:CS Z w w1)(h:mX P Z Ad X c0 cs told w1 g w' j):mX P Z Ad X c0 cs told w g w' j:=by
 obtain⟨e,a,b,c,d⟩:=h;exact⟨e,a,b,l.trans c,d⟩
theorem TG (A:Ff P)(T:Ny P Z Sh St (fun g=>g=c) c s.r s.pre 257 (Fz P s) Ph X)(R:∀l,Sh l->¬St l->Ad l)(V:Z s.r)(U:∀l,LY s.r s.pre l->Sh l/\¬St l)(S:c≠0)(hX:∀w d,X w->X (w.at d))
  {n B:Nat} {q:Nat->Nat} (W:gs[0]?=some (BO (sD P (ϖ (AQ f [(6,told)]) td::c0::cs) s.r s.q3)))
  (D:Duo P Sh St (λg=>g=0) (λg=>g=c) B 0 c (CO P c s.r s.pre 257 (Fz P s) Ph X false) n gs w t q):
  AX P gs w sl t (mX P Z Ad X c0 cs told w):=by
 have i:G8 P Z Sh St (λB t=>PX Sh St (λg=>g=0) (λg=>g=c) B 0 t) c (CO P c s.r s.pre 257 (Fz P s) Ph X false):=PE T (Yg (A.done _ _ _)) V U S S;refine(Ie (J:=λ_=>True) (λ_ _ _ _ _ _=>trivial) i 6 (DT (A.F7.sDa _ _ _)) W D).bind λo w1 I N _ ⟨q1,L,H,a,E,_,e⟩=>?_
 rw[A.F7.sDb]at a;refine(join T R (Yg (A.done _ _ _)) (az0 (A.wait _ _ _)) V U S a e).bind λp w2 G O _ ⟨M,b,v,F,_,h,j,k,m⟩=>?_
 refine(KP Qg _ (Jd (K:=λ_=>True) (A.F7.end_ _ _ _ _ _ _ _)) (λ_=>trivial) v h j).mono λu w3 Q ⟨Y,d,x,y,z,C⟩=>?_
 subst y;exact⟨Y,b,x,(E.trans F).trans (CS.at w2 d),z,C,k,hX w2 d m⟩
theorem qM (A:Ff P)(E:Env Z Ad s c)(H:cZ Od P Z Ad s.Still (I8 c) (fun g=>g=c) 0 c (rQ P s c (gC P s fc i x)) (fun g v=>g=BO (VW P s f td told c0 cs)/\J v) gs w t):
  AX P gs w sl t λY w' t'=>∃v B,J v/\Y[0]?=some (G (c0.finish told) cs)/\Y7 Od P Ad Z B v Y w' t':=by
 refine(H.walk (sl:=sl) bp4 (λw a h z=>JH h z) E.ss (YJ E) (RW.at (A.F7.sRa _ _ s.q3) (λw h=>let ⟨_,_,b⟩:=h.1;(KQ b).2.2.2) (OW (s:=s)).t3)).bind λp w1 R W _ m=>?_
 obtain⟨q1,S,O,g,v,u,⟨rfl,y⟩,T,e,D⟩:=m;have b:Z s.r:=E.Lu _ (by simp[J8.own]);refine(yg (Am:=λg=>g=c) (home:=(·=gC P s fc i x)) (o:=Fz P s) (kR:=37) (zq:=.agg #[]) (Ov E.Lu) (λ_ h=>h.PT) (J4 E.w E.ss) E.c0 V9 (aw6 (yR E)) rfl (λ_ h=>h) (λ_ h=>h.1) (λ_ k h=>h.shut E.ok k) (E.ok.bq _ aW).2.2.2.symm rfl (au2 E.ok) (cj3 A) (A.F7.sCw _ _ _) rfl rfl (λw1 k _ hq d=>ZU (A.F7.sCa _ _ _) hq) u D).bind λq w2 N X _ ⟨V,U,Q,k1,k2,_,l⟩=>?_
 refine(TG (Ad:=Ad) A (bb8 (bh5 E.Lu) (aw6 (yR E)) b E.w E.c0 rfl (ao6 A) λw n d h=>h.set E.ok n d) (λ_ h _=>h) b E.w E.c0 (λ_ _ h=>h) k1 l).mono λY w' t' ⟨M,j,C,F,I,K,L,_⟩=>?_
 exact⟨v,j,y,C,M,(T.off e k2).off e F,e,I,K,L⟩
theorem ZT (A:Ff P)(V:s.Ok)(U:c≠0)(H:Ny P Z0 Sh St (fun g=>g=c) c s.r s.pre 257 (Fz P s) Ph X)(N:Z0 s.r)(O:∀x,Z0 x->Z x)(T:∀l,LY s.r s.pre l->Sh l/\¬St l)(W:∀x,s.own x->Z x)(hq:∀x,s.own x->x≠s.r->¬Z0 x)
  (R:∀l,s.Still l->¬Sh l) (S:∀x,¬St (.obj x)) (Q:∀l,Sh l->¬St l->Ad l) (hX:∀w d,X w->X (w.at d)) {n B:Nat} {q:Nat->Nat} (Y:gs[0]?=some (BO (VW P s f td told c0 cs))) (D:Duo P Sh St (λg=>g=0) (λg=>g=c) B 0 c (ByX P s c Ph X kq) n gs w t q):
  AX P gs w sl t (mX P Z Ad X c0 cs told w):=by
 have e:=ve (k:=kq) A.done V U H N O T W hq;refine(uo (S0:=s.Still) (co0 H) (λw a h O=>JH h O) R e 1 (RW.at (A.F7.sRa _ _ s.q3) (λw h=>let ⟨_,_,hr⟩:=h.1;(KQ hr).2.2.2) (OW (s:=s)).t3) Y D).bind λm w1 E K _ ⟨q1,F,y,p,u,_,i⟩=>?_
 have b:s.own s.q3:=by simp[J8.own]
 refine(ac2 (Z:=Z) (X2:=λw=>w.heap[s.q3]?=some (.chan 0 #[] false kq kq false)/\s.cells w) H (Yg (A.done _ _ _)) N T U S (W _ b) (hq _ b (V.bq _ aW).2.2.2) rfl (λ_ h=>h.1) (λw1 hq d=>ZU (A.F7.sCa _ _ _) hq) p e i).bind λo w2 v L _ ⟨I,G,z,k1,k2,_,j⟩=>?_
 exact(TG (Ad:=Ad) A (H.sub O) Q (O _ N) T U hX k1 j).mono λC M J h=>(h.off k2).off u
theorem Xo (A:Ff P)(E:Env Z Ad s c)(H:cZ Od P Z Ad s.Still (fun g=>g=0) (fun g=>g=c) 0 c (ByT P s c kq) (fun g v=>g=BO (VW P s f td told c0 cs)/\J v) gs w t):
  AX P gs w sl t λu w' y=>∃v B,J v/\u[0]?=some (G (c0.finish told) cs)/\Y7 Od P Ad Z B v u w' y:=by
 obtain⟨q1,q,p,g,v,d,⟨rfl,e⟩,T,a,D⟩:=H;refine(ZT (Z0:=λx=>x=s.r) (Ad:=Ad) A E.ok E.c0 bo3 rfl (λx i=>E.Lu _ (by rw[i];simp[J8.own])) E.w E.Lu (λ_ _ h=>h) E.ss V9 (λ_ h _=>h) (λ_ _ h=>h) d D).mono λu w' y ⟨o,b,j,k,l,m,n,_⟩=>?_
 exact⟨v,b,e,j,o,T.off a k,a,l,m,n⟩
end
end Go.Fxa
