/- The holder reads what is its o -/
import Derived.Test.YtmhplpfpcnjekaaGreatA11
import Derived.Conc.TokenWalk
open Go.Proofs.Tryz
namespace Go.Fxa
open Go.Conc
open Go.ConcN (sumTo upd sumTo_upd upd_ne upd_same)
variable {P:l_}{main:Bool}{x:Frame×Z_}{vs:U_}{aH:List f_}{y:n_}{w:o_}{id:Nat}{ops:Array Oper}{k:List Item}{Od:Old}
def G6 (P:l_)(x:Frame×Z_)(vs:U_):d_ (List f_×n_):=match XC x with
 |some o=>match (execOp x.1.eval o).feed P vs with
  |some (l,.value y)=>if(P.funcs[x.1.fn]?).any (·.norace)then none else some (l,y)
  |_=>none
 |none=>none
theorem ZF (h:G6 P x vs=some (aH,y))(d:Cells w aH vs):stepG P main (BO x) w=.go (BO (BK x y)) w (Ig aH):=by
 unfold G6 at h;split at h
 .rename_i o b;split at h
  .rename_i l c a;split at h
   .cases h
   .rename_i hq;simp only[l7,lQ]at h;obtain⟨rfl,rfl⟩:=h;exact zO b a d (by simpa using hq)
  .cases h
 .cases h
theorem Qk {Od:Old}{Z:Nat->Prop}{v w:o_}(T:Yr Od Z v w):∀{aH:List f_} {vs:U_},Cells v aH vs->Cells w aH vs/\∀a∈aH,¬Z a.block/\a.block<w.heap.size
 |[],_,_=>⟨dE,sJ⟩
 |a::aH,[],h=>h.elim
 |a::aH,v0::vs,h=>by
  obtain⟨d,e⟩:=h
  obtain⟨c,c2,c3,_⟩:=T.cell d
  obtain⟨d1,d2⟩:=Qk T e
  refine⟨⟨c,d1⟩,λb hb=>?_⟩
  obtain rfl|hb:=r_.1 hb
  .exact⟨c2,c3⟩
  .exact d2 b hb
def UZ (x:Frame×Z_):d_ (Nat×Array Oper×List Item):=match x.1.roundOf,x.1.mode,x.1.todo with
 |none,.run,.code (.region id ops true)::k=>some (id,ops,k)
 |_,_,_=>none
def ordered (x:Frame×Z_)(ops:Array Oper)(k:List Item)(l:List Nat):Frame×Z_:=({x.1 with todo:=.inRegion ops l::k},x.2)
def GK (ops:Array Oper)(listed:Array Bool):List Nat:=(List.range ops.size).filter λi=>!listed.getD i true && ((ops[i]?).map (·.after.all λe=>!Region.binds .any e || listed.getD e.on false)).getD false
def QQ (ops:Array Oper):Nat->Array Bool->List (List Nat)
 |0,_=>[[]]
 |fuel+1,listed=>if(GK ops listed).isEmpty then[[]]else(GK ops listed).flatMap λi=>(QQ ops fuel (listed.setIfInBounds i true)).map (i::·)
theorem Γ (ops:Array Oper):∀(h t:Nat)(listed:Array Bool)(j:List Nat),∃l∈QQ ops h listed,Region.linearise.go .any ops h t listed j=j.reverse++l
 |0,t,listed,j=>⟨[],by simp[QQ],by simp[Region.linearise.go]⟩
 |h+1,t,listed,j=>by
  have d:Region.linearise.go .any ops (h+1) t listed j=match (GK ops listed)[t % (GK ops listed).length]? with
   |some i=>Region.linearise.go .any ops h (t / (GK ops listed).length) (listed.setIfInBounds i true) (i::j)
   |none=>j.reverse:=rfl
  rw[d]
  cases hi:(GK ops listed)[t % (GK ops listed).length]? with
  |some i=>
   obtain⟨l,f,e⟩:=Γ ops h (t / (GK ops listed).length) (listed.setIfInBounds i true) (i::j)
   refine⟨i::l,?_,by simp only;rw[e];simp⟩
   have b:=t_ hi
   have c:(GK ops listed).isEmpty=false:=by
    cases hrs:GK ops listed with
    |nil=>rw[hrs]at b;cases b
    |cons=>rfl
   simp only[QQ,c,jb,if_false]
   exact List.mem_flatMap.2 ⟨i,b,List.mem_map.2 ⟨l,f,rfl⟩⟩
  |none=>
   have g:GK ops listed=[]:=by
    rw[List.getElem?_eq_none_iff]at hi
    cases hrs:GK ops listed with
    |nil=>rfl
    |cons a l=>
     rw[hrs]at hi
     have:=Nat.mod_lt t (show 0<(a::l).length by simp)
     omega
   refine⟨[],?_,sJ⟩
   simp[QQ,g]
theorem kD (b:P.follows .mixedOrders=true)(ops:Array Oper)(t:Nat):Region.schedule (P.follows .mixedOrders) ops t∈QQ ops ops.size (Array.replicate ops.size false):=by
 rw[b];obtain⟨l,a,e⟩:=Γ ops ops.size t (Array.replicate ops.size false) [];have:Region.schedule true ops t=l:=by
  simp only[Region.schedule,Bool.true_or,if_true,Region.linearise]
  rw[e];simp
 rw[this];exact a
theorem ab9 (h:UZ x=some (id,ops,k))(w:o_):
  stepG P main (BO x) w=.go (BO (ordered x ops k (Region.schedule (P.follows .mixedOrders) ops (w.tape w.drawn (.order x.1.fn id))))) {w with drawn:=w.drawn+1} #[]:=by
 obtain⟨⟨fn,b,c,e,a,kind,f⟩,d⟩:=x;unfold UZ at h;simp only at h;split at h
 .simp only[l7,lQ]at h;obtain⟨rfl,rfl,rfl⟩:=h;simp[BO,ordered,G,stepG,stepG.exec,choose,Sem.run,Question.forced,Question.cut]
 .cases h
def uF (P:l_)(x:Frame×Z_):d_ Deferred:=match XC x with
 |some o=>match (execOp x.1.eval o).Jy P with
  |some (.spawn ⟨.fn (.func f) c,ar⟩)=>some ⟨.fn (.func f) c,ar⟩
  |_=>none
 |none=>none
theorem wV {d:Deferred}(h:uF P x=some d)(w:o_):
  stepG P main (BO x) w=.spawn (BO (BK x undef)) (BO ({ (default:Frame)with fn:=P.funcs.size,defers:=[d],mode:=.panicking [goexitEntry]},[])) w #[]:=by
 unfold uF at h;split at h
 .rename_i o b;split at h
  .rename_i f c e a;obtain rfl:=x_ h;obtain⟨e1,e2⟩:=QX (P:=P) (main:=main) (w:=w) b;show stepG P main (G x.1 x.2) w=_;rw[e1];simp only[stepG.apply,JJ a w #[],if_true,GStep.after,kL,e2,jb,if_false,seen_none,Bool.and_false,Bool.false_and]
   rfl
  .cases h
 .cases h
def Zi (P:l_)(x:Frame×Z_):d_ Nat:=match x.1.roundOf,x.1.mode,x.1.kind==CallKind.early,x.1.todo with
 |none,.run,false,.inRegion ops (i::_)::_=>match ops[i]? with
  |some o=>if Region.wanted o (yielded ops x.1.tmps)then match o.op with
   |.call { callee:=.builtin .close,args:=ar,argTypes:=_}=>match ar.toList with
    |[y]=>match x.1.eval y with
     |.chan (some c)=>if(P.funcs[x.1.fn]?).any (·.norace)then none else some c
     |_=>none
    |_=>none
   |_=>none
   else none
  |none=>none
 |_,_,_,_=>none
theorem ZU {c:Nat}(h:Zi P x=some c){cap s r:Nat}{H:X_}{I:Bool}(J:w.heap[c]?=some (.chan cap H false s r I)):
  stepG P main (BO x) w=.go (BO (BK x (.tuple #[]))) (w.setChan c cap H true s r I) (closeEvents c):=by
 obtain⟨⟨fn,d,t,f,p,kind,G⟩,F⟩:=x;unfold Zi at h;simp only at h;split at h
 .rename_i j i q l D;split at h
  .rename_i o m;split at h
   .rename_i C;split at h
    .rename_i v z u;split at h
     .rename_i y k;have g:v=#[y]:=(by apply Array.ext';simpa using k);subst g;split at h
      .rename_i E n;split at h
       .cases h
       rename_i hq;obtain rfl:=x_ h;have A:kind≠.early:=λe=>by subst e;simp at D
       have B:(Frame.mk fn d (.inRegion j (i::q)::l) f .run kind none).eval=(Act.mk d f).eval:=Frame.eval_at' (Frame.mk fn d [] f .run kind none) ⟨d,f⟩ (.inRegion j (i::q)::l);rw[B]at n;refine(stepG_close (b:=Frame.mk fn d [] f .run kind none) (a:=⟨d,f⟩) (kk:=l) m C A u n J (by simpa using hq)).trans ?_;unfold BK Act.put Frame.at Frame.finish BO;simp only[m,Option.bind_some];cases o.dst<;>rfl
      .cases h
     .cases h
    .cases h
   .cases h
  .cases h
 .cases h
section
variable {P:l_}{Z:Nat->Prop}{Ad Still:Loc->Prop}{Mem Am:Nat->Prop}{h j:Nat}{By:Nat->m_->o_->Trace->Prop}{gs:Array m_}{w:o_}{sl:d_ (W_)}{t:Trace}{J:o_->Prop}
theorem cZ.reads (V:Gx Ad Z)(O:G8 P Z Ad Still (fun B t=>PX Ad Still Mem Am B h t) j By)(X:G6 P x vs=some (aH,y))(W:∀v,J v->Cells v aH vs)
  (H:cZ Od P Z Ad Still Mem Am h j By (λg v=>g=BO x/\J v) gs w t):AX P gs w sl t (cZ Od P Z Ad Still Mem Am h j By (λg v=>g=BO (BK x y)/\J v)):=by
 obtain⟨q,n,B,g,v,A,⟨rfl,s⟩,T,i,D⟩:=H;refine go_duo (Me:=Mem) (Loose':=Am) O A rfl D D.mem λc C w1 o K R U F hB G d=>?_
 have r:Yr Od Z v (w1.at d):=(T.off i F).off i (CS.at w1 d);obtain⟨k,l⟩:=Qk r (W v s);have p:∀e∈Ig aH,aN Ad Still c e:=λe u=>by
  simp only[Ig,eu,List.mem_map]at u
  obtain⟨a,E,rfl⟩:=u
  obtain⟨z1,M⟩:=l a E
  refine⟨λb hb=>?_,sJ,sJ,Nat.lt_of_lt_of_le M o,sJ⟩
  obtain rfl:=x_ hb
  exact⟨λ_=>⟨rfl,λm=>z1 (V.1 _ m)⟩,λm=>(z1 (V.1 _ m)).elim⟩
 refine⟨_,_,_,c,ZF X k,w_,o,G.own p,By,K,?_,λN L I S f z Q=>.now ⟨L,I,c,_,v,f,⟨rfl,s⟩,r,i,z⟩⟩;rw[woken_of_again (O.again hB (w1.at d) (λ_ _=>rfl))];exact O.calm (w1.at d) _ hB (λ_ _=>rfl) (Gn D.ne p)
theorem cZ.draws (I:P.follows .mixedOrders=true)(O:G8 P Z Ad Still (fun B t=>PX Ad Still Mem Am B h t) j By){L:List (List Nat)}(G:UZ x=some (id,ops,k))(hL:QQ ops ops.size (Array.replicate ops.size false)=L)
  (H:cZ Od P Z Ad Still Mem Am h j By (λg v=>g=BO x/\J v) gs w t):AX P gs w sl t (cZ Od P Z Ad Still Mem Am h j By (λg v=>(∃l∈L,g=BO (ordered x ops k l))/\J v)):=by
 obtain⟨q,n,B,g,v,i,⟨rfl,m⟩,T,c,D⟩:=H;refine go_duo (Me:=Mem) (Loose':=Am) O i rfl D D.mem λa o w1 e u C F p hB r d=>?_
 refine⟨_,w1.at (d+1),#[],a,ab9 G _,w_,e,r.own sJ,By,u,?_,λz y s E b f A=>.now ⟨y,s,a,_,v,b,⟨⟨_,by rw[<-hL];exact kD I ops _,rfl⟩,m⟩,(T.off c p).off c (CS.at w1 (d+1)),c,f⟩⟩;rw[woken_of_again (O.again hB (w1.at (d+1)) (λ_ _=>rfl))];exact O.calm (w1.at (d+1)) _ hB (λ_ _=>rfl) (Gn D.ne (B:=a) sJ)
end
end Go.Fxa
namespace Go.Fxa
open Go.Conc
structure al8 (P:l_)(N:Fence)(m:Nat)(r:Nat)(sv:n_)(n:Int)(I:Int->o_->Prop)(Cd:Int->n_->o_->Prop)(Bd:o_->Prop):Prop where
 wp:∀i v f,I i v->0<=i->i<n->∀τ d,(XA P).wpIn N m P (λe a w'=>e=.normal/\a.defers=[]/\∃f' oc x,a.tmps=yP (AQ f' (Fh r sv n i oc x))/\((oc=0/\I (i+1) w')\/(oc=1/\Cd i x w')\/(oc=2/\Bd w'))) ⟨yP (AQ f (Ob r sv n i)),[]⟩ (v.re τ d)
 tI:∀i,Dw (I i)
 tC:∀i x,Dw (Cd i x)
 tB:Dw Bd
def cq1 (P:l_)(r q0 q2 q3:Nat)(sv:n_)(n lo:Int)(Y:Z_)(I:Int->o_->Prop)(Cd:Int->n_->o_->Prop)(Bd:o_->Prop)(g:m_)(v:o_):Prop:=
 (∃i f x,lo<=i/\i<n/\g=BO (k3 P q0 q3 (AQ f (Fh r sv n i 1 x)) Y)/\Cd i x v)\/(∃i f x,g=BO (e3 P q2 q3 (AQ f (Fh r sv n i 2 x)) Y)/\Bd v)\/(∃f,g=BO (d3 P q2 q3 (AQ f (Ob r sv n n)) Y)/\I n v)
section
variable {P:l_}{L:h_->Prop}{p:h_->Oper->Bool}{N:Fence}{m:Nat}{Z:Nat->Prop}{Ad Still:Loc->Prop}{Mem Am:Nat->Prop}{c:Nat}{By:Nat->m_->o_->Trace->Prop}{K:o_->Prop}{b5 b2 b3 r q0 q1 q2 q3:Nat}{sv:n_}{n:Int}{I:Int->o_->Prop}{Cd:Int->n_->o_->Prop}{Bd:o_->Prop}{Y:Z_}{ag7:h_}
theorem yw {Od:Old}(F:Eu P b5 b2 b3 r q0 q1 q2 q3 sv n)(R:TZ K Still b5 b2 b3 r q0 q1 q2 q3 sv n)(S:al8 P N m r sv n I Cd Bd)(hn:n<=1000)(FN:V4 P L p N)(hu:Gx Ad Z)(cx8:Gx Still Z)
  (hJ:∀n b w t,By n b w t->∀d,K (w.at d)) (BX:∀w a,K w->Still (.cell a)->a.block<w.heap.size) (hSS:∀l,Still l->¬Ad l) (O:G8 P Z Ad Still (λB t=>PX Ad Still Mem Am B c t) 0 By)
  (hf:dW L N ag7) (hq:∀es,seen P 136 es=seen P ag7 es) (hc2:(XA P).AP (p ag7)=true) {lo:Int} (hlo:0<=lo):
  ∀(k:Nat)(i:Int)(f:Y_)(gs:Array m_)(w:o_)(sl:d_ (W_))(t:Trace),(n-i).toNat<=k->lo<=i->i<=n->
  cZ Od P Z Ad Still Mem Am c 0 By (λg v=>g=BO (LH P (AQ f (Ob r sv n i)) Y)/\I i v) gs w t->AX P gs w sl t (cZ Od P Z Ad Still Mem Am c 0 By (cq1 P r q0 q2 q3 sv n lo Y I Cd Bd)):=by
 intro k
 induction k with
 |zero=>
  intro i f gs w sl t hk h0 D H
  obtain rfl:i=n:=wB
  refine(H.walk (sl:=sl) hJ BX hSS O (Xp F R f Y wB)).mono λA X W o=>o.mono λg v ⟨s,j⟩=>.inr (.inr ⟨f,s,j⟩)
 |succ k ih=>
  intro i f gs w sl t hk h0 D H
  by_cases hi:i<n
  .obtain⟨f1,E⟩:=yu (main:=c==0) (K:=K) (Still:=Still) F f Y hi;refine(H.walk (sl:=sl) hJ BX hSS O E).bind λgs1 w1 JL t1 _ H1=>?_
   refine(cZ.piece (sl:=JL) FN hu cx8 O hf hq rfl hc2 (λe a w h=>⟨.inl h.1,h.2.1⟩) (λv j=>S.wp i v f1 j wB hi) H1).bind λgs2 w2 u t2 _ H2=>?_
   obtain⟨q,U,B,g,v,G,⟨tm,τ,d,hb⟩,M,Q,T⟩:=H2;obtain⟨rfl,_,_,y,oc,x,ht,h⟩|⟨todo,_,he,_⟩:=hb
   .simp only at ht;subst ht;obtain⟨rfl,h⟩|⟨rfl,h⟩|⟨rfl,h⟩:=h
    .obtain⟨f2,z⟩:=aw0 (main:=c==0) (K:=K) (Still:=Still) F y Y i x;have e:IntKind.i64.wrap (i+1)=i+1:=(by simp[IntKind.wrap,IntKind.bits,IntKind.signed];omega);rw[e]at z;refine(cZ.walk (sl:=u) (J:=I (i+1)) hJ BX hSS O ⟨q,U,B,_,v,G,⟨rfl,(S.tI _).back h⟩,M,Q,T⟩ z).bind λC w3 V t3 _ H3=>?_
     exact ih (i+1) f2 C w3 V t3 wB wB wB H3
    .refine(cZ.walk (sl:=u) (J:=Cd i x) hJ BX hSS O ⟨q,U,B,_,v,G,⟨rfl,(S.tC _ _).back h⟩,M,Q,T⟩ (qU F R y Y i x)).mono λA X W o=>o.mono λg v ⟨s,j⟩=>.inl ⟨i,y,x,h0,hi,s,j⟩
    .refine(cZ.walk (sl:=u) (J:=Bd) hJ BX hSS O ⟨q,U,B,_,v,G,⟨rfl,S.tB.back h⟩,M,Q,T⟩ (ac5 F R y Y i x)).mono λA X W o=>o.mono λg v ⟨s,j⟩=>.inr (.inl ⟨i,y,x,s,j⟩)
   .cases he
  .obtain rfl:i=n:=wB;refine(H.walk (sl:=sl) hJ BX hSS O (Xp F R f Y wB)).mono λA X W o=>o.mono λg v ⟨s,j⟩=>.inr (.inr ⟨f,s,j⟩)
end
end Go.Fxa
namespace Go.Fxa
open Go.Conc Go.Proofs
variable {n:Nat}{x:Frame×Z_}{fn:h_}{todo:List Item}{ds:List Deferred}{kd:CallKind}{Y:Z_}{l:List (Nat×n_)}
def TN (n:Nat)(f:Y_):X_:=((List.range n).map f).toArray
theorem YK {T:X_}(h:T.size=n):T=TN n λi=>T.getD i undef:=by
 apply Array.ext
 .simp[TN,h]
 .intro i a b;simp[TN,Array.getD,a]
theorem at_toldN (h:Ea x=(fn,todo,ds,.run,kd,none,Y))(i:X3 x (l.map (·.1))=l.map (·.2))(j:x.1.tmps.size=n):
  x=(Frame.mk fn (TN n (AQ (slot x) l)) todo ds .run kd none,Y):=by
 rw[We i];obtain⟨⟨a,b,c,d,e,f,g⟩,y⟩:=x;simp only[Ea,lQ]at h;obtain⟨rfl,rfl,rfl,rfl,rfl,rfl,rfl⟩:=h;simp only[lQ,Frame.mk.injEq,and_true,true_and];exact YK j
section
variable (P:l_)(r q0 q1 q3:Nat)(sv:n_)(n i:Int)(w A:n_)(f g:Y_)(Y:Z_)(td:List Item)
def a0:=BK (m3 P q0 q1 q3 w f Y) (commResult (G5 q1 q3) .select 0 A true)
def a1:=run P 6 (a0 P q0 q1 q3 w A f Y)
def aX:Code:=match (a1 P 0 0 0 (a_ 0) sH (AQ u0 (Fh 0 (pr 0) 0 0 1 (a_ 0))) []).1.todo with
 |.code c::_=>c
 |_=>.skip
def bn4:List Item:=(a1 P 0 0 0 (a_ 0) sH (AQ u0 (Fh 0 (pr 0) 0 0 1 (a_ 0))) []).1.todo.tail
def YA:=(m3 P q0 q1 q3 w f Y).2
def slA:List (Nat×n_):=[(1,sv),(29,commResult (G5 q1 q3) .select 0 A true)]
def a2:Frame×Z_:=(Frame.mk 187 (TN 49 (AQ g [(6,.bool true)])) td [] .returning .normal none,YA P q0 q1 q3 w f Y)
end
structure Vp (P:l_)(r q0 q1 q3:Nat)(sv:n_)(n:Int):Prop where
 h1:∀(f:Y_)(Y:Z_)(i:Int)(w A:n_),AU P 6 (a0 P q0 q1 q3 w A (AQ f (Fh r sv n i 1 w)) Y)=some []
 h2:∀(f:Y_)(Y:Z_)(i:Int)(w A:n_),Ea (a1 P q0 q1 q3 w A (AQ f (Fh r sv n i 1 w)) Y)=(187,.code (aX P)::bn4 P,[],.run,.normal,none,YA P q0 q1 q3 w (AQ f (Fh r sv n i 1 w)) Y)
 h3:∀(f:Y_)(Y:Z_)(i:Int)(w A:n_),X3 (a1 P q0 q1 q3 w A (AQ f (Fh r sv n i 1 w)) Y) [1,29]=[sv,commResult (G5 q1 q3) .select 0 A true]
 h4:∀(f:Y_)(Y:Z_)(i:Int)(w A:n_),(a1 P q0 q1 q3 w A (AQ f (Fh r sv n i 1 w)) Y).1.tmps.size=49
 j1:∀(f g:Y_)(Y:Z_)(td:List Item)(i:Int)(w:n_),AU P 12 (a2 P q0 q1 q3 w (AQ f (Fh r sv n i 1 w)) g Y td)=some []
 j2:∀(f g:Y_)(Y:Z_)(td:List Item)(i:Int)(w:n_),Ea (run P 12 (a2 P q0 q1 q3 w (AQ f (Fh r sv n i 1 w)) g Y td))=(136,iL P,[],.run,.normal,none,Y)
 j3:∀(f g:Y_)(Y:Z_)(td:List Item)(i:Int)(w:n_),X3 (run P 12 (a2 P q0 q1 q3 w (AQ f (Fh r sv n i 1 w)) g Y td)) [0,1,8,9]=[pr r,sv,b_ n,b_ (IntKind.i64.wrap (i+1))]
 j4:∀(f g:Y_)(Y:Z_)(td:List Item)(i:Int)(w:n_),(run P 12 (a2 P q0 q1 q3 w (AQ f (Fh r sv n i 1 w)) g Y td)).1.tmps.size=32
section
variable {r q0 q1 q3:Nat}{sv:n_}{n:Int}
theorem ad2:Vp prog r q0 q1 q3 sv n:=by
 constructor<;>intros<;>kernel_rfl
end
section
variable {P:l_}{K:o_->Prop}{Still:Loc->Prop}{main:Bool}{r q0 q1 q3:Nat}{sv:n_}{n:Int}
theorem ae (F:Vp P r q0 q1 q3 sv n)(f:Y_)(Y:Z_)(i:Int)(w A:n_):
  ∃a,RW P main K Still 6 (Conc.served (BO (m3 P q0 q1 q3 w (AQ f (Fh r sv n i 1 w)) Y)) (commResult (G5 q1 q3) .select 0 A true)) (BO (Frame.mk 187 (TN 49 (AQ a (slA q1 q3 sv A))) (.code (aX P)::bn4 P) [] .run .normal none,YA P q0 q1 q3 w (AQ f (Fh r sv n i 1 w)) Y)):=by
 have h:RW P main K Still 6 (BO (a0 P q0 q1 q3 w A (AQ f (Fh r sv n i 1 w)) Y)) (BO (a1 P q0 q1 q3 w A (AQ f (Fh r sv n i 1 w)) Y)):=RW.AU (F.h1 f Y i w A);have e:=at_toldN (l:=slA q1 q3 sv A) (F.h2 f Y i w A) (F.h3 f Y i w A) (F.h4 f Y i w A);refine⟨slot (a1 P q0 q1 q3 w A (AQ f (Fh r sv n i 1 w)) Y),?_⟩;rw[e]at h;exact h
theorem qW (F:Vp P r q0 q1 q3 sv n)(f g:Y_)(Y:Z_)(a:List Item)(i:Int)(w:n_):
  ∃b,RW P main K Still 12 (BO (a2 P q0 q1 q3 w (AQ f (Fh r sv n i 1 w)) g Y a)) (BO (LH P (AQ b (Ob r sv n (IntKind.i64.wrap (i+1)))) Y)):=by
 have h:=RW.AU (main:=main) (K:=K) (Still:=Still) (F.j1 f g Y a i w);have e:=at_told (l:=Ob r sv n (IntKind.i64.wrap (i+1))) (F.j2 f g Y a i w) (F.j3 f g Y a i w) (F.j4 f g Y a i w);refine⟨slot (run P 12 (a2 P q0 q1 q3 w (AQ f (Fh r sv n i 1 w)) g Y a)),?_⟩;rw[e]at h;exact h
end
theorem at_toldM {m:FrameMode}(h:Ea x=(fn,todo,ds,m,kd,none,Y))(i:X3 x (l.map (·.1))=l.map (·.2))(j:x.1.tmps.size=n):
  x=(Frame.mk fn (TN n (AQ (slot x) l)) todo ds m kd none,Y):=by
 rw[We i];obtain⟨⟨a,b,c,d,e,f,g⟩,y⟩:=x;simp only[Ea,lQ]at h;obtain⟨rfl,rfl,rfl,rfl,rfl,rfl,rfl⟩:=h;simp only[lQ,Frame.mk.injEq,and_true,true_and];exact YK j
def hdC (x:Frame×Z_):Code:=match x.1.todo with
 |.code c::_=>c
 |_=>.skip
def tlT (x:Frame×Z_):List Item:=x.1.todo.tail
def below (x:Frame×Z_):Frame×Z_:=match x.2 with
 |c::cs=>(c,cs)
 |[]=>(default,[])
def pv (pa:f_):n_:=.pointer (some pa)
def Di:n_:=.slice none 0 0
def ω:f_:=(R_ 0)
def uZ (P:l_)(x:Frame×Z_):d_ (Array CommCase×CommShape):=match XC x with
 |some o=>match (execOp x.1.eval o).Jy P with
  |some (.comm cs true sh)=>some (cs,sh)
  |_=>none
 |none=>none
theorem gz {P:l_}{main:Bool}{cs:Array CommCase}{sh:CommShape}(h:uZ P x=some (cs,sh))(w:o_):stepG P main (BO x) w=.comm (BO x) cs true sh w #[]:=by
 unfold uZ at h;split at h
 .rename_i o c;split at h
  .rename_i a d b;simp only[l7,lQ]at h;obtain⟨rfl,rfl⟩:=h;exact Χ c b
  .cases h
 .cases h
def rV (kv:n_)(pa:f_)(n:Int)(told:n_):List (Nat×n_):=[(0,kv),(1,pv pa),(2,b_ n),(7,told)]
def slS (kv:n_)(pa:f_)(told:n_)(r:Nat):List (Nat×n_):=[(0,kv),(1,pv pa),(7,told),(8,pr r)]
def slX (kv:n_)(pa:f_)(told:n_)(r:Nat)(x:n_):List (Nat×n_):=[(0,kv),(1,pv pa),(7,told),(8,pr r),(9,x)]
def slF (kv:n_)(pa:f_)(told:n_)(r bA:Nat):List (Nat×n_):=[(0,kv),(1,pv pa),(7,told),(8,pr r),(10,pr bA),(59,.bool false)]
def ύ (b2 b3 b5:Nat):List (Nat×n_):=[(2,pr b2),(3,pr b3),(5,pr b5)]
def ad5 (r:Nat)(A:n_)(bB:Nat):List (Nat×n_):=[(0,pr r),(1,A),(3,pr bB)]
def O9 (q0 q2:Nat):Array CommCase:=#[rcase q0 (a_ 0),rcase q2 (b_ 0)]
def lU (q1:Nat)(A:n_):Array CommCase:=#[scase q1 A (.tuple #[])]
def QA (r:Nat):List Deferred:=[⟨.fn (.func 94) #[],#[pr r]⟩]
section
variable (P:l_)(kv:n_)(pa:f_)(n:Int)(told:n_)(f g:Y_)(cs Y:Z_)(b2 b3 b5 r q0 q1 q2 q3 bA bB:Nat)(x A:n_)(o:Int)(td:List Item)
def z0:Frame×Z_:=(Frame.enter P 56 #[kv,pv pa,b_ n] .normal,cs)
def z1:=run P 9 (z0 P kv pa n cs)
def R2:Code:=hdC (z1 P (pr 0) ω 0 [])
def T2:List Item:=tlT (z1 P (pr 0) ω 0 [])
def f56 (ds:List Deferred):Frame×Z_:=(Frame.mk 56 (TN 76 f) td ds .run .normal none,cs)
def R3:Code:=hdC (run P 1 (f56 u0 [] (T2 P) []))
def T3:List Item:=tlT (run P 1 (f56 u0 [] (T2 P) []))
def z5:=run P 8 (f56 (AQ f (rV kv pa n told)) cs (T3 P) [])
def S0:Code:=hdC (z5 P (pr 0) ω 0 Di u0 [])
def U0:List Item:=tlT (z5 P (pr 0) ω 0 Di u0 [])
def Y4:=(z5 P kv pa n told f cs).2
def f93:Frame×Z_:=(Frame.mk 93 (TN 18 g) td [] .run .normal none,Y)
def S1:Code:=hdC (run P 1 (f93 u0 [] (U0 P)))
def U1:List Item:=tlT (run P 1 (f93 u0 [] (U0 P)))
def y3:=run P 2 (f93 (AQ g (ύ b2 b3 b5)) Y (U1 P))
def y4:=run P 3 (BK (y3 P g Y b2 b3 b5) (pr r))
def cA:Frame:=(below (y4 P g Y b2 b3 b5 r)).1
def y5:Frame×Z_:=((cA P g Y b2 b3 b5 r).finish (.tuple #[]),Y)
def y6:=run P 4 (y5 P g Y b2 b3 b5 r)
def y7:=run P 3 (BK (y6 P g Y b2 b3 b5 r) undef)
def y8:=run P 28 (BK (y7 P g (Y4 P kv pa n told f cs) b2 b3 b5 r) (pr r))
def y9:=run P 17 (BK (y8 P kv pa n told f g cs b2 b3 b5 r) (D5 q0))
def y10:=run P 7 (BK (y9 P kv pa n told f g cs b2 b3 b5 r q0) (D5 q2))
def yV:List Item:=(y10 P (pr 0) ω 0 Di u0 u0 [] 0 0 0 0 0 0).1.todo
def kS:Frame×Z_:=f56 f cs (yV P) (QA r)
def x0:=BK (kS P (AQ f (slS kv pa told r)) cs r) (commResult (O9 q0 q2) .select 0 x true)
def x1:=run P 12 (x0 P kv pa told f cs r q0 q2 x)
def R10:Code:=hdC (x1 P (pr 0) ω Di u0 [] 0 0 0 (a_ 0))
def T10:List Item:=tlT (x1 P (pr 0) ω Di u0 [] 0 0 0 (a_ 0))
def R11:Code:=hdC (run P 2 (f56 u0 [] (T10 P) []))
def T11:List Item:=tlT (run P 2 (f56 u0 [] (T10 P) []))
def R15:Code:=hdC (run P 3 (f56 (AQ u0 [(39,.bool false)]) [] (T11 P) []))
def T15:List Item:=tlT (run P 3 (f56 (AQ u0 [(39,.bool false)]) [] (T11 P) []))
def R16:Code:=hdC (run P 2 (f56 u0 [] (T15 P) []))
def T16:List Item:=tlT (run P 2 (f56 u0 [] (T15 P) []))
def x18:=run P 4 (f56 (AQ f (slF kv pa told r bA)) cs (T16 P) (QA r))
def x19:=run P 2 (BK (x18 P kv pa told f cs r bA) A)
def A0:Code:=hdC (x19 P (pr 0) ω Di u0 [] 0 0 sH)
def V97:List Item:=tlT (x19 P (pr 0) ω Di u0 [] 0 0 sH)
def Y18:=(x19 P kv pa told f cs r bA A).2
def f97:Frame×Z_:=(Frame.mk 97 (TN 9 g) td [] .run .normal none,Y)
def dm:Array Oper:=match UZ (f97 u0 [] (V97 P))with
 |some (_,ops,_)=>ops
 |none=>#[]
def XT (l:List Nat):Frame×Z_:=ordered (f97 (AQ g (ad5 r A bB)) Y (V97 P)) (dm P) [] l
def xs:Frame×Z_:=(Frame.mk 97 (TN 9 (AQ g [(0,pr r),(1,A),(3,pr bB),(4,pr r),(5,pr r),(6,.pointer (some (S_ r 1))),(7,D5 q1),(8,A)])) [.inRegion (dm P) [5]] [] .run .normal none,Y)
def v0:=BK (xs P g (Y18 P kv pa told f cs r bA A) r q1 bB A) (commResult (lU q1 A) .send 0 undef false)
def v1:=run P 22 (v0 P kv pa told f g cs r q1 bA bB A)
def v2:=run P 17 (BK (v1 P kv pa told f g cs r q1 bA bB A) (D5 q0))
def v3:=run P 7 (BK (v2 P kv pa told f g cs r q0 q1 bA bB A) (D5 q2))
def n0:=BK (kS P (AQ f (slS kv pa told r)) cs r) (commResult (O9 q0 q2) .select 1 (b_ o) true)
def R21:Code:=hdC (run P 19 (n0 P (pr 0) ω Di u0 [] 0 0 0 2))
def T21:List Item:=tlT (run P 19 (n0 P (pr 0) ω Di u0 [] 0 0 0 2))
def w1:=run P 13 (f56 (AQ f [(7,told),(59,.bool true)]) cs (T16 P) (QA r))
def w2:=run P 32 (n0 P kv pa told f cs r q0 q2 0)
def w3:=run P 12 (f56 (AQ f [(7,told)]) cs (T21 P) (QA r))
def ϖ:Frame:=Frame.mk 56 (TN 76 f) td [] .returning .normal none
def ct3:List Item:=(below (w1 P Di u0 [] 0)).1.todo
def cs9:List Item:=(below (w2 P (pr 0) ω Di u0 [] 0 0 0)).1.todo
def cs8:List Item:=(below (w3 P Di u0 [] 0)).1.todo
def sR:=run P 5 (Frame.enter P 94 #[pr r] .deferred,Y)
def sC:=BK (sR P Y r) (D5 q3)
def sD:=BK (sC P Y r q3) (.tuple #[])
def c94:Frame:=(below (run P 6 (sD P Y r q3))).1
end
structure Vo (P:l_):Prop where
 z1a:∀(kv:n_)(pa:f_)(n:Int)(cs:Z_),AU P 9 (z0 P kv pa n cs)=some []
 z1b:∀(kv:n_)(pa:f_)(n:Int)(cs:Z_),Ea (z1 P kv pa n cs)=(56,.code (R2 P)::T2 P,[],.run,.normal,none,cs)
 z1c:∀(kv:n_)(pa:f_)(n:Int)(cs:Z_),X3 (z1 P kv pa n cs) [0,1,2,7]=[kv,pv pa,b_ n,Di]
 z1d:∀(kv:n_)(pa:f_)(n:Int)(cs:Z_),(z1 P kv pa n cs).1.tmps.size=76
 z3:∀(f:Y_)(cs:Z_),Ec P (some (257,6)) 1 (f56 f cs (T2 P) [])=some ([],f56 f cs (.code (R3 P)::T3 P) [])
 z5a:∀(kv:n_)(pa:f_)(n:Int)(told:n_)(f:Y_)(cs:Z_),AU P 8 (f56 (AQ f (rV kv pa n told)) cs (T3 P) [])=some []
 z5b:∀(kv:n_)(pa:f_)(n:Int)(told:n_)(f:Y_)(cs:Z_),Ea (z5 P kv pa n told f cs)=(93,.code (S0 P)::U0 P,[],.run,.normal,none,Y4 P kv pa n told f cs)
 z5c:∀(kv:n_)(pa:f_)(n:Int)(told:n_)(f:Y_)(cs:Z_),X3 (z5 P kv pa n told f cs) [0,1]=[.pointer (some (pa.add 5)),b_ n]
 z5d:∀(kv:n_)(pa:f_)(n:Int)(told:n_)(f:Y_)(cs:Z_),(z5 P kv pa n told f cs).1.tmps.size=18
 y1:∀(g:Y_)(Y:Z_),Ec P (some (257,6)) 1 (f93 g Y (U0 P))=some ([],f93 g Y (.code (S1 P)::U1 P))
 y3a:∀(g:Y_)(Y:Z_)(b2 b3 b5:Nat),AU P 2 (f93 (AQ g (ύ b2 b3 b5)) Y (U1 P))=some []
 y3b:∀(g:Y_)(Y:Z_)(b2 b3 b5 r:Nat),Eb P (y3 P g Y b2 b3 b5) (pr r)=some ([(R_ b5)],pr r)
 y4a:∀(g:Y_)(Y:Z_)(b2 b3 b5 r:Nat),AU P 3 (BK (y3 P g Y b2 b3 b5) (pr r))=some []
 y4b:∀(g:Y_)(Y:Z_)(b2 b3 b5 r:Nat),y4 P g Y b2 b3 b5 r=aS P r (cA P g Y b2 b3 b5 r::Y)
 y6a:∀(g:Y_)(Y:Z_)(b2 b3 b5 r:Nat),AU P 4 (y5 P g Y b2 b3 b5 r)=some []
 y6b:∀(g:Y_)(Y:Z_)(b2 b3 b5 r:Nat),uF P (y6 P g Y b2 b3 b5 r)=some ⟨.fn (.func 134) #[pr b5,pr b2,pr b3],#[]⟩
 y7a:∀(g:Y_)(Y:Z_)(b2 b3 b5 r:Nat),AU P 3 (BK (y6 P g Y b2 b3 b5 r) undef)=some []
 y7b:∀(g:Y_)(Y:Z_)(b2 b3 b5 r:Nat),Eb P (y7 P g Y b2 b3 b5 r) (pr r)=some ([(R_ b5)],pr r)
 y8a:∀(kv:n_)(pa:f_)(n:Int)(told:n_)(f g:Y_)(cs:Z_)(b2 b3 b5 r:Nat),AU P 28 (BK (y7 P g (Y4 P kv pa n told f cs) b2 b3 b5 r) (pr r))=some []
 y8b:∀(kv:n_)(pa:f_)(n:Int)(told:n_)(f g:Y_)(cs:Z_)(b2 b3 b5 r q0:Nat),Eb P (y8 P kv pa n told f g cs b2 b3 b5 r) (D5 q0)=some ([(R_ r)],D5 q0)
 y9a:∀(kv:n_)(pa:f_)(n:Int)(told:n_)(f g:Y_)(cs:Z_)(b2 b3 b5 r q0:Nat),AU P 17 (BK (y8 P kv pa n told f g cs b2 b3 b5 r) (D5 q0))=some []
 y9b:∀(kv:n_)(pa:f_)(n:Int)(told:n_)(f g:Y_)(cs:Z_)(b2 b3 b5 r q0 q2:Nat),Eb P (y9 P kv pa n told f g cs b2 b3 b5 r q0) (D5 q2)=some ([(S_ r 2)],D5 q2)
 cq9:∀(kv:n_)(pa:f_)(n:Int)(told:n_)(f g:Y_)(cs:Z_)(b2 b3 b5 r q0 q2:Nat),AU P 7 (BK (y9 P kv pa n told f g cs b2 b3 b5 r q0) (D5 q2))=some []
 cq8:∀(kv:n_)(pa:f_)(n:Int)(told:n_)(f g:Y_)(cs:Z_)(b2 b3 b5 r q0 q2:Nat),Ea (y10 P kv pa n told f g cs b2 b3 b5 r q0 q2)=(56,yV P,QA r,.run,.normal,none,cs)
 cq7:∀(kv:n_)(pa:f_)(n:Int)(told:n_)(f g:Y_)(cs:Z_)(b2 b3 b5 r q0 q2:Nat),X3 (y10 P kv pa n told f g cs b2 b3 b5 r q0 q2) [0,1,7,8,25,27]=[kv,pv pa,told,pr r,D5 q0,D5 q2]
 cq6:∀(kv:n_)(pa:f_)(n:Int)(told:n_)(f g:Y_)(cs:Z_)(b2 b3 b5 r q0 q2:Nat),(y10 P kv pa n told f g cs b2 b3 b5 r q0 q2).1.tmps.size=76
 k1:∀(f:Y_)(cs:Z_)(r q0 q2:Nat),Ox P (kS P (AQ f [(25,D5 q0),(27,D5 q2)]) cs r)=some (O9 q0 q2)
 x1a:∀(kv:n_)(pa:f_)(told:n_)(f:Y_)(cs:Z_)(r q0 q2:Nat)(x:n_),AU P 12 (x0 P kv pa told f cs r q0 q2 x)=some []
 x1b:∀(kv:n_)(pa:f_)(told:n_)(f:Y_)(cs:Z_)(r q0 q2:Nat)(x:n_),Ea (x1 P kv pa told f cs r q0 q2 x)=(56,.code (R10 P)::T10 P,QA r,.run,.normal,none,cs)
 x1c:∀(kv:n_)(pa:f_)(told:n_)(f:Y_)(cs:Z_)(r q0 q2:Nat)(x:n_),X3 (x1 P kv pa told f cs r q0 q2 x) [0,1,7,8,9]=[kv,pv pa,told,pr r,x]
 x1d:∀(kv:n_)(pa:f_)(told:n_)(f:Y_)(cs:Z_)(r q0 q2:Nat)(x:n_),(x1 P kv pa told f cs r q0 q2 x).1.tmps.size=76
 x2:∀(f:Y_)(cs:Z_)(r:Nat),Ec P (some (257,6)) 2 (f56 f cs (T10 P) (QA r))=some ([],f56 f cs (.code (R11 P)::T11 P) (QA r))
 x3:∀(f:Y_)(cs:Z_)(r:Nat),Ec P (some (257,6)) 3 (f56 (AQ f [(39,.bool false)]) cs (T11 P) (QA r))=some ([],f56 (AQ f [(39,.bool false)]) cs (.code (R15 P)::T15 P) (QA r))
 x4:∀(f:Y_)(cs:Z_)(r:Nat),Ec P (some (257,6)) 2 (f56 f cs (T15 P) (QA r))=some ([],f56 f cs (.code (R16 P)::T16 P) (QA r))
 cr6:∀(kv:n_)(pa:f_)(told:n_)(f:Y_)(cs:Z_)(r bA:Nat),AU P 4 (f56 (AQ f (slF kv pa told r bA)) cs (T16 P) (QA r))=some []
 cr5:∀(kv:n_)(pa:f_)(told:n_)(f:Y_)(cs:Z_)(r bA:Nat)(s0 s1 s2:n_),G6 P (x18 P kv pa told f cs r bA) [s0,s1,s2]=some ([(R_ bA),(S_ bA 1),(S_ bA 2)],.agg #[s0,s1,s2])
 cr4:∀(kv:n_)(pa:f_)(told:n_)(f:Y_)(cs:Z_)(r bA:Nat)(A:n_),AU P 2 (BK (x18 P kv pa told f cs r bA) A)=some []
 cr2:∀(kv:n_)(pa:f_)(told:n_)(f:Y_)(cs:Z_)(r bA:Nat)(A:n_),Ea (x19 P kv pa told f cs r bA A)=(97,.code (A0 P)::V97 P,[],.run,.normal,none,Y18 P kv pa told f cs r bA A)
 cr1:∀(kv:n_)(pa:f_)(told:n_)(f:Y_)(cs:Z_)(r bA:Nat)(A:n_),X3 (x19 P kv pa told f cs r bA A) [0,1]=[pr r,A]
 cr0:∀(kv:n_)(pa:f_)(told:n_)(f:Y_)(cs:Z_)(r bA:Nat)(A:n_),(x19 P kv pa told f cs r bA A).1.tmps.size=9
 dr:∀(g:Y_)(Y:Z_),UZ (f97 g Y (V97 P))=some (1,dm P,[])
 dl:QQ (dm P) (dm P).size (Array.replicate (dm P).size false)=[[0,1,2,3,4,5],[0,1,2,4,3,5],[0,1,4,2,3,5],[0,4,1,2,3,5],[4,0,1,2,3,5]]
 l1a:∀(g:Y_)(Y:Z_)(r bB:Nat)(A:n_),AU P 3 (XT P g Y r bB A [0,1,2,3,4,5])=some []
 l1b:∀(g:Y_)(Y:Z_)(r bB q1:Nat)(A:n_),Eb P (run P 3 (XT P g Y r bB A [0,1,2,3,4,5])) (D5 q1)=some ([(S_ r 1)],D5 q1)
 l1c:∀(g:Y_)(Y:Z_)(r bB q1:Nat)(A:n_)(s0 s1 s2:n_),G6 P (BK (run P 3 (XT P g Y r bB A [0,1,2,3,4,5])) (D5 q1)) [s0,s1,s2]=some ([(R_ bB),(S_ bB 1),(S_ bB 2)],.agg #[s0,s1,s2])
 l1d:∀(g:Y_)(Y:Z_)(r bB q1:Nat)(A:n_),BK (BK (run P 3 (XT P g Y r bB A [0,1,2,3,4,5])) (D5 q1)) A=xs P g Y r q1 bB A
 l2a:∀(g:Y_)(Y:Z_)(r bB:Nat)(A:n_),AU P 3 (XT P g Y r bB A [0,1,2,4,3,5])=some []
 l2b:∀(g:Y_)(Y:Z_)(r bB:Nat)(A:n_)(s0 s1 s2:n_),G6 P (run P 3 (XT P g Y r bB A [0,1,2,4,3,5])) [s0,s1,s2]=some ([(R_ bB),(S_ bB 1),(S_ bB 2)],.agg #[s0,s1,s2])
 l2c:∀(g:Y_)(Y:Z_)(r bB q1:Nat)(A:n_),Eb P (BK (run P 3 (XT P g Y r bB A [0,1,2,4,3,5])) A) (D5 q1)=some ([(S_ r 1)],D5 q1)
 l2d:∀(g:Y_)(Y:Z_)(r bB q1:Nat)(A:n_),BK (BK (run P 3 (XT P g Y r bB A [0,1,2,4,3,5])) A) (D5 q1)=xs P g Y r q1 bB A
 l3a:∀(g:Y_)(Y:Z_)(r bB:Nat)(A:n_),AU P 2 (XT P g Y r bB A [0,1,4,2,3,5])=some []
 l3b:∀(g:Y_)(Y:Z_)(r bB:Nat)(A:n_)(s0 s1 s2:n_),G6 P (run P 2 (XT P g Y r bB A [0,1,4,2,3,5])) [s0,s1,s2]=some ([(R_ bB),(S_ bB 1),(S_ bB 2)],.agg #[s0,s1,s2])
 l3c:∀(g:Y_)(Y:Z_)(r bB:Nat)(A:n_),AU P 1 (BK (run P 2 (XT P g Y r bB A [0,1,4,2,3,5])) A)=some []
 l3d:∀(g:Y_)(Y:Z_)(r bB q1:Nat)(A:n_),Eb P (run P 1 (BK (run P 2 (XT P g Y r bB A [0,1,4,2,3,5])) A)) (D5 q1)=some ([(S_ r 1)],D5 q1)
 l3e:∀(g:Y_)(Y:Z_)(r bB q1:Nat)(A:n_),BK (run P 1 (BK (run P 2 (XT P g Y r bB A [0,1,4,2,3,5])) A)) (D5 q1)=xs P g Y r q1 bB A
 l4a:∀(g:Y_)(Y:Z_)(r bB:Nat)(A:n_),AU P 1 (XT P g Y r bB A [0,4,1,2,3,5])=some []
 l4b:∀(g:Y_)(Y:Z_)(r bB:Nat)(A:n_)(s0 s1 s2:n_),G6 P (run P 1 (XT P g Y r bB A [0,4,1,2,3,5])) [s0,s1,s2]=some ([(R_ bB),(S_ bB 1),(S_ bB 2)],.agg #[s0,s1,s2])
 l4c:∀(g:Y_)(Y:Z_)(r bB:Nat)(A:n_),AU P 2 (BK (run P 1 (XT P g Y r bB A [0,4,1,2,3,5])) A)=some []
 l4d:∀(g:Y_)(Y:Z_)(r bB q1:Nat)(A:n_),Eb P (run P 2 (BK (run P 1 (XT P g Y r bB A [0,4,1,2,3,5])) A)) (D5 q1)=some ([(S_ r 1)],D5 q1)
 l4e:∀(g:Y_)(Y:Z_)(r bB q1:Nat)(A:n_),BK (run P 2 (BK (run P 1 (XT P g Y r bB A [0,4,1,2,3,5])) A)) (D5 q1)=xs P g Y r q1 bB A
 l5a:∀(g:Y_)(Y:Z_)(r bB:Nat)(A:n_),AU P 0 (XT P g Y r bB A [4,0,1,2,3,5])=some []
 l5b:∀(g:Y_)(Y:Z_)(r bB:Nat)(A:n_)(s0 s1 s2:n_),G6 P (run P 0 (XT P g Y r bB A [4,0,1,2,3,5])) [s0,s1,s2]=some ([(R_ bB),(S_ bB 1),(S_ bB 2)],.agg #[s0,s1,s2])
 l5c:∀(g:Y_)(Y:Z_)(r bB:Nat)(A:n_),AU P 3 (BK (run P 0 (XT P g Y r bB A [4,0,1,2,3,5])) A)=some []
 l5d:∀(g:Y_)(Y:Z_)(r bB q1:Nat)(A:n_),Eb P (run P 3 (BK (run P 0 (XT P g Y r bB A [4,0,1,2,3,5])) A)) (D5 q1)=some ([(S_ r 1)],D5 q1)
 l5e:∀(g:Y_)(Y:Z_)(r bB q1:Nat)(A:n_),BK (run P 3 (BK (run P 0 (XT P g Y r bB A [4,0,1,2,3,5])) A)) (D5 q1)=xs P g Y r q1 bB A
 xs:∀(g:Y_)(Y:Z_)(r bB q1:Nat)(A:n_),uZ P (xs P g Y r q1 bB A)=some (lU q1 A,.send)
 v1a:∀(kv:n_)(pa:f_)(told:n_)(f g:Y_)(cs:Z_)(r q1 bA bB:Nat)(A:n_),AU P 22 (v0 P kv pa told f g cs r q1 bA bB A)=some []
 v1b:∀(kv:n_)(pa:f_)(told:n_)(f g:Y_)(cs:Z_)(r q0 q1 bA bB:Nat)(A:n_),Eb P (v1 P kv pa told f g cs r q1 bA bB A) (D5 q0)=some ([(R_ r)],D5 q0)
 v2a:∀(kv:n_)(pa:f_)(told:n_)(f g:Y_)(cs:Z_)(r q0 q1 bA bB:Nat)(A:n_),AU P 17 (BK (v1 P kv pa told f g cs r q1 bA bB A) (D5 q0))=some []
 v2b:∀(kv:n_)(pa:f_)(told:n_)(f g:Y_)(cs:Z_)(r q0 q1 q2 bA bB:Nat)(A:n_),Eb P (v2 P kv pa told f g cs r q0 q1 bA bB A) (D5 q2)=some ([(S_ r 2)],D5 q2)
 v3a:∀(kv:n_)(pa:f_)(told:n_)(f g:Y_)(cs:Z_)(r q0 q1 q2 bA bB:Nat)(A:n_),AU P 7 (BK (v2 P kv pa told f g cs r q0 q1 bA bB A) (D5 q2))=some []
 v3b:∀(kv:n_)(pa:f_)(told:n_)(f g:Y_)(cs:Z_)(r q0 q1 q2 bA bB:Nat)(A:n_),Ea (v3 P kv pa told f g cs r q0 q1 q2 bA bB A)=(56,yV P,QA r,.run,.normal,none,cs)
 v3c:∀(kv:n_)(pa:f_)(told:n_)(f g:Y_)(cs:Z_)(r q0 q1 q2 bA bB:Nat)(A:n_),X3 (v3 P kv pa told f g cs r q0 q1 q2 bA bB A) [0,1,7,8,25,27]=[kv,pv pa,told,pr r,D5 q0,D5 q2]
 v3d:∀(kv:n_)(pa:f_)(told:n_)(f g:Y_)(cs:Z_)(r q0 q1 q2 bA bB:Nat)(A:n_),(v3 P kv pa told f g cs r q0 q1 q2 bA bB A).1.tmps.size=76
 n1a:∀(kv:n_)(pa:f_)(told:n_)(f:Y_)(cs:Z_)(r q0 q2:Nat),AU P 19 (n0 P kv pa told f cs r q0 q2 2)=some []
 n1b:∀(kv:n_)(pa:f_)(told:n_)(f:Y_)(cs:Z_)(r q0 q2:Nat),Ea (run P 19 (n0 P kv pa told f cs r q0 q2 2))=(56,.code (R21 P)::T21 P,QA r,.run,.normal,none,cs)
 n1c:∀(kv:n_)(pa:f_)(told:n_)(f:Y_)(cs:Z_)(r q0 q2:Nat),X3 (run P 19 (n0 P kv pa told f cs r q0 q2 2)) [0,1,7,8]=[kv,pv pa,told,pr r]
 n1d:∀(kv:n_)(pa:f_)(told:n_)(f:Y_)(cs:Z_)(r q0 q2:Nat),(run P 19 (n0 P kv pa told f cs r q0 q2 2)).1.tmps.size=76
 w1a:∀(told:n_)(f:Y_)(cs:Z_)(r:Nat),AU P 13 (f56 (AQ f [(7,told),(59,.bool true)]) cs (T16 P) (QA r))=some []
 w1b:∀(told:n_)(f:Y_)(cs:Z_)(r:Nat),(w1 P told f cs r).1=(sR P [] r).1
 w1c:∀(told:n_)(f:Y_)(cs:Z_)(r:Nat),(w1 P told f cs r).2=(below (w1 P told f cs r)).1::cs
 w1d:∀(told:n_)(f:Y_)(cs:Z_)(r:Nat),Ea (below (w1 P told f cs r))=(56,ct3 P,[],.returning,.normal,none,cs)
 w1e:∀(told:n_)(f:Y_)(cs:Z_)(r:Nat),X3 (below (w1 P told f cs r)) [6]=[told]
 w1f:∀(told:n_)(f:Y_)(cs:Z_)(r:Nat),(below (w1 P told f cs r)).1.tmps.size=76
 w2a:∀(kv:n_)(pa:f_)(told:n_)(f:Y_)(cs:Z_)(r q0 q2:Nat),AU P 32 (n0 P kv pa told f cs r q0 q2 0)=some []
 w2b:∀(kv:n_)(pa:f_)(told:n_)(f:Y_)(cs:Z_)(r q0 q2:Nat),(w2 P kv pa told f cs r q0 q2).1=(sR P [] r).1
 w2c:∀(kv:n_)(pa:f_)(told:n_)(f:Y_)(cs:Z_)(r q0 q2:Nat),(w2 P kv pa told f cs r q0 q2).2=(below (w2 P kv pa told f cs r q0 q2)).1::cs
 w2d:∀(kv:n_)(pa:f_)(told:n_)(f:Y_)(cs:Z_)(r q0 q2:Nat),Ea (below (w2 P kv pa told f cs r q0 q2))=(56,cs9 P,[],.returning,.normal,none,cs)
 w2e:∀(kv:n_)(pa:f_)(told:n_)(f:Y_)(cs:Z_)(r q0 q2:Nat),X3 (below (w2 P kv pa told f cs r q0 q2)) [6]=[told]
 w2f:∀(kv:n_)(pa:f_)(told:n_)(f:Y_)(cs:Z_)(r q0 q2:Nat),(below (w2 P kv pa told f cs r q0 q2)).1.tmps.size=76
 w3a:∀(told:n_)(f:Y_)(cs:Z_)(r:Nat),AU P 12 (f56 (AQ f [(7,told)]) cs (T21 P) (QA r))=some []
 w3b:∀(told:n_)(f:Y_)(cs:Z_)(r:Nat),(w3 P told f cs r).1=(sR P [] r).1
 w3c:∀(told:n_)(f:Y_)(cs:Z_)(r:Nat),(w3 P told f cs r).2=(below (w3 P told f cs r)).1::cs
 w3d:∀(told:n_)(f:Y_)(cs:Z_)(r:Nat),Ea (below (w3 P told f cs r))=(56,cs8 P,[],.returning,.normal,none,cs)
 w3e:∀(told:n_)(f:Y_)(cs:Z_)(r:Nat),X3 (below (w3 P told f cs r)) [6]=[told]
 w3f:∀(told:n_)(f:Y_)(cs:Z_)(r:Nat),(below (w3 P told f cs r)).1.tmps.size=76
 sRf:∀(Y:Z_)(r:Nat),sR P Y r=((sR P [] r).1,Y)
 sRa:∀(Y:Z_)(r q3:Nat),Eb P (sR P Y r) (D5 q3)=some ([(S_ r 3)],D5 q3)
 sCa:∀(Y:Z_)(r q3:Nat),Zi P (sC P Y r q3)=some q3
 sCw:∀(Y:Z_)(r q3:Nat),mayWake P (BO (sC P Y r q3))=true
 sDa:∀(Y:Z_)(r q3:Nat),AU P 6 (sD P Y r q3)=some []
 sDb:∀(Y:Z_)(r q3:Nat),run P 6 (sD P Y r q3)=wS P r (c94 P Y r q3::Y)
 end_:∀(f:Y_)(td:List Item)(told:n_)(c:Frame)(cs:Z_)(r q3:Nat),Ec P (some (257,6)) 4 ((c94 P (ϖ (AQ f [(6,told)]) td::c::cs) r q3).finish (.tuple #[]),ϖ (AQ f [(6,told)]) td::c::cs)=some ([],(c.finish told,cs))
theorem aa0:Vo prog:=by
 constructor<;>intros<;>kernel_rfl
def yL (kv:n_)(pa:f_)(told:n_)(r bA:Nat):List (Nat×n_):=[(0,kv),(1,pv pa),(7,told),(8,pr r),(10,pr bA)]
section
variable (P:l_)(kv:n_)(pa:f_)(told A:n_)(f g:Y_)(cs:Z_)(r q1 bA bB:Nat)
def R12:Code:=hdC (run P 2 (f56 (AQ u0 [(39,.bool true)]) [] (T11 P) []))
def T12:List Item:=tlT (run P 2 (f56 (AQ u0 [(39,.bool true)]) [] (T11 P) []))
def x13:=run P 3 (f56 (AQ f (yL kv pa told r bA)) cs (T12 P) (QA r))
def x14:=run P 2 (BK (x13 P kv pa told f cs r bA) A)
def Y13:=(x14 P kv pa told A f cs r bA).2
def vB:=BK (xs P g (Y13 P kv pa told A f cs r bA) r q1 bB A) (commResult (lU q1 A) .send 0 undef false)
def w4:=run P 16 (vB P kv pa told A f g cs r q1 bA bB)
def ca4:List Item:=(below (w4 P (pr 0) ω Di sH u0 u0 [] 0 0 0 0)).1.todo
end
structure oU (P:l_):Prop where
 y3:∀(f:Y_)(cs:Z_)(r:Nat),Ec P (some (257,6)) 2 (f56 (AQ f [(39,.bool true)]) cs (T11 P) (QA r))=some ([],f56 (AQ f [(39,.bool true)]) cs (.code (R12 P)::T12 P) (QA r))
 a13:∀(kv:n_)(pa:f_)(told:n_)(f:Y_)(cs:Z_)(r bA:Nat),AU P 3 (f56 (AQ f (yL kv pa told r bA)) cs (T12 P) (QA r))=some []
 b13:∀(kv:n_)(pa:f_)(told:n_)(f:Y_)(cs:Z_)(r bA:Nat)(s0 s1 s2:n_),G6 P (x13 P kv pa told f cs r bA) [s0,s1,s2]=some ([(R_ bA),(S_ bA 1),(S_ bA 2)],.agg #[s0,s1,s2])
 a14:∀(kv:n_)(pa:f_)(told:n_)(f:Y_)(cs:Z_)(r bA:Nat)(A:n_),AU P 2 (BK (x13 P kv pa told f cs r bA) A)=some []
 b14:∀(kv:n_)(pa:f_)(told:n_)(f:Y_)(cs:Z_)(r bA:Nat)(A:n_),Ea (x14 P kv pa told A f cs r bA)=(97,.code (A0 P)::V97 P,[],.run,.normal,none,Y13 P kv pa told A f cs r bA)
 c14:∀(kv:n_)(pa:f_)(told:n_)(f:Y_)(cs:Z_)(r bA:Nat)(A:n_),X3 (x14 P kv pa told A f cs r bA) [0,1]=[pr r,A]
 d14:∀(kv:n_)(pa:f_)(told:n_)(f:Y_)(cs:Z_)(r bA:Nat)(A:n_),(x14 P kv pa told A f cs r bA).1.tmps.size=9
 w4a:∀(kv:n_)(pa:f_)(told:n_)(f g:Y_)(cs:Z_)(r q1 bA bB:Nat)(A:n_),AU P 16 (vB P kv pa told A f g cs r q1 bA bB)=some []
 w4b:∀(kv:n_)(pa:f_)(told:n_)(f g:Y_)(cs:Z_)(r q1 bA bB:Nat)(A:n_),(w4 P kv pa told A f g cs r q1 bA bB).1=(sR P [] r).1
 w4c:∀(kv:n_)(pa:f_)(told:n_)(f g:Y_)(cs:Z_)(r q1 bA bB:Nat)(A:n_),(w4 P kv pa told A f g cs r q1 bA bB).2=(below (w4 P kv pa told A f g cs r q1 bA bB)).1::cs
 w4d:∀(kv:n_)(pa:f_)(told:n_)(f g:Y_)(cs:Z_)(r q1 bA bB:Nat)(A:n_),Ea (below (w4 P kv pa told A f g cs r q1 bA bB))=(56,ca4 P,[],.returning,.normal,none,cs)
 w4e:∀(kv:n_)(pa:f_)(told:n_)(f g:Y_)(cs:Z_)(r q1 bA bB:Nat)(A:n_),X3 (below (w4 P kv pa told A f g cs r q1 bA bB)) [6]=[told]
 w4f:∀(kv:n_)(pa:f_)(told:n_)(f g:Y_)(cs:Z_)(r q1 bA bB:Nat)(A:n_),(below (w4 P kv pa told A f g cs r q1 bA bB)).1.tmps.size=76
theorem ac9:oU prog:=by
 constructor<;>intros<;>kernel_rfl
end Go.Fxa
