/- The holder reads what is its o -/
import Derived.Test.YtmhplpfpcnjekaaGreatA11
import Derived.Conc.TokenWalk
open Go.Proofs.Tryz
namespace Go.Fxa
open Go.Conc
open Go.ConcN (sumTo upd sumTo_upd upd_ne upd_same)
variable {P:l_} {main:Bool} {x:Frame×Z_} {vs:U_} {Zx:List f_} {y:n_} {w:o_} {id:Nat} {ops:Array Oper} {k:List Item} {Od:Old}
def Hz (P:l_) (x:Frame×Z_) (vs:U_):d_ (List f_×n_):=match WJ x with
 |some o=>match (execOp x.1.eval o).feed P vs with
  |some (l,.value y)=>if(P.funcs[x.1.fn]?).any (·.norace)then none else some (l,y)
  |_=>none
 |none=>none
theorem YS (h:Hz P x vs=some (Zx,y)) (e:Cells w Zx vs):stepG P main (BJ x) w=.go (BJ (BG x y)) w (Hy Zx):=by
 unfold Hz at h;split at h
 .rename_i o b;split at h
  .rename_i l d a;split at h
   .cases h
   .rename_i c;simp only[qx,lJ]at h;obtain⟨rfl,rfl⟩:=h;exact yG b a e (by simpa using c)
  .cases h
 .cases h
theorem PU {Od:Old} {Z:Nat->Prop} {v w:o_} (T:au Od Z v w):∀{Zx:List f_} {vs:U_},Cells v Zx vs->Cells w Zx vs/\∀a∈Zx,¬Z a.block/\a.block<w.heap.size
 |[],_,_=>⟨eu,zF⟩
 |a::Zx,[],h=>h.elim
 |a::Zx,v0::vs,h=>by
  obtain⟨e,f⟩:=h
  obtain⟨d,c2,c3,_⟩:=T.cell e
  obtain⟨d1,d2⟩:=PU T f
  refine⟨⟨d,d1⟩,λb c=>?_⟩
  obtain rfl|c:=r_.1 c
  .exact⟨c2,c3⟩
  .exact d2 b c
def Um (x:Frame×Z_):d_ (Nat×Array Oper×List Item):=match x.1.roundOf,x.1.mode,x.1.todo with
 |none,.run,.code (.region id ops true)::k=>some (id,ops,k)
 |_,_,_=>none
def ordered (x:Frame×Z_) (ops:Array Oper) (k:List Item) (l:List Nat):Frame×Z_:=({ x.1 with todo:=.inRegion ops l::k },x.2)
def Gx (ops:Array Oper) (listed:Array Bool):List Nat:=(List.range ops.size).filter λi=>!listed.getD i true && ((ops[i]?).map (·.after.all λe=>!Region.binds .any e || listed.getD e.on false)).getD false
def Qv (ops:Array Oper):Nat->Array Bool->List (List Nat)
 |0,_=>[[]]
 |fuel+1,listed=>if(Gx ops listed).isEmpty then[[]]else(Gx ops listed).flatMap λi=>(Qv ops fuel (listed.setIfInBounds i true)).map (i::·)
theorem yQ (ops:Array Oper):∀(h t:Nat) (listed:Array Bool) (j:List Nat),∃l∈Qv ops h listed,Region.linearise.go .any ops h t listed j=j.reverse++l
 |0,t,listed,j=>⟨[],by simp[Qv],by simp[Region.linearise.go]⟩
 |h+1,t,listed,j=>by
  have d:Region.linearise.go .any ops (h+1) t listed j=match (Gx ops listed)[t % (Gx ops listed).length]? with
   |some i=>Region.linearise.go .any ops h (t / (Gx ops listed).length) (listed.setIfInBounds i true) (i::j)
   |none=>j.reverse:=rfl
  rw[d]
  cases hi:(Gx ops listed)[t % (Gx ops listed).length]? with
  |some i=>
   obtain⟨l,f,e⟩:=yQ ops h (t / (Gx ops listed).length) (listed.setIfInBounds i true) (i::j)
   refine⟨i::l,?_,by simp only;rw[e];simp⟩
   have b:=t_ hi
   have c:(Gx ops listed).isEmpty=false:=by
    cases hrs:Gx ops listed with
    |nil=>rw[hrs]at b;cases b
    |cons=>rfl
   simp only[Qv,c,jH,if_false]
   exact List.mem_flatMap.2 ⟨i,b,List.mem_map.2 ⟨l,f,rfl⟩⟩
  |none=>
   have g:Gx ops listed=[]:=by
    rw[List.getElem?_eq_none_iff]at hi
    cases hrs:Gx ops listed with
    |nil=>rfl
    |cons a l=>
     rw[hrs]at hi
     have:=Nat.mod_lt t (show 0<(a::l).length by simp)
     omega
   refine⟨[],?_,zF⟩
   simp[Qv,g]
theorem iT (b:P.follows .mixedOrders=true) (ops:Array Oper) (t:Nat):Region.schedule (P.follows .mixedOrders) ops t∈Qv ops ops.size (Array.replicate ops.size false):=by
 rw[b];obtain⟨l,a,e⟩:=yQ ops ops.size t (Array.replicate ops.size false) [];have:Region.schedule true ops t=l:=by
  simp only[Region.schedule,Bool.true_or,if_true,Region.linearise]
  rw[e];simp
 rw[this];exact a
theorem Ϛ (h:Um x=some (id,ops,k)) (w:o_):
  stepG P main (BJ x) w=.go (BJ (ordered x ops k (Region.schedule (P.follows .mixedOrders) ops (w.tape w.drawn (.order x.1.fn id))))) { w with drawn:=w.drawn+1 } #[]:=by
 obtain⟨⟨fn,b,c,e,a,kind,f⟩,d⟩:=x;unfold Um at h;simp only at h;split at h
 .simp only[qx,lJ]at h;obtain⟨rfl,rfl,rfl⟩:=h;simp[BJ,ordered,G,stepG,stepG.exec,choose,Sem.run,Question.forced,Question.cut]
 .cases h
def rD (P:l_) (x:Frame×Z_):d_ Deferred:=match WJ x with
 |some o=>match (execOp x.1.eval o).Jo P with
  |some (.spawn ⟨.fn (.func f) c,ar⟩)=>some ⟨.fn (.func f) c,ar⟩
  |_=>none
 |none=>none
theorem uH {d:Deferred} (h:rD P x=some d) (w:o_):
  stepG P main (BJ x) w=.spawn (BJ (BG x undef)) (BJ ({ (default:Frame)with fn:=P.funcs.size,defers:=[d],mode:=.panicking [goexitEntry] },[])) w #[]:=by
 unfold rD at h;split at h
 .rename_i o b;split at h
  .rename_i f c e a;obtain rfl:=x_ h;obtain⟨e1,e2⟩:=QD (P:=P) (main:=main) (w:=w) b;show stepG P main (G x.1 x.2) w=_;rw[e1];simp only[stepG.apply,Jw a w #[],if_true,GStep.after,jC,e2,jH,if_false,seen_none,Bool.and_false,Bool.false_and]
   rfl
  .cases h
 .cases h
def Yz (P:l_) (x:Frame×Z_):d_ Nat:=match x.1.roundOf,x.1.mode,x.1.kind==CallKind.early,x.1.todo with
 |none,.run,false,.inRegion ops (i::_)::_=>match ops[i]? with
  |some o=>if Region.wanted o (yielded ops x.1.tmps)then match o.op with
   |.call { callee:=.builtin .close,args:=ar,argTypes:=_ }=>match ar.toList with
    |[y]=>match x.1.eval y with
     |.chan (some c)=>if(P.funcs[x.1.fn]?).any (·.norace)then none else some c
     |_=>none
    |_=>none
   |_=>none
   else none
  |none=>none
 |_,_,_,_=>none
theorem Y9 {c:Nat} (h:Yz P x=some c) {cap s r:Nat} {I:X_} {J:Bool} (K:w.heap[c]?=some (.chan cap I false s r J)):
  stepG P main (BJ x) w=.go (BJ (BG x (.tuple #[]))) (w.setChan c cap I true s r J) (closeEvents c):=by
 obtain⟨⟨fn,d,t,f,p,kind,H⟩,G⟩:=x;unfold Yz at h;simp only at h;split at h
 .rename_i j i q l E;split at h
  .rename_i o m;split at h
   .rename_i D;split at h
    .rename_i v z u;split at h
     .rename_i y k;have g:v=#[y]:=(by apply Array.ext';simpa using k);subst g;split at h
      .rename_i F n;split at h
       .cases h
       rename_i C;obtain rfl:=x_ h;have A:kind≠.early:=λe=>by subst e;simp at E
       have B:(Frame.mk fn d (.inRegion j (i::q)::l) f .run kind none).eval=(Act.mk d f).eval:=Frame.eval_at' (Frame.mk fn d [] f .run kind none) ⟨d,f⟩ (.inRegion j (i::q)::l);rw[B]at n;refine(stepG_close (b:=Frame.mk fn d [] f .run kind none) (a:=⟨d,f⟩) (kk:=l) m D A u n K (by simpa using C)).trans ?_;unfold BG Act.put Frame.at Frame.finish BJ;simp only[m,Option.bind_some];cases o.dst<;>rfl
      .cases h
     .cases h
    .cases h
   .cases h
  .cases h
 .cases h
section
variable {P:l_} {Z:Nat->Prop} {Ad Still:Loc->Prop} {Mem Am:Nat->Prop} {h j:Nat} {By:Nat->m_->o_->Trace->Prop} {gs:Array m_} {w:o_} {sl:d_ (W_)} {t:Trace} {J:o_->Prop}
theorem eF.reads (X:Gp Ad Z) (O:GR P Z Ad Still (fun B t=>PX Ad Still Mem Am B h t) j By) (hr:Hz P x vs=some (Zx,y)) (Y:∀v,J v->Cells v Zx vs)
  (H:eF Od P Z Ad Still Mem Am h j By (λg v=>g=BJ x/\J v) gs w t):AQ P gs w sl t (eF Od P Z Ad Still Mem Am h j By (λg v=>g=BJ (BG x y)/\J v)):=by
 obtain⟨q,n,B,g,v,C,⟨rfl,s⟩,T,i,D⟩:=H;refine go_duo (LV:=Mem) (Loose':=Am) O C rfl D D.mem λc E w1 o M U W I u K d=>?_
 have r:au Od Z v (w1.at d):=(T.off i I).off i (CP.at w1 d);obtain⟨k,l⟩:=PU r (Y v s);have p:∀e∈Hy Zx,Zz Ad Still c e:=λe z=>by
  simp only[Hy,gI,List.mem_map]at z
  obtain⟨a,F,rfl⟩:=z
  obtain⟨z1,Q⟩:=l a F
  refine⟨λb G=>?_,zF,zF,Nat.lt_of_lt_of_le Q o,zF⟩
  obtain rfl:=x_ G
  exact⟨λ_=>⟨rfl,λm=>z1 (X.1 _ m)⟩,λm=>(z1 (X.1 _ m)).elim⟩
 refine⟨_,_,_,c,YS hr k,w_ _,o,K.own p,By,M,?_,λR N L V f A S=>.now ⟨N,L,c,_,v,f,⟨rfl,s⟩,r,i,A⟩⟩;rw[woken_of_again (O.again u (w1.at d) (λ_ _=>rfl))];exact O.calm (w1.at d) _ u (λ_ _=>rfl) (Gf D.ne p)
theorem eF.draws (M:P.follows .mixedOrders=true) (O:GR P Z Ad Still (fun B t=>PX Ad Still Mem Am B h t) j By) {L:List (List Nat)} (K:Um x=some (id,ops,k)) (I:Qv ops ops.size (Array.replicate ops.size false)=L)
  (H:eF Od P Z Ad Still Mem Am h j By (λg v=>g=BJ x/\J v) gs w t):AQ P gs w sl t (eF Od P Z Ad Still Mem Am h j By (λg v=>(∃l∈L,g=BJ (ordered x ops k l))/\J v)):=by
 obtain⟨q,n,B,g,v,m,⟨rfl,o⟩,T,c,D⟩:=H;refine go_duo (LV:=Mem) (Loose':=Am) O m rfl D D.mem λa p w1 f y E G r e s d=>?_
 refine⟨_,w1.at (d+1),#[],a,Ϛ K _,w_ _,f,s.own zF,By,y,?_,λA z u F b i C=>.now ⟨z,u,a,_,v,b,⟨⟨_,by rw[<-I];exact iT M ops _,rfl⟩,o⟩,(T.off c r).off c (CP.at w1 (d+1)),c,i⟩⟩;rw[woken_of_again (O.again e (w1.at (d+1)) (λ_ _=>rfl))];exact O.calm (w1.at (d+1)) _ e (λ_ _=>rfl) (Gf D.ne (B:=a) zF)
end
end Go.Fxa
namespace Go.Fxa
open Go.Conc
structure ai1 (P:l_) (N:Fence) (m:Nat) (r:Nat) (sv:n_) (n:Int) (I:Int->o_->Prop) (Cd:Int->n_->o_->Prop) (Bd:o_->Prop):Prop where
 wp:∀i v f,I i v->0<=i->i<n->∀τ d,(WI P).wpIn N m P (λe a w'=>e=.normal/\a.defers=[]/\∃f' oc x,a.tmps=xA (A8 f' (Fa r sv n i oc x))/\((oc=0/\I (i+1) w')\/(oc=1/\Cd i x w')\/(oc=2/\Bd w'))) ⟨xA (A8 f (NY r sv n i)),[]⟩ (v.re τ d)
 tI:∀i,Dv (I i)
 tC:∀i x,Dv (Cd i x)
 tB:Dv Bd
def cd8 (P:l_) (r q0 q2 q3:Nat) (sv:n_) (n lo:Int) (Y:Z_) (I:Int->o_->Prop) (Cd:Int->n_->o_->Prop) (Bd:o_->Prop) (g:m_) (v:o_):Prop:=
 (∃i f x,lo<=i/\i<n/\g=BJ (k3 P q0 q3 (A8 f (Fa r sv n i 1 x)) Y)/\Cd i x v)\/(∃i f x,g=BJ (e3 P q2 q3 (A8 f (Fa r sv n i 2 x)) Y)/\Bd v)\/(∃f,g=BJ (d3 P q2 q3 (A8 f (NY r sv n n)) Y)/\I n v)
section
variable {P:l_} {L:h_->Prop} {p:h_->Oper->Bool} {N:Fence} {m:Nat} {Z:Nat->Prop} {Ad Still:Loc->Prop} {Mem Am:Nat->Prop} {c:Nat} {By:Nat->m_->o_->Trace->Prop} {K:o_->Prop} {b5 b2 b3 r q0 q1 q2 q3:Nat} {sv:n_} {n:Int} {I:Int->o_->Prop} {Cd:Int->n_->o_->Prop} {Bd:o_->Prop} {Y:Z_} {ad3:h_}
theorem wJ {Od:Old} (F:En P b5 b2 b3 r q0 q1 q2 q3 sv n) (R:Tf K Still b5 b2 b3 r q0 q1 q2 q3 sv n) (S:ai1 P N m r sv n I Cd Bd) (hn:n<=1000) (FN:Vr P L p N) (hu:Gp Ad Z) (ck7:Gp Still Z)
  (hJ:∀n b w t,By n b w t->∀d,K (w.at d)) (Cc:∀w a,K w->Still (.cell a)->a.block<w.heap.size) (hSS:∀l,Still l->¬Ad l) (O:GR P Z Ad Still (λB t=>PX Ad Still Mem Am B c t) 0 By)
  (hf:aQ L N ad3) (hq:∀es,seen P 136 es=seen P ad3 es) (hc2:(WI P).Bv (p ad3)=true) {lo:Int} (hlo:0<=lo):
  ∀(k:Nat) (i:Int) (f:Y_) (gs:Array m_) (w:o_) (sl:d_ (W_)) (t:Trace),(n-i).toNat<=k->lo<=i->i<=n->
  eF Od P Z Ad Still Mem Am c 0 By (λg v=>g=BJ (LH P (A8 f (NY r sv n i)) Y)/\I i v) gs w t->AQ P gs w sl t (eF Od P Z Ad Still Mem Am c 0 By (cd8 P r q0 q2 q3 sv n lo Y I Cd Bd)):=by
 intro k
 induction k with
 |zero=>
  intro i f gs w sl t hk h0 E H
  obtain rfl:i=n:=zD
  refine(H.walk (sl:=sl) hJ Cc hSS O (Wx F R f Y zD)).mono λA w' X o=>o.mono λg v ⟨s,j⟩=>.inr (.inr ⟨f,s,j⟩)
 |succ k ih=>
  intro i f gs w sl t hk h0 E H
  by_cases D:i<n
  .obtain⟨f1,G⟩:=wI (main:=c==0) (K:=K) (Still:=Still) F f Y D;refine(H.walk (sl:=sl) hJ Cc hSS O G).bind λgs1 w1 Jz t1 _ H1=>?_
   refine(eF.piece (sl:=Jz) FN hu ck7 O hf hq rfl hc2 (λe a w h=>⟨.inl h.1,h.2.1⟩) (λv j=>S.wp i v f1 j zD D) H1).bind λgs2 w2 u t2 _ H2=>?_
   obtain⟨q,V,B,g,v,M,⟨tm,τ,d,hb⟩,Q,T,U⟩:=H2;obtain⟨rfl,_,_,y,oc,x,ht,h⟩|⟨todo,_,he,_⟩:=hb
   .simp only at ht;subst ht;obtain⟨rfl,h⟩|⟨rfl,h⟩|⟨rfl,h⟩:=h
    .obtain⟨f2,z⟩:=ar4 (main:=c==0) (K:=K) (Still:=Still) F y Y i x;have e:IntKind.i64.wrap (i+1)=i+1:=(by simp[IntKind.wrap,IntKind.bits,IntKind.signed];omega);rw[e]at z;refine(eF.walk (sl:=u) (J:=I (i+1)) hJ Cc hSS O ⟨q,V,B,_,v,M,⟨rfl,(S.tI _).back h⟩,Q,T,U⟩ z).bind λC w3 W t3 _ H3=>?_
     exact ih (i+1) f2 C w3 W t3 zD zD zD H3
    .refine(eF.walk (sl:=u) (J:=Cd i x) hJ Cc hSS O ⟨q,V,B,_,v,M,⟨rfl,(S.tC _ _).back h⟩,Q,T,U⟩ (oO F R y Y i x)).mono λA w' X o=>o.mono λg v ⟨s,j⟩=>.inl ⟨i,y,x,h0,D,s,j⟩
    .refine(eF.walk (sl:=u) (J:=Bd) hJ Cc hSS O ⟨q,V,B,_,v,M,⟨rfl,S.tB.back h⟩,Q,T,U⟩ (Ϣ F R y Y i x)).mono λA w' X o=>o.mono λg v ⟨s,j⟩=>.inr (.inl ⟨i,y,x,s,j⟩)
   .cases he
  .obtain rfl:i=n:=zD;refine(H.walk (sl:=sl) hJ Cc hSS O (Wx F R f Y zD)).mono λA w' X o=>o.mono λg v ⟨s,j⟩=>.inr (.inr ⟨f,s,j⟩)
end
end Go.Fxa
namespace Go.Fxa
open Go.Conc Go.Proofs
variable {n:Nat} {x:Frame×Z_} {fn:h_} {todo:List Item} {ds:List Deferred} {kd:CallKind} {Y:Z_} {l:List (Nat×n_)}
def TN (n:Nat) (f:Y_):X_:=((List.range n).map f).toArray
theorem XX {T:X_} (h:T.size=n):T=TN n λi=>T.getD i undef:=by
 apply Array.ext
 .simp[TN,h]
 .intro i a b;simp[TN,Array.getD,a]
theorem at_toldN (h:DW x=(fn,todo,ds,.run,kd,none,Y)) (i:Yr x (l.map (·.1))=l.map (·.2)) (j:x.1.tmps.size=n):
  x=(Frame.mk fn (TN n (A8 (slot x) l)) todo ds .run kd none,Y):=by
 rw[Vw i];obtain⟨⟨a,b,c,d,e,f,g⟩,y⟩:=x;simp only[DW,lJ]at h;obtain⟨rfl,rfl,rfl,rfl,rfl,rfl,rfl⟩:=h;simp only[lJ,Frame.mk.injEq,and_true,true_and];exact XX j
section
variable (P:l_) (r q0 q1 q3:Nat) (sv:n_) (n i:Int) (w A:n_) (f g:Y_) (Y:Z_) (td:List Item)
def a0:=BG (m3 P q0 q1 q3 w f Y) (commResult (GM q1 q3) .select 0 A true)
def a1:=run P 6 (a0 P q0 q1 q3 w A f Y)
def ZH:Code:=match (a1 P 0 0 0 (a_ 0) qj (A8 u0 (Fa 0 (pr 0) 0 0 1 (a_ 0))) []).1.todo with
 |.code c::_=>c
 |_=>.skip
def bh4:List Item:=(a1 P 0 0 0 (a_ 0) qj (A8 u0 (Fa 0 (pr 0) 0 0 1 (a_ 0))) []).1.todo.tail
def YA:=(m3 P q0 q1 q3 w f Y).2
def slA:List (Nat×n_):=[(1,sv),(29,commResult (GM q1 q3) .select 0 A true)]
def a2:Frame×Z_:=(Frame.mk 187 (TN 49 (A8 g [(6,.bool true)])) td [] .returning .normal none,YA P q0 q1 q3 w f Y)
end
structure UM (P:l_) (r q0 q1 q3:Nat) (sv:n_) (n:Int):Prop where
 h1:∀(f:Y_) (Y:Z_) (i:Int) (w A:n_),AU P 6 (a0 P q0 q1 q3 w A (A8 f (Fa r sv n i 1 w)) Y)=some []
 h2:∀(f:Y_) (Y:Z_) (i:Int) (w A:n_),DW (a1 P q0 q1 q3 w A (A8 f (Fa r sv n i 1 w)) Y)=(187,.code (ZH P)::bh4 P,[],.run,.normal,none,YA P q0 q1 q3 w (A8 f (Fa r sv n i 1 w)) Y)
 h3:∀(f:Y_) (Y:Z_) (i:Int) (w A:n_),Yr (a1 P q0 q1 q3 w A (A8 f (Fa r sv n i 1 w)) Y) [1,29]=[sv,commResult (GM q1 q3) .select 0 A true]
 h4:∀(f:Y_) (Y:Z_) (i:Int) (w A:n_),(a1 P q0 q1 q3 w A (A8 f (Fa r sv n i 1 w)) Y).1.tmps.size=49
 j1:∀(f g:Y_) (Y:Z_) (td:List Item) (i:Int) (w:n_),AU P 12 (a2 P q0 q1 q3 w (A8 f (Fa r sv n i 1 w)) g Y td)=some []
 j2:∀(f g:Y_) (Y:Z_) (td:List Item) (i:Int) (w:n_),DW (run P 12 (a2 P q0 q1 q3 w (A8 f (Fa r sv n i 1 w)) g Y td))=(136,eQ P,[],.run,.normal,none,Y)
 j3:∀(f g:Y_) (Y:Z_) (td:List Item) (i:Int) (w:n_),Yr (run P 12 (a2 P q0 q1 q3 w (A8 f (Fa r sv n i 1 w)) g Y td)) [0,1,8,9]=[pr r,sv,b_ n,b_ (IntKind.i64.wrap (i+1))]
 j4:∀(f g:Y_) (Y:Z_) (td:List Item) (i:Int) (w:n_),(run P 12 (a2 P q0 q1 q3 w (A8 f (Fa r sv n i 1 w)) g Y td)).1.tmps.size=32
section
variable {r q0 q1 q3:Nat} {sv:n_} {n:Int}
theorem ϧ:UM prog r q0 q1 q3 sv n:=by
 constructor<;>intros<;>kernel_rfl
end
section
variable {P:l_} {K:o_->Prop} {Still:Loc->Prop} {main:Bool} {r q0 q1 q3:Nat} {sv:n_} {n:Int}
theorem Zm (F:UM P r q0 q1 q3 sv n) (f:Y_) (Y:Z_) (i:Int) (w A:n_):
  ∃a,RW P main K Still 6 (Conc.served (BJ (m3 P q0 q1 q3 w (A8 f (Fa r sv n i 1 w)) Y)) (commResult (GM q1 q3) .select 0 A true)) (BJ (Frame.mk 187 (TN 49 (A8 a (slA q1 q3 sv A))) (.code (ZH P)::bh4 P) [] .run .normal none,YA P q0 q1 q3 w (A8 f (Fa r sv n i 1 w)) Y)):=by
 have h:RW P main K Still 6 (BJ (a0 P q0 q1 q3 w A (A8 f (Fa r sv n i 1 w)) Y)) (BJ (a1 P q0 q1 q3 w A (A8 f (Fa r sv n i 1 w)) Y)):=RW.AU (F.h1 f Y i w A);have e:=at_toldN (l:=slA q1 q3 sv A) (F.h2 f Y i w A) (F.h3 f Y i w A) (F.h4 f Y i w A);refine⟨slot (a1 P q0 q1 q3 w A (A8 f (Fa r sv n i 1 w)) Y),?_⟩;rw[e]at h;exact h
theorem oU (F:UM P r q0 q1 q3 sv n) (f g:Y_) (Y:Z_) (a:List Item) (i:Int) (w:n_):
  ∃b,RW P main K Still 12 (BJ (a2 P q0 q1 q3 w (A8 f (Fa r sv n i 1 w)) g Y a)) (BJ (LH P (A8 b (NY r sv n (IntKind.i64.wrap (i+1)))) Y)):=by
 have h:=RW.AU (main:=main) (K:=K) (Still:=Still) (F.j1 f g Y a i w);have e:=at_told (l:=NY r sv n (IntKind.i64.wrap (i+1))) (F.j2 f g Y a i w) (F.j3 f g Y a i w) (F.j4 f g Y a i w);refine⟨slot (run P 12 (a2 P q0 q1 q3 w (A8 f (Fa r sv n i 1 w)) g Y a)),?_⟩;rw[e]at h;exact h
end
theorem at_toldM {m:FrameMode} (h:DW x=(fn,todo,ds,m,kd,none,Y)) (i:Yr x (l.map (·.1))=l.map (·.2)) (j:x.1.tmps.size=n):
  x=(Frame.mk fn (TN n (A8 (slot x) l)) todo ds m kd none,Y):=by
 rw[Vw i];obtain⟨⟨a,b,c,d,e,f,g⟩,y⟩:=x;simp only[DW,lJ]at h;obtain⟨rfl,rfl,rfl,rfl,rfl,rfl,rfl⟩:=h;simp only[lJ,Frame.mk.injEq,and_true,true_and];exact XX j
def ϵ (x:Frame×Z_):Code:=match x.1.todo with
 |.code c::_=>c
 |_=>.skip
def ϰ (x:Frame×Z_):List Item:=x.1.todo.tail
def below (x:Frame×Z_):Frame×Z_:=match x.2 with
 |c::cs=>(c,cs)
 |[]=>(default,[])
def pv (pa:f_):n_:=.pointer (some pa)
def CY:n_:=.slice none 0 0
def zL:f_:=(R_ 0)
def rY (P:l_) (x:Frame×Z_):d_ (Array CommCase×CommShape):=match WJ x with
 |some o=>match (execOp x.1.eval o).Jo P with
  |some (.comm cs true sh)=>some (cs,sh)
  |_=>none
 |none=>none
theorem cZ {P:l_} {main:Bool} {cs:Array CommCase} {sh:CommShape} (h:rY P x=some (cs,sh)) (w:o_):stepG P main (BJ x) w=.comm (BJ x) cs true sh w #[]:=by
 unfold rY at h;split at h
 .rename_i o c;split at h
  .rename_i a d b;simp only[qx,lJ]at h;obtain⟨rfl,rfl⟩:=h;exact zt c b
  .cases h
 .cases h
def pO (kv:n_) (pa:f_) (n:Int) (told:n_):List (Nat×n_):=[(0,kv),(1,pv pa),(2,b_ n),(7,told)]
def slS (kv:n_) (pa:f_) (told:n_) (r:Nat):List (Nat×n_):=[(0,kv),(1,pv pa),(7,told),(8,pr r)]
def slX (kv:n_) (pa:f_) (told:n_) (r:Nat) (x:n_):List (Nat×n_):=[(0,kv),(1,pv pa),(7,told),(8,pr r),(9,x)]
def slF (kv:n_) (pa:f_) (told:n_) (r bA:Nat):List (Nat×n_):=[(0,kv),(1,pv pa),(7,told),(8,pr r),(10,pr bA),(59,.bool false)]
def zQ (b2 b3 b5:Nat):List (Nat×n_):=[(2,pr b2),(3,pr b3),(5,pr b5)]
def aa0 (r:Nat) (A:n_) (bB:Nat):List (Nat×n_):=[(0,pr r),(1,A),(3,pr bB)]
def OX (q0 q2:Nat):Array CommCase:=#[rcase q0 (a_ 0),rcase q2 (b_ 0)]
def jK (q1:Nat) (A:n_):Array CommCase:=#[scase q1 A (.tuple #[])]
def Qh (r:Nat):List Deferred:=[⟨.fn (.func 94) #[],#[pr r]⟩]
section
variable (P:l_) (kv:n_) (pa:f_) (n:Int) (told:n_) (f g:Y_) (cs Y:Z_) (b2 b3 b5 r q0 q1 q2 q3 bA bB:Nat) (x A:n_) (o:Int) (td:List Item)
def z0:Frame×Z_:=(Frame.enter P 56 #[kv,pv pa,b_ n] .normal,cs)
def z1:=run P 9 (z0 P kv pa n cs)
def R2:Code:=ϵ (z1 P (pr 0) zL 0 [])
def T2:List Item:=ϰ (z1 P (pr 0) zL 0 [])
def f56 (ds:List Deferred):Frame×Z_:=(Frame.mk 56 (TN 76 f) td ds .run .normal none,cs)
def R3:Code:=ϵ (run P 1 (f56 u0 [] (T2 P) []))
def T3:List Item:=ϰ (run P 1 (f56 u0 [] (T2 P) []))
def z5:=run P 8 (f56 (A8 f (pO kv pa n told)) cs (T3 P) [])
def S0:Code:=ϵ (z5 P (pr 0) zL 0 CY u0 [])
def U0:List Item:=ϰ (z5 P (pr 0) zL 0 CY u0 [])
def Y4:=(z5 P kv pa n told f cs).2
def f93:Frame×Z_:=(Frame.mk 93 (TN 18 g) td [] .run .normal none,Y)
def S1:Code:=ϵ (run P 1 (f93 u0 [] (U0 P)))
def U1:List Item:=ϰ (run P 1 (f93 u0 [] (U0 P)))
def y3:=run P 2 (f93 (A8 g (zQ b2 b3 b5)) Y (U1 P))
def y4:=run P 3 (BG (y3 P g Y b2 b3 b5) (pr r))
def cA:Frame:=(below (y4 P g Y b2 b3 b5 r)).1
def y5:Frame×Z_:=((cA P g Y b2 b3 b5 r).finish (.tuple #[]),Y)
def y6:=run P 4 (y5 P g Y b2 b3 b5 r)
def y7:=run P 3 (BG (y6 P g Y b2 b3 b5 r) undef)
def y8:=run P 28 (BG (y7 P g (Y4 P kv pa n told f cs) b2 b3 b5 r) (pr r))
def y9:=run P 17 (BG (y8 P kv pa n told f g cs b2 b3 b5 r) (DV q0))
def y10:=run P 7 (BG (y9 P kv pa n told f g cs b2 b3 b5 r q0) (DV q2))
def xH:List Item:=(y10 P (pr 0) zL 0 CY u0 u0 [] 0 0 0 0 0 0).1.todo
def kS:Frame×Z_:=f56 f cs (xH P) (Qh r)
def x0:=BG (kS P (A8 f (slS kv pa told r)) cs r) (commResult (OX q0 q2) .select 0 x true)
def x1:=run P 12 (x0 P kv pa told f cs r q0 q2 x)
def R10:Code:=ϵ (x1 P (pr 0) zL CY u0 [] 0 0 0 (a_ 0))
def T10:List Item:=ϰ (x1 P (pr 0) zL CY u0 [] 0 0 0 (a_ 0))
def R11:Code:=ϵ (run P 2 (f56 u0 [] (T10 P) []))
def T11:List Item:=ϰ (run P 2 (f56 u0 [] (T10 P) []))
def R15:Code:=ϵ (run P 3 (f56 (A8 u0 [(39,.bool false)]) [] (T11 P) []))
def T15:List Item:=ϰ (run P 3 (f56 (A8 u0 [(39,.bool false)]) [] (T11 P) []))
def R16:Code:=ϵ (run P 2 (f56 u0 [] (T15 P) []))
def T16:List Item:=ϰ (run P 2 (f56 u0 [] (T15 P) []))
def x18:=run P 4 (f56 (A8 f (slF kv pa told r bA)) cs (T16 P) (Qh r))
def x19:=run P 2 (BG (x18 P kv pa told f cs r bA) A)
def A0:Code:=ϵ (x19 P (pr 0) zL CY u0 [] 0 0 qj)
def V97:List Item:=ϰ (x19 P (pr 0) zL CY u0 [] 0 0 qj)
def Y18:=(x19 P kv pa told f cs r bA A).2
def f97:Frame×Z_:=(Frame.mk 97 (TN 9 g) td [] .run .normal none,Y)
def ai:Array Oper:=match Um (f97 u0 [] (V97 P))with
 |some (_,ops,_)=>ops
 |none=>#[]
def WV (l:List Nat):Frame×Z_:=ordered (f97 (A8 g (aa0 r A bB)) Y (V97 P)) (ai P) [] l
def xs:Frame×Z_:=(Frame.mk 97 (TN 9 (A8 g [(0,pr r),(1,A),(3,pr bB),(4,pr r),(5,pr r),(6,.pointer (some (S_ r 1))),(7,DV q1),(8,A)])) [.inRegion (ai P) [5]] [] .run .normal none,Y)
def v0:=BG (xs P g (Y18 P kv pa told f cs r bA A) r q1 bB A) (commResult (jK q1 A) .send 0 undef false)
def v1:=run P 22 (v0 P kv pa told f g cs r q1 bA bB A)
def v2:=run P 17 (BG (v1 P kv pa told f g cs r q1 bA bB A) (DV q0))
def v3:=run P 7 (BG (v2 P kv pa told f g cs r q0 q1 bA bB A) (DV q2))
def n0:=BG (kS P (A8 f (slS kv pa told r)) cs r) (commResult (OX q0 q2) .select 1 (b_ o) true)
def R21:Code:=ϵ (run P 19 (n0 P (pr 0) zL CY u0 [] 0 0 0 2))
def T21:List Item:=ϰ (run P 19 (n0 P (pr 0) zL CY u0 [] 0 0 0 2))
def w1:=run P 13 (f56 (A8 f [(7,told),(59,.bool true)]) cs (T16 P) (Qh r))
def w2:=run P 32 (n0 P kv pa told f cs r q0 q2 0)
def w3:=run P 12 (f56 (A8 f [(7,told)]) cs (T21 P) (Qh r))
def Β:Frame:=Frame.mk 56 (TN 76 f) td [] .returning .normal none
def cg7:List Item:=(below (w1 P CY u0 [] 0)).1.todo
def cg6:List Item:=(below (w2 P (pr 0) zL CY u0 [] 0 0 0)).1.todo
def cg5:List Item:=(below (w3 P CY u0 [] 0)).1.todo
def sR:=run P 5 (Frame.enter P 94 #[pr r] .deferred,Y)
def sC:=BG (sR P Y r) (DV q3)
def sD:=BG (sC P Y r q3) (.tuple #[])
def c94:Frame:=(below (run P 6 (sD P Y r q3))).1
end
structure UL (P:l_):Prop where
 z1a:∀(kv:n_) (pa:f_) (n:Int) (cs:Z_),AU P 9 (z0 P kv pa n cs)=some []
 z1b:∀(kv:n_) (pa:f_) (n:Int) (cs:Z_),DW (z1 P kv pa n cs)=(56,.code (R2 P)::T2 P,[],.run,.normal,none,cs)
 z1c:∀(kv:n_) (pa:f_) (n:Int) (cs:Z_),Yr (z1 P kv pa n cs) [0,1,2,7]=[kv,pv pa,b_ n,CY]
 z1d:∀(kv:n_) (pa:f_) (n:Int) (cs:Z_),(z1 P kv pa n cs).1.tmps.size=76
 z3:∀(f:Y_) (cs:Z_),DY P (some (257,6)) 1 (f56 f cs (T2 P) [])=some ([],f56 f cs (.code (R3 P)::T3 P) [])
 z5a:∀(kv:n_) (pa:f_) (n:Int) (told:n_) (f:Y_) (cs:Z_),AU P 8 (f56 (A8 f (pO kv pa n told)) cs (T3 P) [])=some []
 z5b:∀(kv:n_) (pa:f_) (n:Int) (told:n_) (f:Y_) (cs:Z_),DW (z5 P kv pa n told f cs)=(93,.code (S0 P)::U0 P,[],.run,.normal,none,Y4 P kv pa n told f cs)
 z5c:∀(kv:n_) (pa:f_) (n:Int) (told:n_) (f:Y_) (cs:Z_),Yr (z5 P kv pa n told f cs) [0,1]=[.pointer (some (pa.add 5)),b_ n]
 z5d:∀(kv:n_) (pa:f_) (n:Int) (told:n_) (f:Y_) (cs:Z_),(z5 P kv pa n told f cs).1.tmps.size=18
 y1:∀(g:Y_) (Y:Z_),DY P (some (257,6)) 1 (f93 g Y (U0 P))=some ([],f93 g Y (.code (S1 P)::U1 P))
 y3a:∀(g:Y_) (Y:Z_) (b2 b3 b5:Nat),AU P 2 (f93 (A8 g (zQ b2 b3 b5)) Y (U1 P))=some []
 y3b:∀(g:Y_) (Y:Z_) (b2 b3 b5 r:Nat),DX P (y3 P g Y b2 b3 b5) (pr r)=some ([(R_ b5)],pr r)
 y4a:∀(g:Y_) (Y:Z_) (b2 b3 b5 r:Nat),AU P 3 (BG (y3 P g Y b2 b3 b5) (pr r))=some []
 y4b:∀(g:Y_) (Y:Z_) (b2 b3 b5 r:Nat),y4 P g Y b2 b3 b5 r=aS P r (cA P g Y b2 b3 b5 r::Y)
 y6a:∀(g:Y_) (Y:Z_) (b2 b3 b5 r:Nat),AU P 4 (y5 P g Y b2 b3 b5 r)=some []
 y6b:∀(g:Y_) (Y:Z_) (b2 b3 b5 r:Nat),rD P (y6 P g Y b2 b3 b5 r)=some ⟨.fn (.func 134) #[pr b5,pr b2,pr b3],#[]⟩
 y7a:∀(g:Y_) (Y:Z_) (b2 b3 b5 r:Nat),AU P 3 (BG (y6 P g Y b2 b3 b5 r) undef)=some []
 y7b:∀(g:Y_) (Y:Z_) (b2 b3 b5 r:Nat),DX P (y7 P g Y b2 b3 b5 r) (pr r)=some ([(R_ b5)],pr r)
 y8a:∀(kv:n_) (pa:f_) (n:Int) (told:n_) (f g:Y_) (cs:Z_) (b2 b3 b5 r:Nat),AU P 28 (BG (y7 P g (Y4 P kv pa n told f cs) b2 b3 b5 r) (pr r))=some []
 y8b:∀(kv:n_) (pa:f_) (n:Int) (told:n_) (f g:Y_) (cs:Z_) (b2 b3 b5 r q0:Nat),DX P (y8 P kv pa n told f g cs b2 b3 b5 r) (DV q0)=some ([(R_ r)],DV q0)
 y9a:∀(kv:n_) (pa:f_) (n:Int) (told:n_) (f g:Y_) (cs:Z_) (b2 b3 b5 r q0:Nat),AU P 17 (BG (y8 P kv pa n told f g cs b2 b3 b5 r) (DV q0))=some []
 y9b:∀(kv:n_) (pa:f_) (n:Int) (told:n_) (f g:Y_) (cs:Z_) (b2 b3 b5 r q0 q2:Nat),DX P (y9 P kv pa n told f g cs b2 b3 b5 r q0) (DV q2)=some ([(S_ r 2)],DV q2)
 ce6:∀(kv:n_) (pa:f_) (n:Int) (told:n_) (f g:Y_) (cs:Z_) (b2 b3 b5 r q0 q2:Nat),AU P 7 (BG (y9 P kv pa n told f g cs b2 b3 b5 r q0) (DV q2))=some []
 ce5:∀(kv:n_) (pa:f_) (n:Int) (told:n_) (f g:Y_) (cs:Z_) (b2 b3 b5 r q0 q2:Nat),DW (y10 P kv pa n told f g cs b2 b3 b5 r q0 q2)=(56,xH P,Qh r,.run,.normal,none,cs)
 ce4:∀(kv:n_) (pa:f_) (n:Int) (told:n_) (f g:Y_) (cs:Z_) (b2 b3 b5 r q0 q2:Nat),Yr (y10 P kv pa n told f g cs b2 b3 b5 r q0 q2) [0,1,7,8,25,27]=[kv,pv pa,told,pr r,DV q0,DV q2]
 ce3:∀(kv:n_) (pa:f_) (n:Int) (told:n_) (f g:Y_) (cs:Z_) (b2 b3 b5 r q0 q2:Nat),(y10 P kv pa n told f g cs b2 b3 b5 r q0 q2).1.tmps.size=76
 k1:∀(f:Y_) (cs:Z_) (r q0 q2:Nat),Ol P (kS P (A8 f [(25,DV q0),(27,DV q2)]) cs r)=some (OX q0 q2)
 x1a:∀(kv:n_) (pa:f_) (told:n_) (f:Y_) (cs:Z_) (r q0 q2:Nat) (x:n_),AU P 12 (x0 P kv pa told f cs r q0 q2 x)=some []
 x1b:∀(kv:n_) (pa:f_) (told:n_) (f:Y_) (cs:Z_) (r q0 q2:Nat) (x:n_),DW (x1 P kv pa told f cs r q0 q2 x)=(56,.code (R10 P)::T10 P,Qh r,.run,.normal,none,cs)
 x1c:∀(kv:n_) (pa:f_) (told:n_) (f:Y_) (cs:Z_) (r q0 q2:Nat) (x:n_),Yr (x1 P kv pa told f cs r q0 q2 x) [0,1,7,8,9]=[kv,pv pa,told,pr r,x]
 x1d:∀(kv:n_) (pa:f_) (told:n_) (f:Y_) (cs:Z_) (r q0 q2:Nat) (x:n_),(x1 P kv pa told f cs r q0 q2 x).1.tmps.size=76
 x2:∀(f:Y_) (cs:Z_) (r:Nat),DY P (some (257,6)) 2 (f56 f cs (T10 P) (Qh r))=some ([],f56 f cs (.code (R11 P)::T11 P) (Qh r))
 x3:∀(f:Y_) (cs:Z_) (r:Nat),DY P (some (257,6)) 3 (f56 (A8 f [(39,.bool false)]) cs (T11 P) (Qh r))=some ([],f56 (A8 f [(39,.bool false)]) cs (.code (R15 P)::T15 P) (Qh r))
 x4:∀(f:Y_) (cs:Z_) (r:Nat),DY P (some (257,6)) 2 (f56 f cs (T15 P) (Qh r))=some ([],f56 f cs (.code (R16 P)::T16 P) (Qh r))
 cf5:∀(kv:n_) (pa:f_) (told:n_) (f:Y_) (cs:Z_) (r bA:Nat),AU P 4 (f56 (A8 f (slF kv pa told r bA)) cs (T16 P) (Qh r))=some []
 cf4:∀(kv:n_) (pa:f_) (told:n_) (f:Y_) (cs:Z_) (r bA:Nat) (s0 s1 s2:n_),Hz P (x18 P kv pa told f cs r bA) [s0,s1,s2]=some ([(R_ bA),(S_ bA 1),(S_ bA 2)],.agg #[s0,s1,s2])
 cf2:∀(kv:n_) (pa:f_) (told:n_) (f:Y_) (cs:Z_) (r bA:Nat) (A:n_),AU P 2 (BG (x18 P kv pa told f cs r bA) A)=some []
 ce9:∀(kv:n_) (pa:f_) (told:n_) (f:Y_) (cs:Z_) (r bA:Nat) (A:n_),DW (x19 P kv pa told f cs r bA A)=(97,.code (A0 P)::V97 P,[],.run,.normal,none,Y18 P kv pa told f cs r bA A)
 ce8:∀(kv:n_) (pa:f_) (told:n_) (f:Y_) (cs:Z_) (r bA:Nat) (A:n_),Yr (x19 P kv pa told f cs r bA A) [0,1]=[pr r,A]
 ce7:∀(kv:n_) (pa:f_) (told:n_) (f:Y_) (cs:Z_) (r bA:Nat) (A:n_),(x19 P kv pa told f cs r bA A).1.tmps.size=9
 dr:∀(g:Y_) (Y:Z_),Um (f97 g Y (V97 P))=some (1,ai P,[])
 dl:Qv (ai P) (ai P).size (Array.replicate (ai P).size false)=[[0,1,2,3,4,5],[0,1,2,4,3,5],[0,1,4,2,3,5],[0,4,1,2,3,5],[4,0,1,2,3,5]]
 l1a:∀(g:Y_) (Y:Z_) (r bB:Nat) (A:n_),AU P 3 (WV P g Y r bB A [0,1,2,3,4,5])=some []
 l1b:∀(g:Y_) (Y:Z_) (r bB q1:Nat) (A:n_),DX P (run P 3 (WV P g Y r bB A [0,1,2,3,4,5])) (DV q1)=some ([(S_ r 1)],DV q1)
 l1c:∀(g:Y_) (Y:Z_) (r bB q1:Nat) (A:n_) (s0 s1 s2:n_),Hz P (BG (run P 3 (WV P g Y r bB A [0,1,2,3,4,5])) (DV q1)) [s0,s1,s2]=some ([(R_ bB),(S_ bB 1),(S_ bB 2)],.agg #[s0,s1,s2])
 l1d:∀(g:Y_) (Y:Z_) (r bB q1:Nat) (A:n_),BG (BG (run P 3 (WV P g Y r bB A [0,1,2,3,4,5])) (DV q1)) A=xs P g Y r q1 bB A
 l2a:∀(g:Y_) (Y:Z_) (r bB:Nat) (A:n_),AU P 3 (WV P g Y r bB A [0,1,2,4,3,5])=some []
 l2b:∀(g:Y_) (Y:Z_) (r bB:Nat) (A:n_) (s0 s1 s2:n_),Hz P (run P 3 (WV P g Y r bB A [0,1,2,4,3,5])) [s0,s1,s2]=some ([(R_ bB),(S_ bB 1),(S_ bB 2)],.agg #[s0,s1,s2])
 l2c:∀(g:Y_) (Y:Z_) (r bB q1:Nat) (A:n_),DX P (BG (run P 3 (WV P g Y r bB A [0,1,2,4,3,5])) A) (DV q1)=some ([(S_ r 1)],DV q1)
 l2d:∀(g:Y_) (Y:Z_) (r bB q1:Nat) (A:n_),BG (BG (run P 3 (WV P g Y r bB A [0,1,2,4,3,5])) A) (DV q1)=xs P g Y r q1 bB A
 l3a:∀(g:Y_) (Y:Z_) (r bB:Nat) (A:n_),AU P 2 (WV P g Y r bB A [0,1,4,2,3,5])=some []
 l3b:∀(g:Y_) (Y:Z_) (r bB:Nat) (A:n_) (s0 s1 s2:n_),Hz P (run P 2 (WV P g Y r bB A [0,1,4,2,3,5])) [s0,s1,s2]=some ([(R_ bB),(S_ bB 1),(S_ bB 2)],.agg #[s0,s1,s2])
 l3c:∀(g:Y_) (Y:Z_) (r bB:Nat) (A:n_),AU P 1 (BG (run P 2 (WV P g Y r bB A [0,1,4,2,3,5])) A)=some []
 l3d:∀(g:Y_) (Y:Z_) (r bB q1:Nat) (A:n_),DX P (run P 1 (BG (run P 2 (WV P g Y r bB A [0,1,4,2,3,5])) A)) (DV q1)=some ([(S_ r 1)],DV q1)
 l3e:∀(g:Y_) (Y:Z_) (r bB q1:Nat) (A:n_),BG (run P 1 (BG (run P 2 (WV P g Y r bB A [0,1,4,2,3,5])) A)) (DV q1)=xs P g Y r q1 bB A
 l4a:∀(g:Y_) (Y:Z_) (r bB:Nat) (A:n_),AU P 1 (WV P g Y r bB A [0,4,1,2,3,5])=some []
 l4b:∀(g:Y_) (Y:Z_) (r bB:Nat) (A:n_) (s0 s1 s2:n_),Hz P (run P 1 (WV P g Y r bB A [0,4,1,2,3,5])) [s0,s1,s2]=some ([(R_ bB),(S_ bB 1),(S_ bB 2)],.agg #[s0,s1,s2])
 l4c:∀(g:Y_) (Y:Z_) (r bB:Nat) (A:n_),AU P 2 (BG (run P 1 (WV P g Y r bB A [0,4,1,2,3,5])) A)=some []
 l4d:∀(g:Y_) (Y:Z_) (r bB q1:Nat) (A:n_),DX P (run P 2 (BG (run P 1 (WV P g Y r bB A [0,4,1,2,3,5])) A)) (DV q1)=some ([(S_ r 1)],DV q1)
 l4e:∀(g:Y_) (Y:Z_) (r bB q1:Nat) (A:n_),BG (run P 2 (BG (run P 1 (WV P g Y r bB A [0,4,1,2,3,5])) A)) (DV q1)=xs P g Y r q1 bB A
 l5a:∀(g:Y_) (Y:Z_) (r bB:Nat) (A:n_),AU P 0 (WV P g Y r bB A [4,0,1,2,3,5])=some []
 l5b:∀(g:Y_) (Y:Z_) (r bB:Nat) (A:n_) (s0 s1 s2:n_),Hz P (run P 0 (WV P g Y r bB A [4,0,1,2,3,5])) [s0,s1,s2]=some ([(R_ bB),(S_ bB 1),(S_ bB 2)],.agg #[s0,s1,s2])
 l5c:∀(g:Y_) (Y:Z_) (r bB:Nat) (A:n_),AU P 3 (BG (run P 0 (WV P g Y r bB A [4,0,1,2,3,5])) A)=some []
 l5d:∀(g:Y_) (Y:Z_) (r bB q1:Nat) (A:n_),DX P (run P 3 (BG (run P 0 (WV P g Y r bB A [4,0,1,2,3,5])) A)) (DV q1)=some ([(S_ r 1)],DV q1)
 l5e:∀(g:Y_) (Y:Z_) (r bB q1:Nat) (A:n_),BG (run P 3 (BG (run P 0 (WV P g Y r bB A [4,0,1,2,3,5])) A)) (DV q1)=xs P g Y r q1 bB A
 xs:∀(g:Y_) (Y:Z_) (r bB q1:Nat) (A:n_),rY P (xs P g Y r q1 bB A)=some (jK q1 A,.send)
 v1a:∀(kv:n_) (pa:f_) (told:n_) (f g:Y_) (cs:Z_) (r q1 bA bB:Nat) (A:n_),AU P 22 (v0 P kv pa told f g cs r q1 bA bB A)=some []
 v1b:∀(kv:n_) (pa:f_) (told:n_) (f g:Y_) (cs:Z_) (r q0 q1 bA bB:Nat) (A:n_),DX P (v1 P kv pa told f g cs r q1 bA bB A) (DV q0)=some ([(R_ r)],DV q0)
 v2a:∀(kv:n_) (pa:f_) (told:n_) (f g:Y_) (cs:Z_) (r q0 q1 bA bB:Nat) (A:n_),AU P 17 (BG (v1 P kv pa told f g cs r q1 bA bB A) (DV q0))=some []
 v2b:∀(kv:n_) (pa:f_) (told:n_) (f g:Y_) (cs:Z_) (r q0 q1 q2 bA bB:Nat) (A:n_),DX P (v2 P kv pa told f g cs r q0 q1 bA bB A) (DV q2)=some ([(S_ r 2)],DV q2)
 v3a:∀(kv:n_) (pa:f_) (told:n_) (f g:Y_) (cs:Z_) (r q0 q1 q2 bA bB:Nat) (A:n_),AU P 7 (BG (v2 P kv pa told f g cs r q0 q1 bA bB A) (DV q2))=some []
 v3b:∀(kv:n_) (pa:f_) (told:n_) (f g:Y_) (cs:Z_) (r q0 q1 q2 bA bB:Nat) (A:n_),DW (v3 P kv pa told f g cs r q0 q1 q2 bA bB A)=(56,xH P,Qh r,.run,.normal,none,cs)
 v3c:∀(kv:n_) (pa:f_) (told:n_) (f g:Y_) (cs:Z_) (r q0 q1 q2 bA bB:Nat) (A:n_),Yr (v3 P kv pa told f g cs r q0 q1 q2 bA bB A) [0,1,7,8,25,27]=[kv,pv pa,told,pr r,DV q0,DV q2]
 v3d:∀(kv:n_) (pa:f_) (told:n_) (f g:Y_) (cs:Z_) (r q0 q1 q2 bA bB:Nat) (A:n_),(v3 P kv pa told f g cs r q0 q1 q2 bA bB A).1.tmps.size=76
 n1a:∀(kv:n_) (pa:f_) (told:n_) (f:Y_) (cs:Z_) (r q0 q2:Nat),AU P 19 (n0 P kv pa told f cs r q0 q2 2)=some []
 n1b:∀(kv:n_) (pa:f_) (told:n_) (f:Y_) (cs:Z_) (r q0 q2:Nat),DW (run P 19 (n0 P kv pa told f cs r q0 q2 2))=(56,.code (R21 P)::T21 P,Qh r,.run,.normal,none,cs)
 n1c:∀(kv:n_) (pa:f_) (told:n_) (f:Y_) (cs:Z_) (r q0 q2:Nat),Yr (run P 19 (n0 P kv pa told f cs r q0 q2 2)) [0,1,7,8]=[kv,pv pa,told,pr r]
 n1d:∀(kv:n_) (pa:f_) (told:n_) (f:Y_) (cs:Z_) (r q0 q2:Nat),(run P 19 (n0 P kv pa told f cs r q0 q2 2)).1.tmps.size=76
 w1a:∀(told:n_) (f:Y_) (cs:Z_) (r:Nat),AU P 13 (f56 (A8 f [(7,told),(59,.bool true)]) cs (T16 P) (Qh r))=some []
 w1b:∀(told:n_) (f:Y_) (cs:Z_) (r:Nat),(w1 P told f cs r).1=(sR P [] r).1
 w1c:∀(told:n_) (f:Y_) (cs:Z_) (r:Nat),(w1 P told f cs r).2=(below (w1 P told f cs r)).1::cs
 w1d:∀(told:n_) (f:Y_) (cs:Z_) (r:Nat),DW (below (w1 P told f cs r))=(56,cg7 P,[],.returning,.normal,none,cs)
 w1e:∀(told:n_) (f:Y_) (cs:Z_) (r:Nat),Yr (below (w1 P told f cs r)) [6]=[told]
 w1f:∀(told:n_) (f:Y_) (cs:Z_) (r:Nat),(below (w1 P told f cs r)).1.tmps.size=76
 w2a:∀(kv:n_) (pa:f_) (told:n_) (f:Y_) (cs:Z_) (r q0 q2:Nat),AU P 32 (n0 P kv pa told f cs r q0 q2 0)=some []
 w2b:∀(kv:n_) (pa:f_) (told:n_) (f:Y_) (cs:Z_) (r q0 q2:Nat),(w2 P kv pa told f cs r q0 q2).1=(sR P [] r).1
 w2c:∀(kv:n_) (pa:f_) (told:n_) (f:Y_) (cs:Z_) (r q0 q2:Nat),(w2 P kv pa told f cs r q0 q2).2=(below (w2 P kv pa told f cs r q0 q2)).1::cs
 w2d:∀(kv:n_) (pa:f_) (told:n_) (f:Y_) (cs:Z_) (r q0 q2:Nat),DW (below (w2 P kv pa told f cs r q0 q2))=(56,cg6 P,[],.returning,.normal,none,cs)
 w2e:∀(kv:n_) (pa:f_) (told:n_) (f:Y_) (cs:Z_) (r q0 q2:Nat),Yr (below (w2 P kv pa told f cs r q0 q2)) [6]=[told]
 w2f:∀(kv:n_) (pa:f_) (told:n_) (f:Y_) (cs:Z_) (r q0 q2:Nat),(below (w2 P kv pa told f cs r q0 q2)).1.tmps.size=76
 w3a:∀(told:n_) (f:Y_) (cs:Z_) (r:Nat),AU P 12 (f56 (A8 f [(7,told)]) cs (T21 P) (Qh r))=some []
 w3b:∀(told:n_) (f:Y_) (cs:Z_) (r:Nat),(w3 P told f cs r).1=(sR P [] r).1
 w3c:∀(told:n_) (f:Y_) (cs:Z_) (r:Nat),(w3 P told f cs r).2=(below (w3 P told f cs r)).1::cs
 w3d:∀(told:n_) (f:Y_) (cs:Z_) (r:Nat),DW (below (w3 P told f cs r))=(56,cg5 P,[],.returning,.normal,none,cs)
 w3e:∀(told:n_) (f:Y_) (cs:Z_) (r:Nat),Yr (below (w3 P told f cs r)) [6]=[told]
 w3f:∀(told:n_) (f:Y_) (cs:Z_) (r:Nat),(below (w3 P told f cs r)).1.tmps.size=76
 sRf:∀(Y:Z_) (r:Nat),sR P Y r=((sR P [] r).1,Y)
 sRa:∀(Y:Z_) (r q3:Nat),DX P (sR P Y r) (DV q3)=some ([(S_ r 3)],DV q3)
 sCa:∀(Y:Z_) (r q3:Nat),Yz P (sC P Y r q3)=some q3
 sCw:∀(Y:Z_) (r q3:Nat),mayWake P (BJ (sC P Y r q3))=true
 sDa:∀(Y:Z_) (r q3:Nat),AU P 6 (sD P Y r q3)=some []
 sDb:∀(Y:Z_) (r q3:Nat),run P 6 (sD P Y r q3)=wS P r (c94 P Y r q3::Y)
 end_:∀(f:Y_) (td:List Item) (told:n_) (c:Frame) (cs:Z_) (r q3:Nat),DY P (some (257,6)) 4 ((c94 P (Β (A8 f [(6,told)]) td::c::cs) r q3).finish (.tuple #[]),Β (A8 f [(6,told)]) td::c::cs)=some ([],(c.finish told,cs))
theorem ϊ:UL prog:=by
 constructor<;>intros<;>kernel_rfl
def xq (kv:n_) (pa:f_) (told:n_) (r bA:Nat):List (Nat×n_):=[(0,kv),(1,pv pa),(7,told),(8,pr r),(10,pr bA)]
section
variable (P:l_) (kv:n_) (pa:f_) (told A:n_) (f g:Y_) (cs:Z_) (r q1 bA bB:Nat)
def R12:Code:=ϵ (run P 2 (f56 (A8 u0 [(39,.bool true)]) [] (T11 P) []))
def T12:List Item:=ϰ (run P 2 (f56 (A8 u0 [(39,.bool true)]) [] (T11 P) []))
def x13:=run P 3 (f56 (A8 f (xq kv pa told r bA)) cs (T12 P) (Qh r))
def x14:=run P 2 (BG (x13 P kv pa told f cs r bA) A)
def Y13:=(x14 P kv pa told A f cs r bA).2
def vB:=BG (xs P g (Y13 P kv pa told A f cs r bA) r q1 bB A) (commResult (jK q1 A) .send 0 undef false)
def w4:=run P 16 (vB P kv pa told A f g cs r q1 bA bB)
def bs6:List Item:=(below (w4 P (pr 0) zL CY qj u0 u0 [] 0 0 0 0)).1.todo
end
structure mF (P:l_):Prop where
 y3:∀(f:Y_) (cs:Z_) (r:Nat),DY P (some (257,6)) 2 (f56 (A8 f [(39,.bool true)]) cs (T11 P) (Qh r))=some ([],f56 (A8 f [(39,.bool true)]) cs (.code (R12 P)::T12 P) (Qh r))
 a13:∀(kv:n_) (pa:f_) (told:n_) (f:Y_) (cs:Z_) (r bA:Nat),AU P 3 (f56 (A8 f (xq kv pa told r bA)) cs (T12 P) (Qh r))=some []
 b13:∀(kv:n_) (pa:f_) (told:n_) (f:Y_) (cs:Z_) (r bA:Nat) (s0 s1 s2:n_),Hz P (x13 P kv pa told f cs r bA) [s0,s1,s2]=some ([(R_ bA),(S_ bA 1),(S_ bA 2)],.agg #[s0,s1,s2])
 a14:∀(kv:n_) (pa:f_) (told:n_) (f:Y_) (cs:Z_) (r bA:Nat) (A:n_),AU P 2 (BG (x13 P kv pa told f cs r bA) A)=some []
 b14:∀(kv:n_) (pa:f_) (told:n_) (f:Y_) (cs:Z_) (r bA:Nat) (A:n_),DW (x14 P kv pa told A f cs r bA)=(97,.code (A0 P)::V97 P,[],.run,.normal,none,Y13 P kv pa told A f cs r bA)
 c14:∀(kv:n_) (pa:f_) (told:n_) (f:Y_) (cs:Z_) (r bA:Nat) (A:n_),Yr (x14 P kv pa told A f cs r bA) [0,1]=[pr r,A]
 d14:∀(kv:n_) (pa:f_) (told:n_) (f:Y_) (cs:Z_) (r bA:Nat) (A:n_),(x14 P kv pa told A f cs r bA).1.tmps.size=9
 w4a:∀(kv:n_) (pa:f_) (told:n_) (f g:Y_) (cs:Z_) (r q1 bA bB:Nat) (A:n_),AU P 16 (vB P kv pa told A f g cs r q1 bA bB)=some []
 w4b:∀(kv:n_) (pa:f_) (told:n_) (f g:Y_) (cs:Z_) (r q1 bA bB:Nat) (A:n_),(w4 P kv pa told A f g cs r q1 bA bB).1=(sR P [] r).1
 w4c:∀(kv:n_) (pa:f_) (told:n_) (f g:Y_) (cs:Z_) (r q1 bA bB:Nat) (A:n_),(w4 P kv pa told A f g cs r q1 bA bB).2=(below (w4 P kv pa told A f g cs r q1 bA bB)).1::cs
 w4d:∀(kv:n_) (pa:f_) (told:n_) (f g:Y_) (cs:Z_) (r q1 bA bB:Nat) (A:n_),DW (below (w4 P kv pa told A f g cs r q1 bA bB))=(56,bs6 P,[],.returning,.normal,none,cs)
 w4e:∀(kv:n_) (pa:f_) (told:n_) (f g:Y_) (cs:Z_) (r q1 bA bB:Nat) (A:n_),Yr (below (w4 P kv pa told A f g cs r q1 bA bB)) [6]=[told]
 w4f:∀(kv:n_) (pa:f_) (told:n_) (f g:Y_) (cs:Z_) (r q1 bA bB:Nat) (A:n_),(below (w4 P kv pa told A f g cs r q1 bA bB)).1.tmps.size=76
theorem ϥ:mF prog:=by
 constructor<;>intros<;>kernel_rfl
end Go.Fxa
