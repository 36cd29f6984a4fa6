/- The token goes from one to the -/
import Derived.Test.YtmhplpfpcnjekaaGreatA11
import Derived.Conc.TokenWalk
open Go.Proofs.Tryz
namespace Go.Fxa
open Go.Conc
open Go.ConcN (sumTo upd sumTo_upd upd_ne upd_same)
section
variable {P:l_} {Z:Nat->Prop} {Ac Still:Loc->Prop} {Mem:Nat->Prop} {h j:Nat} {gs:Array m_} {w:o_} {sl:d_ (W_)} {t:Trace} {K K1:o_->Prop} {TT:Trace->Prop} {cJ cH cN:Array CommCase} {VP XC shN:CommShape} {kh kj c k:Nat} {v z zj:n_} {a gS:m_} {home:m_->Prop} {J:o_->Prop}
structure Gives (P:l_) (Z:Nat->Prop) (Ac Still:Loc->Prop) (Mem:Nat->Prop) (h j:Nat) (K K1:o_->Prop) (TT:Trace->Prop) (cJ cH:Array CommCase) (kh kj c:Nat) (v z zj:n_):Prop where
 leans:QP Z Still K1
 weak:∀w,K1 w->K w
 lasts:YD Ac Still j TT
 meets:V4 Z cH cJ kh kj c v z zj
 uw:Mem h
 uu:Mem j
 opens:∀w,K1 w->∀(m:Nat) cc,m≠kh->cH[m]?=some cc->FY w cc
 keeps:∀w d k,K1 w->K1 ((w.at d).setChan c 0 #[] false k k false)
theorem Holds.give {Od:Old} (M:Gives P Z Ac Still Mem h j K K1 TT cJ cH kh kj c v z zj) (hoN:∀w,K1 w->∀cc∈cN,FY w cc) (Bi:a.status=.running) (Ip:∀w,stepG P (h==0) a w=.comm a cH true XC w #[])
  (hwalk:Gs P (h==0) K Still cN shN home k (Conc.served a (commResult cH XC kh undef false)))
  (H:Holds Od P Z Ac Still Mem (λg=>g=j) h j (NT P (j==0) K K1 TT Still cJ VP (·=gS)) (λg v=>g=a/\J v) gs w t):
  AA P gs w sl t (Holds Od P Z Ac Still Mem (λg=>g=h) j h (NT P (h==0) K K1 TT Still cN shN home) (λg v'=>g=Conc.served gS (commResult cJ VP kj v true)/\J v')):=by
 obtain⟨q,n,B,g,v0,m,⟨rfl,o⟩,T,A,D⟩:=H;obtain⟨b,U,p⟩:=D.idle;have C:K1 w:=p.1.1;refine(WB (Ai:=λg=>g=j) M.leans M.weak M.lasts M.meets M.uw M.uu rfl (es:=#[]) (n+sumTo gs.size q+1) n gs g w sl t q B (by omega) m Bi D (M.opens w C) (λd=>Ip (w.at d)) (by simp)).bind λQ Y S X R E=>?_
 obtain⟨O,y,d,e,m1,m2,m3,V,W,rfl,I,L,N,u,_⟩:=E;have s:Z c:=by
  obtain⟨F,z',x,r⟩:=M.meets.hrj _ (Array.mem_of_getElem? M.meets.hkj)
  have:c=F:=by simp[rcase]at x;exact x.1
  rw[this];exact r
 have off:BZ Z w ((w.at d).setChan c 0 #[] false (e+1) (e+1) false):=Lu s w d (e+1) false;have f:K1 ((w.at d).setChan c 0 #[] false (e+1) (e+1) false):=M.keeps w d (e+1) C;refine .now ⟨O,k+1,B,_,v0,m2,⟨by rw[m3],o⟩,T.off A off,A,⟨D.ne.symm,D.zero.symm,λg l=>(D.mem g l).symm,⟨_,m1,⟨f,u⟩,hoN _ f,.inr ⟨k,rfl,rfl,hwalk⟩⟩,λi g m o G=>I i g o m G,L,N.loosen (λg l=>(l.2 l.1).elim),?_⟩⟩;rw[Jd];exact D.size
end
def JG (P:l_) (x:Frame×Z_) (vs:U_):d_ (List f_×n_):=match opAt x with
 |some o=>match (execOp x.1.eval o).feed P vs with
  |some (l,.value y)=>if(P.funcs[x.1.fn]?).any (·.norace)then none else some (l,y)
  |_=>none
 |none=>none
theorem nK {P:l_} {main:Bool} {x:Frame×Z_} {vs:U_} {aU:List f_} {y:n_} {w:o_} (h:JG P x vs=some (aU,y)) (hc:Cells w aU vs):stepG P main (BD x) w=.go (BD (BB x y)) w (Il aU):=by
 unfold JG at h;split at h
 .rename_i o b;split at h
  .rename_i l d a;split at h
   .cases h
   .rename_i c;simp only[Option.some.injEq,Prod.mk.injEq]at h;obtain⟨rfl,rfl⟩:=h;exact rP b a hc (by simpa using c)
  .cases h
 .cases h
theorem Xt {Od:Old} {Z:Nat->Prop} {v w:o_} (T:Twin Od Z v w):∀{aU:List f_} {vs:U_},Cells v aU vs->Cells w aU vs/\∀a∈aU,¬Z a.block/\a.block<w.heap.size
 |[],_,_=>⟨trivial,by simp⟩
 |a::aU,[],h=>h.elim
 |a::aU,v0::vs,h=>by
  obtain⟨e,f⟩:=h
  obtain⟨d,c2,c3,_⟩:=T.cell e
  obtain⟨d1,d2⟩:=Xt T f
  refine⟨⟨d,d1⟩,λb c=>?_⟩
  obtain rfl|c:=r_.1 c
  .exact⟨c2,c3⟩
  .exact d2 b c
def Sl (x:Frame×Z_):d_ (Nat×Array Oper×List Item):=match x.1.roundOf,x.1.mode,x.1.todo with
 |none,.run,.code (.region id ops true)::k=>some (id,ops,k)
 |_,_,_=>none
def ordered (x:Frame×Z_) (ops:Array Oper) (k:List Item) (l:List Nat):Frame×Z_:=({ x.1 with todo:=.inRegion ops l::k },x.2)
def F7 (ops:Array Oper) (listed:Array Bool):List Nat:=(List.range ops.size).filter λi=>!listed.getD i true && ((ops[i]?).map (·.after.all λe=>!Region.binds .any e || listed.getD e.on false)).getD false
def PL (ops:Array Oper):Nat->Array Bool->List (List Nat)
 |0,_=>[[]]
 |fuel+1,listed=>if(F7 ops listed).isEmpty then[[]]else(F7 ops listed).flatMap λi=>(PL ops fuel (listed.setIfInBounds i true)).map (i::·)
theorem sG (ops:Array Oper):∀(fuel t:Nat) (listed:Array Bool) (acc:List Nat),∃l∈PL ops fuel listed,Region.linearise.go .any ops fuel t listed acc=acc.reverse++l
 |0,t,listed,acc=>⟨[],by simp[PL],by simp[Region.linearise.go]⟩
 |fuel+1,t,listed,acc=>by
  have d:Region.linearise.go .any ops (fuel+1) t listed acc=match (F7 ops listed)[t % (F7 ops listed).length]? with
   |some i=>Region.linearise.go .any ops fuel (t / (F7 ops listed).length) (listed.setIfInBounds i true) (i::acc)
   |none=>acc.reverse:=rfl
  rw[d]
  cases hi:(F7 ops listed)[t % (F7 ops listed).length]? with
  |some i=>
   obtain⟨l,f,e⟩:=sG ops fuel (t / (F7 ops listed).length) (listed.setIfInBounds i true) (i::acc)
   refine⟨i::l,?_,by simp only;rw[e];simp⟩
   have b:=t_ hi
   have c:(F7 ops listed).isEmpty=false:=by
    cases hrs:F7 ops listed with
    |nil=>rw[hrs]at b;cases b
    |cons=>rfl
   simp only[PL,c,Bool.false_eq_true,if_false]
   exact List.mem_flatMap.2 ⟨i,b,List.mem_map.2 ⟨l,f,rfl⟩⟩
  |none=>
   have g:F7 ops listed=[]:=by
    rw[List.getElem?_eq_none_iff]at hi
    cases hrs:F7 ops listed with
    |nil=>rfl
    |cons a l=>
     rw[hrs]at hi
     have:=Nat.mod_lt t (show 0<(a::l).length by simp)
     omega
   refine⟨[],?_,by simp⟩
   simp[PL,g]
theorem aj {P:l_} (hm:P.follows .mixedOrders=true) (ops:Array Oper) (t:Nat):Region.schedule (P.follows .mixedOrders) ops t∈PL ops ops.size (Array.replicate ops.size false):=by
 rw[hm];obtain⟨l,a,e⟩:=sG ops ops.size t (Array.replicate ops.size false) [];have:Region.schedule true ops t=l:=by
  simp only[Region.schedule,Bool.true_or,if_true,Region.linearise]
  rw[e];simp
 rw[this];exact a
theorem vX {P:l_} {main:Bool} {x:Frame×Z_} {id:Nat} {ops:Array Oper} {k:List Item} (h:Sl x=some (id,ops,k)) (w:o_):
  stepG P main (BD x) w=.go (BD (ordered x ops k (Region.schedule (P.follows .mixedOrders) ops (w.tape w.drawn (.order x.1.fn id))))) { w with drawn:=w.drawn+1 } #[]:=by
 obtain⟨⟨fn,b,c,e,a,kind,f⟩,d⟩:=x;unfold Sl at h;simp only at h;split at h
 .simp only[Option.some.injEq,Prod.mk.injEq]at h;obtain⟨rfl,rfl,rfl⟩:=h;simp[BD,ordered,G,stepG,stepG.exec,choose,Sem.run,Question.forced,Question.cut]
 .cases h
def goesAt (P:l_) (x:Frame×Z_):d_ Deferred:=match opAt x with
 |some o=>match (execOp x.1.eval o).I9 P with
  |some (.spawn ⟨.fn (.func f) c,ar⟩)=>some ⟨.fn (.func f) c,ar⟩
  |_=>none
 |none=>none
theorem ni {P:l_} {main:Bool} {x:Frame×Z_} {d:Deferred} (h:goesAt P x=some d) (w:o_):
  stepG P main (BD x) w=.spawn (BD (BB x undef)) (BD ({ (default:Frame)with fn:=P.funcs.size,defers:=[d],mode:=.panicking [goexitEntry] },[])) w #[]:=by
 unfold goesAt at h;split at h
 .rename_i o b;split at h
  .rename_i f c e a;obtain rfl:=x_ h;obtain⟨e1,e2⟩:=PU (P:=P) (main:=main) (w:=w) b;show stepG P main (G x.1 x.2) w=_;rw[e1];simp only[stepG.apply,Je a w #[],if_true,GStep.after,Array.append_empty,e2,Bool.false_eq_true,if_false,seen_none,Bool.and_false,Bool.false_and]
   rfl
  .cases h
 .cases h
def WH (P:l_) (x:Frame×Z_):d_ Nat:=match x.1.roundOf,x.1.mode,x.1.kind==CallKind.early,x.1.todo with
 |none,.run,false,.inRegion ops (i::_)::_=>match ops[i]? with
  |some o=>if Region.wanted o (yielded ops x.1.tmps)then match o.op with
   |.call { callee:=.builtin .close,args:=ar,argTypes:=_ }=>match ar.toList with
    |[y]=>match x.1.eval y with
     |.chan (some c)=>if(P.funcs[x.1.fn]?).any (·.norace)then none else some c
     |_=>none
    |_=>none
   |_=>none
   else none
  |none=>none
 |_,_,_,_=>none
theorem Xo {P:l_} {main:Bool} {x:Frame×Z_} {c:Nat} (h:WH P x=some c) {w:o_} {cap s r:Nat} {buf:X_} {tm:Bool} (hc:w.heap[c]?=some (.chan cap buf false s r tm)):
  stepG P main (BD x) w=.go (BD (BB x (.tuple #[]))) (w.setChan c cap buf true s r tm) (closeEvents c):=by
 obtain⟨⟨fn,d,t,f,p,kind,H⟩,G⟩:=x;unfold WH at h;simp only at h;split at h
 .rename_i j i q l E;split at h
  .rename_i o m;split at h
   .rename_i D;split at h
    .rename_i v z u;split at h
     .rename_i y k;have g:v=#[y]:=(by apply Array.ext';simpa using k);subst g;split at h
      .rename_i F n;split at h
       .cases h
       rename_i C;obtain rfl:=x_ h;have A:kind≠.early:=λe=>by subst e;simp at E
       have B:(Frame.mk fn d (.inRegion j (i::q)::l) f .run kind none).eval=(Act.mk d f).eval:=Frame.eval_at' (Frame.mk fn d [] f .run kind none) ⟨d,f⟩ (.inRegion j (i::q)::l);rw[B]at n;refine(stepG_close (b:=Frame.mk fn d [] f .run kind none) (a:=⟨d,f⟩) (kk:=l) m D A u n hc (by simpa using C)).trans ?_;unfold BB Act.put Frame.at Frame.finish BD;simp only[m,Option.bind_some];cases o.dst<;>rfl
      .cases h
     .cases h
    .cases h
   .cases h
  .cases h
 .cases h
section
variable {P:l_} {Z:Nat->Prop} {Ac Still:Loc->Prop} {Mem Ai:Nat->Prop} {h j:Nat} {By:Nat->m_->o_->Trace->Prop} {gs:Array m_} {w:o_} {sl:d_ (W_)} {t:Trace} {J:o_->Prop}
theorem Holds.reads {Od:Old} (hu:FT Ac Z) (O:Gp P Z Ac Still (fun B t=>PX Ac Still Mem Ai B h t) j By) {x:Frame×Z_} {vs:U_} {aU:List f_} {y:n_} (hr:JG P x vs=some (aU,y)) (hc:∀v,J v->Cells v aU vs)
  (H:Holds Od P Z Ac Still Mem Ai h j By (λg v=>g=BD x/\J v) gs w t):AA P gs w sl t (Holds Od P Z Ac Still Mem Ai h j By (λg v=>g=BD (BB x y)/\J v)):=by
 obtain⟨q,n,B,g,v,C,⟨rfl,s⟩,T,i,D⟩:=H;refine go_duo (Ko:=Mem) (Loose':=Ai) O C rfl D D.mem λc E w1 o M U W I u K d=>?_
 have r:Twin Od Z v (w1.at d):=(T.off i I).off i (BZ.at w1 d);obtain⟨k,l⟩:=Xt r (hc v s);have p:∀e∈Il aU,Yr Ac Still c e:=λe z=>by
  simp only[Il,List.mem_toArray,List.mem_map]at z
  obtain⟨a,F,rfl⟩:=z
  obtain⟨z1,Q⟩:=l a F
  refine⟨λb G=>?_,by simp,by simp,Nat.lt_of_lt_of_le Q o,by simp⟩
  obtain rfl:=x_ G
  exact⟨λ_=>⟨rfl,λm=>z1 (hu.1 _ m)⟩,λm=>(z1 (hu.1 _ m)).elim⟩
 refine⟨_,_,_,c,nK hr k,w_ _,o,K.own p,By,M,?_,λR N L V f A S=>.now ⟨N,L,c,_,v,f,⟨rfl,s⟩,r,i,A⟩⟩;rw[woken_of_again (O.again u (w1.at d) (λ_ _=>rfl))];exact O.calm (w1.at d) _ u (λ_ _=>rfl) (E8 D.ne p)
theorem Holds.draws {Od:Old} (hm:P.follows .mixedOrders=true) (O:Gp P Z Ac Still (fun B t=>PX Ac Still Mem Ai B h t) j By) {x:Frame×Z_} {id:Nat} {ops:Array Oper} {k:List Item} {L:List (List Nat)} (hd:Sl x=some (id,ops,k)) (hL:PL ops ops.size (Array.replicate ops.size false)=L)
  (H:Holds Od P Z Ac Still Mem Ai h j By (λg v=>g=BD x/\J v) gs w t):AA P gs w sl t (Holds Od P Z Ac Still Mem Ai h j By (λg v=>(∃l∈L,g=BD (ordered x ops k l))/\J v)):=by
 obtain⟨q,n,B,g,v,m,⟨rfl,o⟩,T,c,D⟩:=H;refine go_duo (Ko:=Mem) (Loose':=Ai) O m rfl D D.mem λa p w1 f y E G r e s d=>?_
 refine⟨_,w1.at (d+1),#[],a,vX hd _,w_ _,f,s.own (by simp),By,y,?_,λA z u F b i C=>.now ⟨z,u,a,_,v,b,⟨⟨_,by rw[<-hL];exact aj hm ops _,rfl⟩,o⟩,(T.off c r).off c (BZ.at w1 (d+1)),c,i⟩⟩;rw[woken_of_again (O.again e (w1.at (d+1)) (λ_ _=>rfl))];exact O.calm (w1.at (d+1)) _ e (λ_ _=>rfl) (E8 D.ne (B:=a) (by simp))
end
end Go.Fxa
namespace Go.Fxa
open Go.Conc
structure zO (P:l_) (N:Fence) (m:Nat) (r:Nat) (sv:n_) (n:Int) (I:Int->o_->Prop) (Cd:Int->n_->o_->Prop) (Bd:o_->Prop):Prop where
 wp:∀i v f,I i v->0<=i->i<n->∀τ d,(Vk P).wpIn N m P (λe a w'=>e=.normal/\a.defers=[]/\∃f' oc x,a.tmps=qy (AL f' (sl6 r sv n i oc x))/\((oc=0/\I (i+1) w')\/(oc=1/\Cd i x w')\/(oc=2/\Bd w'))) ⟨qy (AL f (sl4 r sv n i)),[]⟩ (v.re τ d)
 tI:∀i,CY (I i)
 tC:∀i x,CY (Cd i x)
 tB:CY Bd
def bm8 (P:l_) (r q0 q2 q3:Nat) (sv:n_) (n lo:Int) (Y:Z_) (I:Int->o_->Prop) (Cd:Int->n_->o_->Prop) (Bd:o_->Prop) (g:m_) (v:o_):Prop:=
 (∃i f x,lo<=i/\i<n/\g=BD (k3 P q0 q3 (AL f (sl6 r sv n i 1 x)) Y)/\Cd i x v)\/(∃i f x,g=BD (e3 P q2 q3 (AL f (sl6 r sv n i 2 x)) Y)/\Bd v)\/(∃f,g=BD (d3 P q2 q3 (AL f (sl4 r sv n n)) Y)/\I n v)
section
variable {P:l_} {L:h_->Prop} {p:h_->Oper->Bool} {N:Fence} {m:Nat} {Z:Nat->Prop} {Ac Still:Loc->Prop} {Mem Ai:Nat->Prop} {c:Nat} {By:Nat->m_->o_->Trace->Prop} {K:o_->Prop} {b5 b2 b3 r q0 q1 q2 q3:Nat} {sv:n_} {n:Int} {I:Int->o_->Prop} {Cd:Int->n_->o_->Prop} {Bd:o_->Prop} {Y:Z_} {yE:h_}
theorem pO {Od:Old} (F:Eb P b5 b2 b3 r q0 q1 q2 q3 sv n) (R:Rf K Still b5 b2 b3 r q0 q1 q2 q3 sv n) (S:zO P N m r sv n I Cd Bd) (hn:n<=1000) (FN:Ul P L p N) (hu:FT Ac Z) (bs1:FT Still Z)
  (hJ:∀n b w t,By n b w t->∀d,K (w.at d)) (BI:∀w a,K w->Still (.cell a)->a.block<w.heap.size) (hSS:∀l,Still l->¬Ac l) (O:Gp P Z Ac Still (λB t=>PX Ac Still Mem Ai B c t) 0 By)
  (hf:YE L N yE) (hq:∀es,seen P 136 es=seen P yE es) (hc2:(Vk P).Bf (p yE)=true) {lo:Int} (hlo:0<=lo):
  ∀(k:Nat) (i:Int) (f:Y_) (gs:Array m_) (w:o_) (sl:d_ (W_)) (t:Trace),(n-i).toNat<=k->lo<=i->i<=n->
  Holds Od P Z Ac Still Mem Ai c 0 By (λg v=>g=BD (LH P (AL f (sl4 r sv n i)) Y)/\I i v) gs w t->AA P gs w sl t (Holds Od P Z Ac Still Mem Ai c 0 By (bm8 P r q0 q2 q3 sv n lo Y I Cd Bd)):=by
 intro k
 induction k with
 |zero=>
  intro i f gs w sl t hk h0 E H
  obtain rfl:i=n:=by omega
  refine(H.walk (sl:=sl) hJ BI hSS O (Vg F R f Y (by omega))).mono λA w' X o=>o.mono λg v ⟨s,j⟩=>.inr (.inr ⟨f,s,j⟩)
 |succ k ih=>
  intro i f gs w sl t hk h0 E H
  by_cases D:i<n
  .obtain⟨f1,G⟩:=pM (main:=c==0) (K:=K) (Still:=Still) F f Y D;refine(H.walk (sl:=sl) hJ BI hSS O G).bind λgs1 w1 Jg t1 _ H1=>?_
   refine(Holds.piece (sl:=Jg) FN hu bs1 O hf hq rfl hc2 (λe a w h=>⟨.inl h.1,h.2.1⟩) (λv j=>S.wp i v f1 j (by omega) D) H1).bind λgs2 w2 u t2 _ H2=>?_
   obtain⟨q,V,B,g,v,M,⟨tm,τ,d,hb⟩,Q,T,U⟩:=H2;obtain⟨rfl,_,_,y,oc,x,ht,h⟩|⟨todo,_,he,_⟩:=hb
   .simp only at ht;subst ht;obtain⟨rfl,h⟩|⟨rfl,h⟩|⟨rfl,h⟩:=h
    .obtain⟨f2,z⟩:=ϝ (main:=c==0) (K:=K) (Still:=Still) F y Y i x;have e:IntKind.i64.wrap (i+1)=i+1:=(by simp[IntKind.wrap,IntKind.bits,IntKind.signed];omega);rw[e]at z;refine(Holds.walk (sl:=u) (J:=I (i+1)) hJ BI hSS O ⟨q,V,B,_,v,M,⟨rfl,(S.tI _).back h⟩,Q,T,U⟩ z).bind λC w3 W t3 _ H3=>?_
     exact ih (i+1) f2 C w3 W t3 (by omega) (by omega) (by omega) H3
    .refine(Holds.walk (sl:=u) (J:=Cd i x) hJ BI hSS O ⟨q,V,B,_,v,M,⟨rfl,(S.tC _ _).back h⟩,Q,T,U⟩ (iW F R y Y i x)).mono λA w' X o=>o.mono λg v ⟨s,j⟩=>.inl ⟨i,y,x,h0,D,s,j⟩
    .refine(Holds.walk (sl:=u) (J:=Bd) hJ BI hSS O ⟨q,V,B,_,v,M,⟨rfl,S.tB.back h⟩,Q,T,U⟩ (wF F R y Y i x)).mono λA w' X o=>o.mono λg v ⟨s,j⟩=>.inr (.inl ⟨i,y,x,s,j⟩)
   .cases he
  .obtain rfl:i=n:=(by omega);refine(H.walk (sl:=sl) hJ BI hSS O (Vg F R f Y (by omega))).mono λA w' X o=>o.mono λg v ⟨s,j⟩=>.inr (.inr ⟨f,s,j⟩)
end
end Go.Fxa
namespace Go.Fxa
open Go.Conc Go.Proofs
def TN (n:Nat) (f:Y_):X_:=((List.range n).map f).toArray
theorem Wi {T:X_} {n:Nat} (h:T.size=n):T=TN n λi=>T.getD i undef:=by
 apply Array.ext
 .simp[TN,h]
 .intro i a b;simp[TN,Array.getD,a]
theorem at_toldN {x:Frame×Z_} {fn:h_} {todo:List Item} {ds:List Deferred} {kd:CallKind} {Y:Z_} {l:List (Nat×n_)} {n:Nat} (h:CU x=(fn,todo,ds,.run,kd,none,Y)) (hs:slotsOf x (l.map (·.1))=l.map (·.2)) (hz:x.1.tmps.size=n):
  x=(Frame.mk fn (TN n (AL (slot x) l)) todo ds .run kd none,Y):=by
 rw[Ur hs];obtain⟨⟨a,b,c,d,e,f,g⟩,y⟩:=x;simp only[CU,Prod.mk.injEq]at h;obtain⟨rfl,rfl,rfl,rfl,rfl,rfl,rfl⟩:=h;simp only[Prod.mk.injEq,Frame.mk.injEq,and_true,true_and];exact Wi hz
section
variable (P:l_) (r q0 q1 q3:Nat) (sv:n_) (n i:Int) (w A:n_) (f g:Y_) (Y:Z_) (td:List Item)
def a0:=BB (m3 P q0 q1 q3 w f Y) (commResult (Gl q1 q3) .select 0 A true)
def a1:=run P 6 (a0 P q0 q1 q3 w A f Y)
def XT:Code:=match (a1 P 0 0 0 (a_ 0) jG (AL u0 (sl6 0 (pr 0) 0 0 1 (a_ 0))) []).1.todo with
 |.code c::_=>c
 |_=>.skip
def am2:List Item:=(a1 P 0 0 0 (a_ 0) jG (AL u0 (sl6 0 (pr 0) 0 0 1 (a_ 0))) []).1.todo.tail
def YA:=(m3 P q0 q1 q3 w f Y).2
def slA:List (Nat×n_):=[(1,sv),(29,commResult (Gl q1 q3) .select 0 A true)]
def a2:Frame×Z_:=(Frame.mk 187 (TN 49 (AL g [(6,.bool true)])) td [] .returning .normal none,YA P q0 q1 q3 w f Y)
end
structure Tn (P:l_) (r q0 q1 q3:Nat) (sv:n_) (n:Int):Prop where
 h1:∀(f:Y_) (Y:Z_) (i:Int) (w A:n_),Ar P 6 (a0 P q0 q1 q3 w A (AL f (sl6 r sv n i 1 w)) Y)=some []
 h2:∀(f:Y_) (Y:Z_) (i:Int) (w A:n_),CU (a1 P q0 q1 q3 w A (AL f (sl6 r sv n i 1 w)) Y)=(187,.code (XT P)::am2 P,[],.run,.normal,none,YA P q0 q1 q3 w (AL f (sl6 r sv n i 1 w)) Y)
 h3:∀(f:Y_) (Y:Z_) (i:Int) (w A:n_),slotsOf (a1 P q0 q1 q3 w A (AL f (sl6 r sv n i 1 w)) Y) [1,29]=[sv,commResult (Gl q1 q3) .select 0 A true]
 h4:∀(f:Y_) (Y:Z_) (i:Int) (w A:n_),(a1 P q0 q1 q3 w A (AL f (sl6 r sv n i 1 w)) Y).1.tmps.size=49
 j1:∀(f g:Y_) (Y:Z_) (td:List Item) (i:Int) (w:n_),Ar P 12 (a2 P q0 q1 q3 w (AL f (sl6 r sv n i 1 w)) g Y td)=some []
 j2:∀(f g:Y_) (Y:Z_) (td:List Item) (i:Int) (w:n_),CU (run P 12 (a2 P q0 q1 q3 w (AL f (sl6 r sv n i 1 w)) g Y td))=(136,Zm P,[],.run,.normal,none,Y)
 j3:∀(f g:Y_) (Y:Z_) (td:List Item) (i:Int) (w:n_),slotsOf (run P 12 (a2 P q0 q1 q3 w (AL f (sl6 r sv n i 1 w)) g Y td)) [0,1,8,9]=[pr r,sv,b_ n,b_ (IntKind.i64.wrap (i+1))]
 j4:∀(f g:Y_) (Y:Z_) (td:List Item) (i:Int) (w:n_),(run P 12 (a2 P q0 q1 q3 w (AL f (sl6 r sv n i 1 w)) g Y td)).1.tmps.size=32
section
variable {r q0 q1 q3:Nat} {sv:n_} {n:Int}
theorem wR:Tn prog r q0 q1 q3 sv n:=by
 constructor<;>intros<;>kernel_rfl
end
section
variable {P:l_} {K:o_->Prop} {Still:Loc->Prop} {main:Bool} {r q0 q1 q3:Nat} {sv:n_} {n:Int}
theorem XB (F:Tn P r q0 q1 q3 sv n) (f:Y_) (Y:Z_) (i:Int) (w A:n_):
  ∃f',RW P main K Still 6 (Conc.served (BD (m3 P q0 q1 q3 w (AL f (sl6 r sv n i 1 w)) Y)) (commResult (Gl q1 q3) .select 0 A true)) (BD (Frame.mk 187 (TN 49 (AL f' (slA q1 q3 sv A))) (.code (XT P)::am2 P) [] .run .normal none,YA P q0 q1 q3 w (AL f (sl6 r sv n i 1 w)) Y)):=by
 have h:RW P main K Still 6 (BD (a0 P q0 q1 q3 w A (AL f (sl6 r sv n i 1 w)) Y)) (BD (a1 P q0 q1 q3 w A (AL f (sl6 r sv n i 1 w)) Y)):=RW.Ar (F.h1 f Y i w A);have e:=at_toldN (l:=slA q1 q3 sv A) (F.h2 f Y i w A) (F.h3 f Y i w A) (F.h4 f Y i w A);refine⟨slot (a1 P q0 q1 q3 w A (AL f (sl6 r sv n i 1 w)) Y),?_⟩;rw[e]at h;exact h
theorem iZ (F:Tn P r q0 q1 q3 sv n) (f g:Y_) (Y:Z_) (td:List Item) (i:Int) (w:n_):
  ∃f',RW P main K Still 12 (BD (a2 P q0 q1 q3 w (AL f (sl6 r sv n i 1 w)) g Y td)) (BD (LH P (AL f' (sl4 r sv n (IntKind.i64.wrap (i+1)))) Y)):=by
 have h:=RW.Ar (main:=main) (K:=K) (Still:=Still) (F.j1 f g Y td i w);have e:=at_told (l:=sl4 r sv n (IntKind.i64.wrap (i+1))) (F.j2 f g Y td i w) (F.j3 f g Y td i w) (F.j4 f g Y td i w);refine⟨slot (run P 12 (a2 P q0 q1 q3 w (AL f (sl6 r sv n i 1 w)) g Y td)),?_⟩;rw[e]at h;exact h
end
theorem at_toldM {x:Frame×Z_} {fn:h_} {todo:List Item} {ds:List Deferred} {m:FrameMode} {kd:CallKind} {Y:Z_} {l:List (Nat×n_)} {n:Nat} (h:CU x=(fn,todo,ds,m,kd,none,Y)) (hs:slotsOf x (l.map (·.1))=l.map (·.2)) (hz:x.1.tmps.size=n):
  x=(Frame.mk fn (TN n (AL (slot x) l)) todo ds m kd none,Y):=by
 rw[Ur hs];obtain⟨⟨a,b,c,d,e,f,g⟩,y⟩:=x;simp only[CU,Prod.mk.injEq]at h;obtain⟨rfl,rfl,rfl,rfl,rfl,rfl,rfl⟩:=h;simp only[Prod.mk.injEq,Frame.mk.injEq,and_true,true_and];exact Wi hz
def xn (x:Frame×Z_):Code:=match x.1.todo with
 |.code c::_=>c
 |_=>.skip
def xg (x:Frame×Z_):List Item:=x.1.todo.tail
def below (x:Frame×Z_):Frame×Z_:=match x.2 with
 |c::cs=>(c,cs)
 |[]=>(default,[])
def pv (pa:f_):n_:=.pointer (some pa)
def CS:n_:=.slice none 0 0
def ui:f_:=(S_ 0)
def kZ (P:l_) (x:Frame×Z_):d_ (Array CommCase×CommShape):=match opAt x with
 |some o=>match (execOp x.1.eval o).I9 P with
  |some (.comm cs true sh)=>some (cs,sh)
  |_=>none
 |none=>none
theorem Y7 {P:l_} {main:Bool} {x:Frame×Z_} {cs:Array CommCase} {sh:CommShape} (h:kZ P x=some (cs,sh)) (w:o_):stepG P main (BD x) w=.comm (BD x) cs true sh w #[]:=by
 unfold kZ at h;split at h
 .rename_i o c;split at h
  .rename_i a d b;simp only[Option.some.injEq,Prod.mk.injEq]at h;obtain⟨rfl,rfl⟩:=h;exact tH c b
  .cases h
 .cases h
def jq (kv:n_) (pa:f_) (n:Int) (told:n_):List (Nat×n_):=[(0,kv),(1,pv pa),(2,b_ n),(7,told)]
def Ϯ (kv:n_) (pa:f_) (told:n_) (r:Nat):List (Nat×n_):=[(0,kv),(1,pv pa),(7,told),(8,pr r)]
def slX (kv:n_) (pa:f_) (told:n_) (r:Nat) (x:n_):List (Nat×n_):=[(0,kv),(1,pv pa),(7,told),(8,pr r),(9,x)]
def slF (kv:n_) (pa:f_) (told:n_) (r bA:Nat):List (Nat×n_):=[(0,kv),(1,pv pa),(7,told),(8,pr r),(10,pr bA),(59,.bool false)]
def uk (b2 b3 b5:Nat):List (Nat×n_):=[(2,pr b2),(3,pr b3),(5,pr b5)]
def xM (r:Nat) (A:n_) (bB:Nat):List (Nat×n_):=[(0,pr r),(1,A),(3,pr bB)]
def NZ (q0 q2:Nat):Array CommCase:=#[rcase q0 (a_ 0),rcase q2 (b_ 0)]
def bg (q1:Nat) (A:n_):Array CommCase:=#[scase q1 A (.tuple #[])]
def Pn (r:Nat):List Deferred:=[⟨.fn (.func 94) #[],#[pr r]⟩]
section
variable (P:l_) (kv:n_) (pa:f_) (n:Int) (told:n_) (f g:Y_) (cs Y:Z_) (b2 b3 b5 r q0 q1 q2 q3 bA bB:Nat) (x A:n_) (o:Int) (td:List Item)
def z0:Frame×Z_:=(Frame.enter P 56 #[kv,pv pa,b_ n] .normal,cs)
def z1:=run P 9 (z0 P kv pa n cs)
def R2:Code:=xn (z1 P (pr 0) ui 0 [])
def T2:List Item:=xg (z1 P (pr 0) ui 0 [])
def f56 (ds:List Deferred):Frame×Z_:=(Frame.mk 56 (TN 76 f) td ds .run .normal none,cs)
def R3:Code:=xn (run P 1 (f56 u0 [] (T2 P) []))
def T3:List Item:=xg (run P 1 (f56 u0 [] (T2 P) []))
def z5:=run P 8 (f56 (AL f (jq kv pa n told)) cs (T3 P) [])
def S0:Code:=xn (z5 P (pr 0) ui 0 CS u0 [])
def U0:List Item:=xg (z5 P (pr 0) ui 0 CS u0 [])
def Y4:=(z5 P kv pa n told f cs).2
def f93:Frame×Z_:=(Frame.mk 93 (TN 18 g) td [] .run .normal none,Y)
def S1:Code:=xn (run P 1 (f93 u0 [] (U0 P)))
def U1:List Item:=xg (run P 1 (f93 u0 [] (U0 P)))
def y3:=run P 2 (f93 (AL g (uk b2 b3 b5)) Y (U1 P))
def y4:=run P 3 (BB (y3 P g Y b2 b3 b5) (pr r))
def cA:Frame:=(below (y4 P g Y b2 b3 b5 r)).1
def y5:Frame×Z_:=((cA P g Y b2 b3 b5 r).finish (.tuple #[]),Y)
def y6:=run P 4 (y5 P g Y b2 b3 b5 r)
def y7:=run P 3 (BB (y6 P g Y b2 b3 b5 r) undef)
def y8:=run P 28 (BB (y7 P g (Y4 P kv pa n told f cs) b2 b3 b5 r) (pr r))
def y9:=run P 17 (BB (y8 P kv pa n told f g cs b2 b3 b5 r) (DI q0))
def y10:=run P 7 (BB (y9 P kv pa n told f g cs b2 b3 b5 r q0) (DI q2))
def qG:List Item:=(y10 P (pr 0) ui 0 CS u0 u0 [] 0 0 0 0 0 0).1.todo
def kS:Frame×Z_:=f56 f cs (qG P) (Pn r)
def x0:=BB (kS P (AL f (Ϯ kv pa told r)) cs r) (commResult (NZ q0 q2) .select 0 x true)
def x1:=run P 12 (x0 P kv pa told f cs r q0 q2 x)
def R10:Code:=xn (x1 P (pr 0) ui CS u0 [] 0 0 0 (a_ 0))
def T10:List Item:=xg (x1 P (pr 0) ui CS u0 [] 0 0 0 (a_ 0))
def R11:Code:=xn (run P 2 (f56 u0 [] (T10 P) []))
def T11:List Item:=xg (run P 2 (f56 u0 [] (T10 P) []))
def R15:Code:=xn (run P 3 (f56 (AL u0 [(39,.bool false)]) [] (T11 P) []))
def T15:List Item:=xg (run P 3 (f56 (AL u0 [(39,.bool false)]) [] (T11 P) []))
def R16:Code:=xn (run P 2 (f56 u0 [] (T15 P) []))
def Ϫ:List Item:=xg (run P 2 (f56 u0 [] (T15 P) []))
def x18:=run P 4 (f56 (AL f (slF kv pa told r bA)) cs (Ϫ P) (Pn r))
def x19:=run P 2 (BB (x18 P kv pa told f cs r bA) A)
def A0:Code:=xn (x19 P (pr 0) ui CS u0 [] 0 0 jG)
def V97:List Item:=xg (x19 P (pr 0) ui CS u0 [] 0 0 jG)
def Y18:=(x19 P kv pa told f cs r bA A).2
def f97:Frame×Z_:=(Frame.mk 97 (TN 9 g) td [] .run .normal none,Y)
def Yu:Array Oper:=match Sl (f97 u0 [] (V97 P))with
 |some (_,ops,_)=>ops
 |none=>#[]
def Vw (l:List Nat):Frame×Z_:=ordered (f97 (AL g (xM r A bB)) Y (V97 P)) (Yu P) [] l
def xs:Frame×Z_:=(Frame.mk 97 (TN 9 (AL g [(0,pr r),(1,A),(3,pr bB),(4,pr r),(5,pr r),(6,.pointer (some (T_ r 1))),(7,DI q1),(8,A)])) [.inRegion (Yu P) [5]] [] .run .normal none,Y)
def v0:=BB (xs P g (Y18 P kv pa told f cs r bA A) r q1 bB A) (commResult (bg q1 A) .send 0 undef false)
def v1:=run P 22 (v0 P kv pa told f g cs r q1 bA bB A)
def v2:=run P 17 (BB (v1 P kv pa told f g cs r q1 bA bB A) (DI q0))
def v3:=run P 7 (BB (v2 P kv pa told f g cs r q0 q1 bA bB A) (DI q2))
def n0:=BB (kS P (AL f (Ϯ kv pa told r)) cs r) (commResult (NZ q0 q2) .select 1 (b_ o) true)
def Ϻ:Code:=xn (run P 19 (n0 P (pr 0) ui CS u0 [] 0 0 0 2))
def T21:List Item:=xg (run P 19 (n0 P (pr 0) ui CS u0 [] 0 0 0 2))
def w1:=run P 13 (f56 (AL f [(7,told),(59,.bool true)]) cs (Ϫ P) (Pn r))
def w2:=run P 32 (n0 P kv pa told f cs r q0 q2 0)
def w3:=run P 12 (f56 (AL f [(7,told)]) cs (T21 P) (Pn r))
def uz:Frame:=Frame.mk 56 (TN 76 f) td [] .returning .normal none
def bo6:List Item:=(below (w1 P CS u0 [] 0)).1.todo
def bo5:List Item:=(below (w2 P (pr 0) ui CS u0 [] 0 0 0)).1.todo
def bo4:List Item:=(below (w3 P CS u0 [] 0)).1.todo
def sR:=run P 5 (Frame.enter P 94 #[pr r] .deferred,Y)
def sC:=BB (sR P Y r) (DI q3)
def sD:=BB (sC P Y r q3) (.tuple #[])
def c94:Frame:=(below (run P 6 (sD P Y r q3))).1
end
structure Tm (P:l_):Prop where
 z1a:∀(kv:n_) (pa:f_) (n:Int) (cs:Z_),Ar P 9 (z0 P kv pa n cs)=some []
 z1b:∀(kv:n_) (pa:f_) (n:Int) (cs:Z_),CU (z1 P kv pa n cs)=(56,.code (R2 P)::T2 P,[],.run,.normal,none,cs)
 z1c:∀(kv:n_) (pa:f_) (n:Int) (cs:Z_),slotsOf (z1 P kv pa n cs) [0,1,2,7]=[kv,pv pa,b_ n,CS]
 z1d:∀(kv:n_) (pa:f_) (n:Int) (cs:Z_),(z1 P kv pa n cs).1.tmps.size=76
 z3:∀(f:Y_) (cs:Z_),DR P (some (257,6)) 1 (f56 f cs (T2 P) [])=some ([],f56 f cs (.code (R3 P)::T3 P) [])
 z5a:∀(kv:n_) (pa:f_) (n:Int) (told:n_) (f:Y_) (cs:Z_),Ar P 8 (f56 (AL f (jq kv pa n told)) cs (T3 P) [])=some []
 z5b:∀(kv:n_) (pa:f_) (n:Int) (told:n_) (f:Y_) (cs:Z_),CU (z5 P kv pa n told f cs)=(93,.code (S0 P)::U0 P,[],.run,.normal,none,Y4 P kv pa n told f cs)
 z5c:∀(kv:n_) (pa:f_) (n:Int) (told:n_) (f:Y_) (cs:Z_),slotsOf (z5 P kv pa n told f cs) [0,1]=[.pointer (some (pa.add 5)),b_ n]
 z5d:∀(kv:n_) (pa:f_) (n:Int) (told:n_) (f:Y_) (cs:Z_),(z5 P kv pa n told f cs).1.tmps.size=18
 y1:∀(g:Y_) (Y:Z_),DR P (some (257,6)) 1 (f93 g Y (U0 P))=some ([],f93 g Y (.code (S1 P)::U1 P))
 y3a:∀(g:Y_) (Y:Z_) (b2 b3 b5:Nat),Ar P 2 (f93 (AL g (uk b2 b3 b5)) Y (U1 P))=some []
 y3b:∀(g:Y_) (Y:Z_) (b2 b3 b5 r:Nat),DL P (y3 P g Y b2 b3 b5) (pr r)=some ([(S_ b5)],pr r)
 y4a:∀(g:Y_) (Y:Z_) (b2 b3 b5 r:Nat),Ar P 3 (BB (y3 P g Y b2 b3 b5) (pr r))=some []
 y4b:∀(g:Y_) (Y:Z_) (b2 b3 b5 r:Nat),y4 P g Y b2 b3 b5 r=aS P r (cA P g Y b2 b3 b5 r::Y)
 y6a:∀(g:Y_) (Y:Z_) (b2 b3 b5 r:Nat),Ar P 4 (y5 P g Y b2 b3 b5 r)=some []
 y6b:∀(g:Y_) (Y:Z_) (b2 b3 b5 r:Nat),goesAt P (y6 P g Y b2 b3 b5 r)=some ⟨.fn (.func 134) #[pr b5,pr b2,pr b3],#[]⟩
 y7a:∀(g:Y_) (Y:Z_) (b2 b3 b5 r:Nat),Ar P 3 (BB (y6 P g Y b2 b3 b5 r) undef)=some []
 y7b:∀(g:Y_) (Y:Z_) (b2 b3 b5 r:Nat),DL P (y7 P g Y b2 b3 b5 r) (pr r)=some ([(S_ b5)],pr r)
 y8a:∀(kv:n_) (pa:f_) (n:Int) (told:n_) (f g:Y_) (cs:Z_) (b2 b3 b5 r:Nat),Ar P 28 (BB (y7 P g (Y4 P kv pa n told f cs) b2 b3 b5 r) (pr r))=some []
 y8b:∀(kv:n_) (pa:f_) (n:Int) (told:n_) (f g:Y_) (cs:Z_) (b2 b3 b5 r q0:Nat),DL P (y8 P kv pa n told f g cs b2 b3 b5 r) (DI q0)=some ([(S_ r)],DI q0)
 y9a:∀(kv:n_) (pa:f_) (n:Int) (told:n_) (f g:Y_) (cs:Z_) (b2 b3 b5 r q0:Nat),Ar P 17 (BB (y8 P kv pa n told f g cs b2 b3 b5 r) (DI q0))=some []
 y9b:∀(kv:n_) (pa:f_) (n:Int) (told:n_) (f g:Y_) (cs:Z_) (b2 b3 b5 r q0 q2:Nat),DL P (y9 P kv pa n told f g cs b2 b3 b5 r q0) (DI q2)=some ([(T_ r 2)],DI q2)
 bn6:∀(kv:n_) (pa:f_) (n:Int) (told:n_) (f g:Y_) (cs:Z_) (b2 b3 b5 r q0 q2:Nat),Ar P 7 (BB (y9 P kv pa n told f g cs b2 b3 b5 r q0) (DI q2))=some []
 bn5:∀(kv:n_) (pa:f_) (n:Int) (told:n_) (f g:Y_) (cs:Z_) (b2 b3 b5 r q0 q2:Nat),CU (y10 P kv pa n told f g cs b2 b3 b5 r q0 q2)=(56,qG P,Pn r,.run,.normal,none,cs)
 bn4:∀(kv:n_) (pa:f_) (n:Int) (told:n_) (f g:Y_) (cs:Z_) (b2 b3 b5 r q0 q2:Nat),slotsOf (y10 P kv pa n told f g cs b2 b3 b5 r q0 q2) [0,1,7,8,25,27]=[kv,pv pa,told,pr r,DI q0,DI q2]
 bn3:∀(kv:n_) (pa:f_) (n:Int) (told:n_) (f g:Y_) (cs:Z_) (b2 b3 b5 r q0 q2:Nat),(y10 P kv pa n told f g cs b2 b3 b5 r q0 q2).1.tmps.size=76
 k1:∀(f:Y_) (cs:Z_) (r q0 q2:Nat),Nr P (kS P (AL f [(25,DI q0),(27,DI q2)]) cs r)=some (NZ q0 q2)
 x1a:∀(kv:n_) (pa:f_) (told:n_) (f:Y_) (cs:Z_) (r q0 q2:Nat) (x:n_),Ar P 12 (x0 P kv pa told f cs r q0 q2 x)=some []
 x1b:∀(kv:n_) (pa:f_) (told:n_) (f:Y_) (cs:Z_) (r q0 q2:Nat) (x:n_),CU (x1 P kv pa told f cs r q0 q2 x)=(56,.code (R10 P)::T10 P,Pn r,.run,.normal,none,cs)
 x1c:∀(kv:n_) (pa:f_) (told:n_) (f:Y_) (cs:Z_) (r q0 q2:Nat) (x:n_),slotsOf (x1 P kv pa told f cs r q0 q2 x) [0,1,7,8,9]=[kv,pv pa,told,pr r,x]
 x1d:∀(kv:n_) (pa:f_) (told:n_) (f:Y_) (cs:Z_) (r q0 q2:Nat) (x:n_),(x1 P kv pa told f cs r q0 q2 x).1.tmps.size=76
 x2:∀(f:Y_) (cs:Z_) (r:Nat),DR P (some (257,6)) 2 (f56 f cs (T10 P) (Pn r))=some ([],f56 f cs (.code (R11 P)::T11 P) (Pn r))
 x3:∀(f:Y_) (cs:Z_) (r:Nat),DR P (some (257,6)) 3 (f56 (AL f [(39,.bool false)]) cs (T11 P) (Pn r))=some ([],f56 (AL f [(39,.bool false)]) cs (.code (R15 P)::T15 P) (Pn r))
 x4:∀(f:Y_) (cs:Z_) (r:Nat),DR P (some (257,6)) 2 (f56 f cs (T15 P) (Pn r))=some ([],f56 f cs (.code (R16 P)::Ϫ P) (Pn r))
 bo2:∀(kv:n_) (pa:f_) (told:n_) (f:Y_) (cs:Z_) (r bA:Nat),Ar P 4 (f56 (AL f (slF kv pa told r bA)) cs (Ϫ P) (Pn r))=some []
 bo1:∀(kv:n_) (pa:f_) (told:n_) (f:Y_) (cs:Z_) (r bA:Nat) (s0 s1 s2:n_),JG P (x18 P kv pa told f cs r bA) [s0,s1,s2]=some ([(S_ bA),(T_ bA 1),(T_ bA 2)],.agg #[s0,s1,s2])
 bo0:∀(kv:n_) (pa:f_) (told:n_) (f:Y_) (cs:Z_) (r bA:Nat) (A:n_),Ar P 2 (BB (x18 P kv pa told f cs r bA) A)=some []
 bn9:∀(kv:n_) (pa:f_) (told:n_) (f:Y_) (cs:Z_) (r bA:Nat) (A:n_),CU (x19 P kv pa told f cs r bA A)=(97,.code (A0 P)::V97 P,[],.run,.normal,none,Y18 P kv pa told f cs r bA A)
 bn8:∀(kv:n_) (pa:f_) (told:n_) (f:Y_) (cs:Z_) (r bA:Nat) (A:n_),slotsOf (x19 P kv pa told f cs r bA A) [0,1]=[pr r,A]
 bn7:∀(kv:n_) (pa:f_) (told:n_) (f:Y_) (cs:Z_) (r bA:Nat) (A:n_),(x19 P kv pa told f cs r bA A).1.tmps.size=9
 dr:∀(g:Y_) (Y:Z_),Sl (f97 g Y (V97 P))=some (1,Yu P,[])
 dl:PL (Yu P) (Yu P).size (Array.replicate (Yu P).size false)=[[0,1,2,3,4,5],[0,1,2,4,3,5],[0,1,4,2,3,5],[0,4,1,2,3,5],[4,0,1,2,3,5]]
 l1a:∀(g:Y_) (Y:Z_) (r bB:Nat) (A:n_),Ar P 3 (Vw P g Y r bB A [0,1,2,3,4,5])=some []
 l1b:∀(g:Y_) (Y:Z_) (r bB q1:Nat) (A:n_),DL P (run P 3 (Vw P g Y r bB A [0,1,2,3,4,5])) (DI q1)=some ([(T_ r 1)],DI q1)
 l1c:∀(g:Y_) (Y:Z_) (r bB q1:Nat) (A:n_) (s0 s1 s2:n_),JG P (BB (run P 3 (Vw P g Y r bB A [0,1,2,3,4,5])) (DI q1)) [s0,s1,s2]=some ([(S_ bB),(T_ bB 1),(T_ bB 2)],.agg #[s0,s1,s2])
 l1d:∀(g:Y_) (Y:Z_) (r bB q1:Nat) (A:n_),BB (BB (run P 3 (Vw P g Y r bB A [0,1,2,3,4,5])) (DI q1)) A=xs P g Y r q1 bB A
 l2a:∀(g:Y_) (Y:Z_) (r bB:Nat) (A:n_),Ar P 3 (Vw P g Y r bB A [0,1,2,4,3,5])=some []
 l2b:∀(g:Y_) (Y:Z_) (r bB:Nat) (A:n_) (s0 s1 s2:n_),JG P (run P 3 (Vw P g Y r bB A [0,1,2,4,3,5])) [s0,s1,s2]=some ([(S_ bB),(T_ bB 1),(T_ bB 2)],.agg #[s0,s1,s2])
 l2c:∀(g:Y_) (Y:Z_) (r bB q1:Nat) (A:n_),DL P (BB (run P 3 (Vw P g Y r bB A [0,1,2,4,3,5])) A) (DI q1)=some ([(T_ r 1)],DI q1)
 l2d:∀(g:Y_) (Y:Z_) (r bB q1:Nat) (A:n_),BB (BB (run P 3 (Vw P g Y r bB A [0,1,2,4,3,5])) A) (DI q1)=xs P g Y r q1 bB A
 l3a:∀(g:Y_) (Y:Z_) (r bB:Nat) (A:n_),Ar P 2 (Vw P g Y r bB A [0,1,4,2,3,5])=some []
 l3b:∀(g:Y_) (Y:Z_) (r bB:Nat) (A:n_) (s0 s1 s2:n_),JG P (run P 2 (Vw P g Y r bB A [0,1,4,2,3,5])) [s0,s1,s2]=some ([(S_ bB),(T_ bB 1),(T_ bB 2)],.agg #[s0,s1,s2])
 l3c:∀(g:Y_) (Y:Z_) (r bB:Nat) (A:n_),Ar P 1 (BB (run P 2 (Vw P g Y r bB A [0,1,4,2,3,5])) A)=some []
 l3d:∀(g:Y_) (Y:Z_) (r bB q1:Nat) (A:n_),DL P (run P 1 (BB (run P 2 (Vw P g Y r bB A [0,1,4,2,3,5])) A)) (DI q1)=some ([(T_ r 1)],DI q1)
 l3e:∀(g:Y_) (Y:Z_) (r bB q1:Nat) (A:n_),BB (run P 1 (BB (run P 2 (Vw P g Y r bB A [0,1,4,2,3,5])) A)) (DI q1)=xs P g Y r q1 bB A
 l4a:∀(g:Y_) (Y:Z_) (r bB:Nat) (A:n_),Ar P 1 (Vw P g Y r bB A [0,4,1,2,3,5])=some []
 l4b:∀(g:Y_) (Y:Z_) (r bB:Nat) (A:n_) (s0 s1 s2:n_),JG P (run P 1 (Vw P g Y r bB A [0,4,1,2,3,5])) [s0,s1,s2]=some ([(S_ bB),(T_ bB 1),(T_ bB 2)],.agg #[s0,s1,s2])
 l4c:∀(g:Y_) (Y:Z_) (r bB:Nat) (A:n_),Ar P 2 (BB (run P 1 (Vw P g Y r bB A [0,4,1,2,3,5])) A)=some []
 l4d:∀(g:Y_) (Y:Z_) (r bB q1:Nat) (A:n_),DL P (run P 2 (BB (run P 1 (Vw P g Y r bB A [0,4,1,2,3,5])) A)) (DI q1)=some ([(T_ r 1)],DI q1)
 l4e:∀(g:Y_) (Y:Z_) (r bB q1:Nat) (A:n_),BB (run P 2 (BB (run P 1 (Vw P g Y r bB A [0,4,1,2,3,5])) A)) (DI q1)=xs P g Y r q1 bB A
 l5a:∀(g:Y_) (Y:Z_) (r bB:Nat) (A:n_),Ar P 0 (Vw P g Y r bB A [4,0,1,2,3,5])=some []
 l5b:∀(g:Y_) (Y:Z_) (r bB:Nat) (A:n_) (s0 s1 s2:n_),JG P (run P 0 (Vw P g Y r bB A [4,0,1,2,3,5])) [s0,s1,s2]=some ([(S_ bB),(T_ bB 1),(T_ bB 2)],.agg #[s0,s1,s2])
 l5c:∀(g:Y_) (Y:Z_) (r bB:Nat) (A:n_),Ar P 3 (BB (run P 0 (Vw P g Y r bB A [4,0,1,2,3,5])) A)=some []
 l5d:∀(g:Y_) (Y:Z_) (r bB q1:Nat) (A:n_),DL P (run P 3 (BB (run P 0 (Vw P g Y r bB A [4,0,1,2,3,5])) A)) (DI q1)=some ([(T_ r 1)],DI q1)
 l5e:∀(g:Y_) (Y:Z_) (r bB q1:Nat) (A:n_),BB (run P 3 (BB (run P 0 (Vw P g Y r bB A [4,0,1,2,3,5])) A)) (DI q1)=xs P g Y r q1 bB A
 xs:∀(g:Y_) (Y:Z_) (r bB q1:Nat) (A:n_),kZ P (xs P g Y r q1 bB A)=some (bg q1 A,.send)
 v1a:∀(kv:n_) (pa:f_) (told:n_) (f g:Y_) (cs:Z_) (r q1 bA bB:Nat) (A:n_),Ar P 22 (v0 P kv pa told f g cs r q1 bA bB A)=some []
 v1b:∀(kv:n_) (pa:f_) (told:n_) (f g:Y_) (cs:Z_) (r q0 q1 bA bB:Nat) (A:n_),DL P (v1 P kv pa told f g cs r q1 bA bB A) (DI q0)=some ([(S_ r)],DI q0)
 v2a:∀(kv:n_) (pa:f_) (told:n_) (f g:Y_) (cs:Z_) (r q0 q1 bA bB:Nat) (A:n_),Ar P 17 (BB (v1 P kv pa told f g cs r q1 bA bB A) (DI q0))=some []
 v2b:∀(kv:n_) (pa:f_) (told:n_) (f g:Y_) (cs:Z_) (r q0 q1 q2 bA bB:Nat) (A:n_),DL P (v2 P kv pa told f g cs r q0 q1 bA bB A) (DI q2)=some ([(T_ r 2)],DI q2)
 v3a:∀(kv:n_) (pa:f_) (told:n_) (f g:Y_) (cs:Z_) (r q0 q1 q2 bA bB:Nat) (A:n_),Ar P 7 (BB (v2 P kv pa told f g cs r q0 q1 bA bB A) (DI q2))=some []
 v3b:∀(kv:n_) (pa:f_) (told:n_) (f g:Y_) (cs:Z_) (r q0 q1 q2 bA bB:Nat) (A:n_),CU (v3 P kv pa told f g cs r q0 q1 q2 bA bB A)=(56,qG P,Pn r,.run,.normal,none,cs)
 v3c:∀(kv:n_) (pa:f_) (told:n_) (f g:Y_) (cs:Z_) (r q0 q1 q2 bA bB:Nat) (A:n_),slotsOf (v3 P kv pa told f g cs r q0 q1 q2 bA bB A) [0,1,7,8,25,27]=[kv,pv pa,told,pr r,DI q0,DI q2]
 v3d:∀(kv:n_) (pa:f_) (told:n_) (f g:Y_) (cs:Z_) (r q0 q1 q2 bA bB:Nat) (A:n_),(v3 P kv pa told f g cs r q0 q1 q2 bA bB A).1.tmps.size=76
 n1a:∀(kv:n_) (pa:f_) (told:n_) (f:Y_) (cs:Z_) (r q0 q2:Nat),Ar P 19 (n0 P kv pa told f cs r q0 q2 2)=some []
 n1b:∀(kv:n_) (pa:f_) (told:n_) (f:Y_) (cs:Z_) (r q0 q2:Nat),CU (run P 19 (n0 P kv pa told f cs r q0 q2 2))=(56,.code (Ϻ P)::T21 P,Pn r,.run,.normal,none,cs)
 n1c:∀(kv:n_) (pa:f_) (told:n_) (f:Y_) (cs:Z_) (r q0 q2:Nat),slotsOf (run P 19 (n0 P kv pa told f cs r q0 q2 2)) [0,1,7,8]=[kv,pv pa,told,pr r]
 n1d:∀(kv:n_) (pa:f_) (told:n_) (f:Y_) (cs:Z_) (r q0 q2:Nat),(run P 19 (n0 P kv pa told f cs r q0 q2 2)).1.tmps.size=76
 w1a:∀(told:n_) (f:Y_) (cs:Z_) (r:Nat),Ar P 13 (f56 (AL f [(7,told),(59,.bool true)]) cs (Ϫ P) (Pn r))=some []
 w1b:∀(told:n_) (f:Y_) (cs:Z_) (r:Nat),(w1 P told f cs r).1=(sR P [] r).1
 w1c:∀(told:n_) (f:Y_) (cs:Z_) (r:Nat),(w1 P told f cs r).2=(below (w1 P told f cs r)).1::cs
 w1d:∀(told:n_) (f:Y_) (cs:Z_) (r:Nat),CU (below (w1 P told f cs r))=(56,bo6 P,[],.returning,.normal,none,cs)
 w1e:∀(told:n_) (f:Y_) (cs:Z_) (r:Nat),slotsOf (below (w1 P told f cs r)) [6]=[told]
 w1f:∀(told:n_) (f:Y_) (cs:Z_) (r:Nat),(below (w1 P told f cs r)).1.tmps.size=76
 w2a:∀(kv:n_) (pa:f_) (told:n_) (f:Y_) (cs:Z_) (r q0 q2:Nat),Ar P 32 (n0 P kv pa told f cs r q0 q2 0)=some []
 w2b:∀(kv:n_) (pa:f_) (told:n_) (f:Y_) (cs:Z_) (r q0 q2:Nat),(w2 P kv pa told f cs r q0 q2).1=(sR P [] r).1
 w2c:∀(kv:n_) (pa:f_) (told:n_) (f:Y_) (cs:Z_) (r q0 q2:Nat),(w2 P kv pa told f cs r q0 q2).2=(below (w2 P kv pa told f cs r q0 q2)).1::cs
 w2d:∀(kv:n_) (pa:f_) (told:n_) (f:Y_) (cs:Z_) (r q0 q2:Nat),CU (below (w2 P kv pa told f cs r q0 q2))=(56,bo5 P,[],.returning,.normal,none,cs)
 w2e:∀(kv:n_) (pa:f_) (told:n_) (f:Y_) (cs:Z_) (r q0 q2:Nat),slotsOf (below (w2 P kv pa told f cs r q0 q2)) [6]=[told]
 w2f:∀(kv:n_) (pa:f_) (told:n_) (f:Y_) (cs:Z_) (r q0 q2:Nat),(below (w2 P kv pa told f cs r q0 q2)).1.tmps.size=76
 w3a:∀(told:n_) (f:Y_) (cs:Z_) (r:Nat),Ar P 12 (f56 (AL f [(7,told)]) cs (T21 P) (Pn r))=some []
 w3b:∀(told:n_) (f:Y_) (cs:Z_) (r:Nat),(w3 P told f cs r).1=(sR P [] r).1
 w3c:∀(told:n_) (f:Y_) (cs:Z_) (r:Nat),(w3 P told f cs r).2=(below (w3 P told f cs r)).1::cs
 w3d:∀(told:n_) (f:Y_) (cs:Z_) (r:Nat),CU (below (w3 P told f cs r))=(56,bo4 P,[],.returning,.normal,none,cs)
 w3e:∀(told:n_) (f:Y_) (cs:Z_) (r:Nat),slotsOf (below (w3 P told f cs r)) [6]=[told]
 w3f:∀(told:n_) (f:Y_) (cs:Z_) (r:Nat),(below (w3 P told f cs r)).1.tmps.size=76
 sRf:∀(Y:Z_) (r:Nat),sR P Y r=((sR P [] r).1,Y)
 sRa:∀(Y:Z_) (r q3:Nat),DL P (sR P Y r) (DI q3)=some ([(T_ r 3)],DI q3)
 sCa:∀(Y:Z_) (r q3:Nat),WH P (sC P Y r q3)=some q3
 sCw:∀(Y:Z_) (r q3:Nat),mayWake P (BD (sC P Y r q3))=true
 sDa:∀(Y:Z_) (r q3:Nat),Ar P 6 (sD P Y r q3)=some []
 sDb:∀(Y:Z_) (r q3:Nat),run P 6 (sD P Y r q3)=wS P r (c94 P Y r q3::Y)
 end_:∀(f:Y_) (td:List Item) (told:n_) (c:Frame) (cs:Z_) (r q3:Nat),DR P (some (257,6)) 4 ((c94 P (uz (AL f [(6,told)]) td::c::cs) r q3).finish (.tuple #[]),uz (AL f [(6,told)]) td::c::cs)=some ([],(c.finish told,cs))
theorem vI:Tm prog:=by
 constructor<;>intros<;>kernel_rfl
def qo (kv:n_) (pa:f_) (told:n_) (r bA:Nat):List (Nat×n_):=[(0,kv),(1,pv pa),(7,told),(8,pr r),(10,pr bA)]
section
variable (P:l_) (kv:n_) (pa:f_) (told A:n_) (f g:Y_) (cs:Z_) (r q1 bA bB:Nat)
def R12:Code:=xn (run P 2 (f56 (AL u0 [(39,.bool true)]) [] (T11 P) []))
def T12:List Item:=xg (run P 2 (f56 (AL u0 [(39,.bool true)]) [] (T11 P) []))
def x13:=run P 3 (f56 (AL f (qo kv pa told r bA)) cs (T12 P) (Pn r))
def x14:=run P 2 (BB (x13 P kv pa told f cs r bA) A)
def Y13:=(x14 P kv pa told A f cs r bA).2
def vB:=BB (xs P g (Y13 P kv pa told A f cs r bA) r q1 bB A) (commResult (bg q1 A) .send 0 undef false)
def w4:=run P 16 (vB P kv pa told A f g cs r q1 bA bB)
def ay3:List Item:=(below (w4 P (pr 0) ui CS jG u0 u0 [] 0 0 0 0)).1.todo
end
structure fO (P:l_):Prop where
 y3:∀(f:Y_) (cs:Z_) (r:Nat),DR P (some (257,6)) 2 (f56 (AL f [(39,.bool true)]) cs (T11 P) (Pn r))=some ([],f56 (AL f [(39,.bool true)]) cs (.code (R12 P)::T12 P) (Pn r))
 a13:∀(kv:n_) (pa:f_) (told:n_) (f:Y_) (cs:Z_) (r bA:Nat),Ar P 3 (f56 (AL f (qo kv pa told r bA)) cs (T12 P) (Pn r))=some []
 b13:∀(kv:n_) (pa:f_) (told:n_) (f:Y_) (cs:Z_) (r bA:Nat) (s0 s1 s2:n_),JG P (x13 P kv pa told f cs r bA) [s0,s1,s2]=some ([(S_ bA),(T_ bA 1),(T_ bA 2)],.agg #[s0,s1,s2])
 a14:∀(kv:n_) (pa:f_) (told:n_) (f:Y_) (cs:Z_) (r bA:Nat) (A:n_),Ar P 2 (BB (x13 P kv pa told f cs r bA) A)=some []
 b14:∀(kv:n_) (pa:f_) (told:n_) (f:Y_) (cs:Z_) (r bA:Nat) (A:n_),CU (x14 P kv pa told A f cs r bA)=(97,.code (A0 P)::V97 P,[],.run,.normal,none,Y13 P kv pa told A f cs r bA)
 c14:∀(kv:n_) (pa:f_) (told:n_) (f:Y_) (cs:Z_) (r bA:Nat) (A:n_),slotsOf (x14 P kv pa told A f cs r bA) [0,1]=[pr r,A]
 d14:∀(kv:n_) (pa:f_) (told:n_) (f:Y_) (cs:Z_) (r bA:Nat) (A:n_),(x14 P kv pa told A f cs r bA).1.tmps.size=9
 w4a:∀(kv:n_) (pa:f_) (told:n_) (f g:Y_) (cs:Z_) (r q1 bA bB:Nat) (A:n_),Ar P 16 (vB P kv pa told A f g cs r q1 bA bB)=some []
 w4b:∀(kv:n_) (pa:f_) (told:n_) (f g:Y_) (cs:Z_) (r q1 bA bB:Nat) (A:n_),(w4 P kv pa told A f g cs r q1 bA bB).1=(sR P [] r).1
 w4c:∀(kv:n_) (pa:f_) (told:n_) (f g:Y_) (cs:Z_) (r q1 bA bB:Nat) (A:n_),(w4 P kv pa told A f g cs r q1 bA bB).2=(below (w4 P kv pa told A f g cs r q1 bA bB)).1::cs
 w4d:∀(kv:n_) (pa:f_) (told:n_) (f g:Y_) (cs:Z_) (r q1 bA bB:Nat) (A:n_),CU (below (w4 P kv pa told A f g cs r q1 bA bB))=(56,ay3 P,[],.returning,.normal,none,cs)
 w4e:∀(kv:n_) (pa:f_) (told:n_) (f g:Y_) (cs:Z_) (r q1 bA bB:Nat) (A:n_),slotsOf (below (w4 P kv pa told A f g cs r q1 bA bB)) [6]=[told]
 w4f:∀(kv:n_) (pa:f_) (told:n_) (f g:Y_) (cs:Z_) (r q1 bA bB:Nat) (A:n_),(below (w4 P kv pa told A f g cs r q1 bA bB)).1.tmps.size=76
theorem wO:fO prog:=by
 constructor<;>intros<;>kernel_rfl
end Go.Fxa
