/- From 'on every t -/
import Derived.Test.YtmhplpfpcnjekaaGreatA02
import Derived.CallsIn
import Derived.Conc.Own4
import Derived.KernelRfl
namespace Go.Fxa
open Go.Conc
variable {fr:Frame}{v w v':o_}{cs:Z_}{es:Array Event}{N:Fence}{m:Machine}
structure Good (P:l_)(L:h_->Prop)(p:h_->Oper->Bool)(fr:Frame)(pre:Z_)(v:o_):Prop where
 ok:FQ P L p fr
 below:Below P L p fr pre
 mode:fr.mode=.run\/(fr.mode=.returning/\pre≠[])
 about:∀f,fr.about P v=some f->L f\/Ext P f
 plain:∀(r:Nat)(o:Obj),v.heap[r]?=some o->o.plain=true
def Ih (P:l_)(fr:Frame)(pre:Z_)(v:o_)(Ew:Frame)(C9:Z_)(v':o_):Prop:=
 ∃es,stepG P true (G fr pre) v=.go (G Ew C9) v' es/\∀ch,Ew.mode≠.panicking ch
def Ua (P:l_)(L:h_->Prop)(p:h_->Oper->Bool)(S:Frame->Z_->o_->Prop):Nat->Frame->Z_->o_->Prop
 |0,fr,pre,v=>S fr pre v
 |n+1,fr,pre,v=>S fr pre v\/(Good P L p fr pre v/\∃Ew C9 v',Ih P fr pre v Ew C9 v'/\Ua P L p S n Ew C9 v')
def zx (S:Frame->Z_->o_->Prop):Prop:=∀fr pre (v w:o_),w.heap=v.heap->w.os=v.os->w.output=v.output->S fr pre v->S fr pre w
def jd (P:l_)(L:h_->Prop)(p:h_->Oper->Bool)(S:Frame->Z_->o_->Prop)(fr:Frame)(pre:Z_)(v:o_):Prop:=
 ∀τ d,∃n,Ua P L p S n fr pre (v.re τ d)
def Fin (P:l_)(L:h_->Prop)(p:h_->Oper->Bool)(S:Frame->Z_->o_->Prop)(fr:Frame)(pre:Z_)(v:o_):Prop:=
 ∀C:Frame->Z_->o_->Prop,(∀fr pre v,S fr pre v->C fr pre v)->
  (∀fr pre v,(∀τ d,Good P L p fr pre (v.re τ d)/\∃Ew C9 v',Ih P fr pre (v.re τ d) Ew C9 v'/\C Ew C9 v')->C fr pre v)->C fr pre v
section
variable {P:l_}{L:h_->Prop}{p:h_->Oper->Bool}{S:Frame->Z_->o_->Prop}
theorem Ih.det {pre:Z_}{g lC:Frame}{f d:Z_}{v1 v2:o_}(h:Ih P fr pre v g f v1)(i:Ih P fr pre v lC d v2):
  g=lC/\f=d/\v1=v2:=by
 obtain⟨c,e,_⟩:=h;obtain⟨b,a,_⟩:=i;rw[e]at a;injection a with e1 e2 e3;simp only[G,Goroutine.mk.injEq]at e1;exact⟨e1.1,e1.2.1,e2⟩
theorem RJ (h:w.heap=v.heap)(b:w.os=v.os)(d:w.output=v.output)(c:∀(r:Nat)(o:Obj),v.heap[r]?=some o->o.plain=true):Yr ND (λ_=>False) v w:=
 @Yr.mk ND _ _ _ (by rw[h]) (λr _ _=>by rw[h]) (λ_ a=>a.elim) c b.symm d.symm (λ_ h=>False.elim h) (λ_ h=>False.elim h) (λ_ h=>False.elim h)
theorem jQ (T:Yr ND (λ_=>False) v w):w=v.re w.tape w.drawn:=by
 have c:w.heap=v.heap:=by
  apply Array.ext_getElem?
  intro i
  exact(T.same i id id).symm
 obtain⟨h,t,d,o,u⟩:=w;simp only[World.re];simp only at c;have a:=T.os;have b:=T.output;simp only at a b;rw[c,a,b]
theorem OH (F:QE P L p){pre:Z_}{Ew:Frame}{B:Z_}{τ τ':Nat->Question->Nat}{d d':Nat}(A:Good P L p fr pre (v.re τ d))(h:Ih P fr pre (v.re τ d) Ew B v')
  (C:∀j,j<v'.drawn-d->∀q,τ' (d'+j) q=τ (d+j) q):d<=v'.drawn/\v'.tape=τ/\Ih P fr pre (v.re τ' d') Ew B (v'.re τ' (d'+(v'.drawn-d))):=by
 obtain⟨g,o,b⟩:=h;obtain⟨y,c,z,e,t,u,x,_,i,k,r,f,_,l,m,s,n⟩:=Qc (Od:=ND) F (Z:=λ_=>False) (w:=v.re τ' d') A.ok A.below A.mode A.about (RJ rfl rfl rfl A.plain) (λ_ h=>h.elim) o b C;simp only[G,Goroutine.mk.injEq]at e;obtain⟨rfl,rfl,_⟩:=e;refine⟨i,k,g,?_,b⟩;have a:=n true [];rw[List.append_nil,List.append_nil]at a;rw[a,jQ f,l,m]
 rfl
theorem VI (E:FQ P L p fr)(D:fr.mode=.run\/fr.mode=.returning)(h:ER v w):fr.about P w=fr.about P v:=by
 obtain⟨fn,x,m,g,mode,kind,C⟩:=fr;obtain⟨y,z,j,A,r,s⟩:=E;simp only at y z j A r s D;subst r;obtain rfl|rfl:=D
 .cases m with
  |nil=>rfl
  |cons t k=>
   have q:=s t (List.mem_cons_self ..)
   cases t with
   |inRegion n l=>
    cases l with
    |nil=>rfl
    |cons i u=>
     cases ho:n[i]? with
     |none=>simp only[Frame.about,ho]
     |some o=>rw[NT ho,NT ho];exact rG h _ _
   |code c=>cases c<;>first|rfl|(simp[Item.EY,Code.AP]at q;done)
   |call a b c d=>simp[Item.EY]at q
   |_=>rfl
 .cases g with
  |nil=>rfl
  |cons d B=>
   obtain⟨f,cap,e,_⟩:=j d (List.mem_cons_self ..)
   simp only[Frame.about,Xl h]
theorem ZI (F:QE P L p)(x:zx S):∀(n:Nat){fr:Frame}{pre:Z_}{v w:o_},Ua P L p S n fr pre v->ER v w->Ua P L p S n fr pre w
 |0,_,_,_,_,h,f=>x _ _ _ _ f.heap f.os f.output h
 |n+1,fr,pre,v,w,h,f=>by
  obtain h|⟨i,r,o,g,s,t⟩:=h
  .exact .inl (x _ _ _ _ f.heap f.os f.output h)
  .refine .inr ⟨⟨i.ok,i.below,i.mode,?_,by rw[f.heap];exact i.plain⟩,?_⟩
   .rw[VI i.ok (i.mode.imp id (·.1)) f];exact i.about
   .have u:w=v.re w.tape w.drawn:=by
     obtain⟨a,b,c,d,e⟩:=w
     simp only[World.re]
     have q1:=f.heap
     have l:=f.os
     have m:=f.output
     simp only at q1 l m
     rw[q1,l,m]
    have k:v=v.re v.tape v.drawn:=rfl;obtain⟨k1,k2,k3⟩:=OH F (v:=v) (τ:=v.tape) (d:=v.drawn) (τ':=w.tape) (d':=w.drawn) (by rw[<-k];exact i) (by rw[<-k];exact s) (λj _ q=>f.alike j q);refine⟨r,o,g.re w.tape (w.drawn+(g.drawn-v.drawn)),by rw[u];exact k3,ZI F x n t ⟨rfl,rfl,rfl,λj q=>?_⟩⟩;show w.tape (w.drawn+(g.drawn-v.drawn)+j) q=g.tape (g.drawn+j) q;rw[k2,show w.drawn+(g.drawn-v.drawn)+j=w.drawn+((g.drawn-v.drawn)+j)from by omega,f.alike,show v.drawn+(g.drawn-v.drawn+j)=g.drawn+j from by omega]
theorem rF (F:QE P L p)(u:zx S){pre:Z_}(h:jd P L p S fr pre v)(x:¬S fr pre v)(τ:Nat->Question->Nat)(d:Nat):
  Good P L p fr pre (v.re τ d)/\∃Ew t v',Ih P fr pre (v.re τ d) Ew t v'/\jd P L p S Ew t v':=by
 have a:∀τ d,¬S fr pre (v.re τ d):=λτ d l=>x (u _ _ (v.re τ d) _ rfl rfl rfl l)
 have one:∀τ d,∃n,Good P L p fr pre (v.re τ d)/\∃Ew t v',Ih P fr pre (v.re τ d) Ew t v'/\Ua P L p S n Ew t v':=by
  intro τ d
  obtain⟨n,b⟩:=h τ d
  cases n with
  |zero=>exact(a τ d b).elim
  |succ n=>
   obtain b|b:=b
   .exact(a τ d b).elim
   .exact⟨n,b⟩
 obtain⟨n,e,Ew,t,v',c,m⟩:=one τ d;refine⟨e,Ew,t,v',c,λτ' d'=>?_⟩;have r:d<=v'.drawn:=(OH F e c (τ':=τ) (d':=d) (λ_ _ _=>rfl)).1;obtain⟨f,k,s,g,v2,k1,k2⟩:=one (λi q=>if i<v'.drawn then τ i q else τ' (d'+(i-v'.drawn)) q) d;obtain⟨_,_,k3⟩:=OH F e c (τ':=λi q=>if i<v'.drawn then τ i q else τ' (d'+(i-v'.drawn)) q) (d':=d) (λj o q=>by rw[rW wB]);obtain⟨rfl,rfl,rfl⟩:=k1.det k3;refine⟨f,ZI F u f k2 ⟨rfl,rfl,rfl,λj q=>?_⟩⟩;show τ' (d'+j) q=(if d+(v'.drawn-d)+j<v'.drawn then τ (d+(v'.drawn-d)+j) q else τ' (d'+(d+(v'.drawn-d)+j-v'.drawn)) q);rw[ru wB,show d'+(d+(v'.drawn-d)+j-v'.drawn)=d'+j from by omega]
theorem Ze {pre:Z_}(h:S fr pre v):Fin P L p S fr pre v:=λ_ a _=>a _ _ _ h
theorem av2 {pre:Z_}(h:∀τ d,Good P L p fr pre (v.re τ d)/\∃Ew f v',Ih P fr pre (v.re τ d) Ew f v'/\Fin P L p S Ew f v'):Fin P L p S fr pre v:=
 λC e c=>c _ _ _ λτ d=>⟨(h τ d).1,let ⟨Ew,f,v',a,b⟩:=(h τ d).2;⟨Ew,f,v',a,b C e c⟩⟩
theorem bu6 {α:Type}(x0:α)(R:α->α->Prop)(h:∀x,∃y,R x y):∃f:Nat->α,f 0=x0/\∀n,R (f n) (f (n+1)):=by
 obtain⟨g,a⟩:=Classical.axiomOfChoice h;exact⟨λn=>Nat.rec x0 (λ_ y=>g y) n,rfl,λn=>a _⟩
theorem yF (F:QE P L p)(hS:zx S){pre:Z_}(h:jd P L p S fr pre v):Fin P L p S fr pre v:=by
 refine Classical.byContradiction λt=>?_
 let E:={ x:Frame×Z_×o_ // jd P L p S x.1 x.2.1 x.2.2/\¬Fin P L p S x.1 x.2.1 x.2.2}
 have next:∀x:E,∃y:E,∃τ d,Good P L p x.1.1 x.1.2.1 (x.1.2.2.re τ d)/\Ih P x.1.1 x.1.2.1 (x.1.2.2.re τ d) y.1.1 y.1.2.1 y.1.2.2:=by
  rintro⟨⟨fr,pre,v⟩,V,hb⟩
  have N:¬S fr pre v:=λk=>hb (Ze k)
  refine Classical.byContradiction λM=>hb (av2 λτ d=>?_)
  obtain⟨s,C,A,R,r,w⟩:=rF F hS V N τ d
  refine⟨s,C,A,R,r,Classical.byContradiction λK=>M ⟨⟨(C,A,R),w,K⟩,τ,d,s,r⟩⟩
 obtain⟨f,Z,X⟩:=bu6 (α:=E) ⟨(fr,pre,v),h,t⟩ _ next
 obtain⟨m,O⟩:=Classical.axiomOfChoice X;obtain⟨o,W⟩:=Classical.axiomOfChoice O
 let D:Nat->Nat:=λi=>Nat.rec 0 (λi n=>n+((f (i+1)).1.2.2.drawn-o i)) i
 have D0:D 0=0:=rfl;have B:∀i,D (i+1)=D i+((f (i+1)).1.2.2.drawn-o i):=λ_=>rfl
 have T:∀i j,i<=j->D i<=D j:=by
  intro i j J
  induction J with
  |refl=>exact w_
  |step _ Q=>exact lN Q (by rw[Nat.succ_eq_add_one,B];omega)
 have U:∀n i j,D i<=n->n<D (i+1)->D j<=n->n<D (j+1)->i=j:=by
  intro n i j a b c e
  obtain u|u|u:=Nat.lt_trichotomy i j
  .have:=T (i+1) j u;omega
  .exact u
  .have:=T (j+1) i u;omega
 have tape:∃τ:Nat->Question->Nat,∀i j,j<(f (i+1)).1.2.2.drawn-o i->∀q,τ (D i+j) q=m i (o i+j) q:=by
  have pick:∀n:Nat,∃g:Question->Nat,∀i,D i<=n->n<D (i+1)->∀q,g q=m i (o i+(n-D i)) q:=by
   intro n
   by_cases z:∃i,D i<=n/\n<D (i+1)
   .obtain⟨i,H,I⟩:=z;refine⟨λq=>m i (o i+(n-D i)) q,λY a b q=>?_⟩;obtain rfl:=U n i Y H I a b
    rfl
   .exact⟨λ_=>0,λi a b=>(z ⟨i,a,b⟩).elim⟩
  obtain⟨g,s⟩:=Classical.axiomOfChoice pick;refine⟨g,λi j hj q=>?_⟩;rw[s (D i+j) i wB (by rw[B];omega) q,show D i+j-D i=j from by omega]
 obtain⟨τ,G⟩:=tape;have l:∀i,Ih P (f i).1.1 (f i).1.2.1 ((f i).1.2.2.re τ (D i)) (f (i+1)).1.1 (f (i+1)).1.2.1 ((f (i+1)).1.2.2.re τ (D (i+1))):=by
  intro i
  obtain⟨s,r⟩:=W i
  have:=(OH F s r (τ':=τ) (d':=D i) (G i)).2.2
  rw[B]
  exact this
 have never:∀n i,¬Ua P L p S n (f i).1.1 (f i).1.2.1 ((f i).1.2.2.re τ (D i)):=by
  intro n
  induction n with
  |zero=>exact λi k=>(f i).2.2 (Ze (hS _ _ ((f i).1.2.2.re τ (D i)) _ rfl rfl rfl k))
  |succ n Q=>
   intro i k
   obtain k|⟨_,C,A,R,r,w⟩:=k
   .exact(f i).2.2 (Ze (hS _ _ ((f i).1.2.2.re τ (D i)) _ rfl rfl rfl k))
   .obtain⟨e1,e2,e3⟩:=r.det (l i);rw[e1,e2,e3]at w;exact Q (i+1) w
 obtain⟨n,z⟩:=(f 0).2.1 τ (D 0);exact never n 0 z
end
section
variable {P:l_}{L:h_->Prop}{p:h_->Oper->Bool}
theorem F5 {g':m_}(h:stepG P true (G fr cs) v=.go g' v' es):
  step P (lone fr cs v)=.next { world:=v',gs:=#[g'],rest:={ timers:=#[],alone:=none,slice:=none} }:=by
 rw[step,stepT,move_lone];simp only[G]at h;simp[runT,lone,Array.swapAt!,h]
theorem Kr {o:Outcome}(h:stepG P true (G fr cs) v=.ended o v' es):
  step P (lone fr cs v)=.ended o v':=by
 rw[step,stepT,move_lone];simp only[G]at h;simp[runT,lone,Array.swapAt!,h]
theorem TJ {f:FuncId} {cap ar:Array Value} {h:Func} {cb:Code} (l:P.funcs[f]?=some h) (k:(h.name== "runtime.NumGoroutine")=false) (j:h.body=some cb) {pre:List Frame} {v:World} {ds:List Deferred}
  (i:fr.mode=.returning\/NK fr):stepG P true (G {fr with defers:=⟨.fn (.func f) cap,ar⟩::ds} pre) v=.go (G (Frame.enter P f (ar++cap) .deferred) ({fr with defers:=ds}::pre)) v #[]:=by
 have c:(invoke (.fn (.func f) cap) ar).runT P v #[]=(.ok (.enter f (ar++cap)) v,#[]):=by
  simp only[invoke,callFunc,program,bind,Sem.bind,Sem.runT,l,k,j,pure]
  rfl
 obtain⟨fn,e,g,defers,mode,kind,d⟩:=fr;obtain i|⟨a,b,i,_⟩:=i
 .simp only at i;subst i;simp only[G,stepG,unwind,callDeferred,c,GStep.after];simp[seen]
 .simp only at i;subst i;simp only[G,stepG,unwind,callDeferred,c,GStep.after];simp[seen]
theorem Zy (F:QE P L p){pre:Z_}(hg:Good P L p fr pre v):
  (∃o w es,stepG P true (G fr pre) v=.ended o w es)\/(∃Ew C9 v' es,stepG P true (G fr pre) v=.go (G Ew C9) v' es/\NK Ew/\FQ P L p Ew/\Below P L p Ew C9/\∀(r:Nat)(o:Obj),v'.heap[r]?=some o->o.plain=true)\/
  (∃g' v' es,stepG P true (G fr pre) v=.go g' v' es/\∀ch,g'.frame.mode≠.panicking ch):=by
 obtain⟨⟨O,h2,B,Q,h4,R⟩,Y,hm,H,K⟩:=hg;obtain⟨fn,tmps,A,j,mode,kind,N⟩:=fr;simp only at O h2 B Q h4 R hm;subst h4;have J:(kind==CallKind.early)=false:=by obtain rfl|rfl:=Q<;>rfl
 obtain rfl|⟨rfl,CX⟩:=hm
 .cases A with
  |nil=>exact .inr (.inr ⟨_,_,_,by simp[G,stepG,stepG.exec];exact⟨rfl,rfl,rfl⟩,λch=>sJ⟩)
  |cons it k=>
   have u:=R it (List.mem_cons_self ..)
   cases it with
   |inBlock id=>exact .inr (.inr ⟨_,_,_,by simp[G,stepG,stepG.exec];exact⟨rfl,rfl,rfl⟩,λch=>sJ⟩)
   |inLoop c=>exact .inr (.inr ⟨_,_,_,by simp[G,stepG,stepG.exec];exact⟨rfl,rfl,rfl⟩,λch=>sJ⟩)
   |inScope c=>simp[Item.EY]at u
   |inRangeFunc l=>simp[Item.EY]at u
   |endRangeFunc l=>simp[Item.EY]at u
   |beginRound=>simp[Item.EY]at u
   |call d a b c=>simp[Item.EY]at u
   |extern a b=>simp[Item.EY]at u
   |code c=>
    cases c with
    |rangeFunc f ps a b=>simp[Item.EY,Code.AP]at u
    |scope c=>simp[Item.EY,Code.AP]at u
    |goto l=>simp[Item.EY,Code.AP]at u
    |refuse s=>exact .inl ⟨_,_,_,by simp only[G,stepG,stepG.exec];rfl⟩
    |cond c a b=>
     cases hv:(Frame.mk fn tmps (.code (.cond c a b)::k) j .run kind none).eval c with
     |bool t=>exact .inr (.inr ⟨_,_,_,by simp[G,stepG,stepG.exec,hv];exact⟨rfl,rfl,rfl⟩,λch=>sJ⟩)
     |_=>exact .inl ⟨_,_,_,by simp only[G,stepG,stepG.exec,hv];rfl⟩
    |exit id=>
     cases hx:exitTo id k with
     |none=>exact .inl ⟨_,_,_,by simp only[G,stepG,stepG.exec,hx,Option.elim];rfl⟩
     |some k'=>exact .inr (.inr ⟨_,_,_,by simp[G,stepG,stepG.exec,hx];exact⟨rfl,rfl,rfl⟩,λch=>sJ⟩)
    |region id m D=>
     cases D with
     |false=>exact .inr (.inr ⟨_,_,_,by simp[G,stepG,stepG.exec];exact⟨rfl,rfl,rfl⟩,λch=>sJ⟩)
     |true=>exact .inr (.inr ⟨_,_,_,by simp[G,stepG,stepG.exec,choose,Sem.run,Question.forced,Question.cut];exact⟨rfl,rfl,rfl⟩,λch=>sJ⟩)
    |_=>exact .inr (.inr ⟨_,_,_,by simp[G,stepG,stepG.exec];exact⟨rfl,rfl,rfl⟩,λch=>sJ⟩)
   |inRegion m l=>
    cases l with
    |nil=>exact .inr (.inr ⟨_,_,_,by simp[G,stepG,stepG.exec];exact⟨rfl,rfl,rfl⟩,λch=>sJ⟩)
    |cons i q=>
     by_cases C:((m[i]?).map (Region.wanted · (yielded m tmps))).getD false=true
     .cases ho:m[i]? with
      |none=>rw[ho]at C;simp at C
      |some o=>
       have V:p fn o=true:=by
        simp only[Item.EY,Array.all_eq_true]at u
        obtain⟨BL,rfl⟩:=y_.1 ho
        exact u i BL
       rw[NT ho]at H
       have W:=F.op fn o V _ v K H
       rw[ho]at C
       have Jm:stepG P true (G (Frame.mk fn tmps (.inRegion m (i::q)::k) j .run kind none) pre) v=
         stepG.apply P true (Frame.mk fn tmps (.inRegion m (i::q)::k) j .run kind none) pre none (execOp (Frame.mk fn tmps (.inRegion m (i::q)::k) j .run kind none).eval o) v:=by
        simp only[Option.map_some,Option.getD_some]at C
        simp[G,stepG,stepG.exec,stepG.oper,Frame.oper?,ho,C]
       rw[Jm]
       cases Ia:(execOp (Frame.mk fn tmps (.inRegion m (i::q)::k) j .run kind none).eval o).runT P v #[]with
       |mk r Oa=>
        cases r with
        |ok n v1=>
         have hn:FC L (su fn) n:=by
          obtain⟨_,_,hK,_⟩:=UN (Od:=ND) (Z:=λ_=>False) W (v:=v) (w:=v) (RJ rfl rfl rfl K) (λ_ h=>h.elim) Ia (λ_ _ _=>rfl)
          exact hK
         refine .inr (.inr ?_)
         cases n<;>first|exact hn.elim|skip
         all_goals
          refine⟨_,_,_,by simp only[stepG.apply,Ia,if_true,GStep.after,kL,J,jb,if_false];rfl,λch=>?_⟩
          simp[Gz,Frame.enter]
        |halt U v1=>
         have hd:=jD W K Ia
         cases U with
         |panic x=>
          refine .inr (.inl ⟨(Frame.mk fn tmps (.inRegion m (i::q)::k) j .run kind none).raise [{ v:=x,recovered:=false}],pre,_,_,by simp only[stepG.apply,Ia,if_true,GStep.after,kL,J,jb,if_false];rfl,⟨_,_,rfl,rfl,rfl⟩,⟨O,h2,B,Q,rfl,R⟩,Y.GR rfl rfl,(W.LD K Ia).2⟩)
         |stuck x=>exact .inl ⟨_,_,_,by simp only[stepG.apply,Ia,if_true,GStep.after];rfl⟩
         |unsupported x=>
          cases x with
          |initOrder g=>simp[Halt.LD]at hd
          |_=>exact .inl ⟨_,_,_,by simp only[stepG.apply,Ia,if_true,GStep.after];rfl⟩
         |_=>simp[Halt.LD]at hd
     .have X:((m[i]?).map (Region.wanted · (yielded m tmps))).getD false=false:=(by simpa using C);exact .inr (.inr ⟨_,_,_,by simp[G,stepG,stepG.exec,X];exact⟨rfl,rfl,rfl⟩,λch=>by simp[Gz]⟩)
 .cases pre with
  |nil=>exact qx rfl CX
  |cons c pre=>
   obtain⟨E,z,_⟩:=O
   obtain⟨hc,I,T⟩:=Y
   simp only at I
   cases j with
   |cons d ds=>
    obtain⟨f,cap,M,hLf⟩:=B d (List.mem_cons_self ..)
    obtain⟨fnb,cb,JU,Iq,S,_⟩:=F.body f hLf
    obtain⟨tg,ar⟩:=d
    simp only at M
    subst M
    exact .inr (.inr ⟨_,_,_,TJ JU Iq S (fr:=Frame.mk fn tmps A [] .returning kind none) (pre:=c::pre) (v:=v) (ds:=ds) (cap:=cap) (ar:=ar) (.inl rfl),λch=>by simp[G,Frame.enter]⟩)
   |nil=>
    cases Ia:(results E tmps).runT P v #[]with
    |mk r Oa=>
     cases r with
     |ok x v1=>
      obtain⟨rfl,y⟩|⟨rfl,y|⟨⟨pv,rc,ge⟩,b,e,e1,e2⟩⟩:=I
      .exact .inr (.inr ⟨_,_,_,by simp only[G,stepG,unwind,z,Ia,doReturn,GStep.after,kL];rfl,λch=>by simp[Gz,y]⟩)
      .exact .inr (.inr ⟨G c pre,_,_,by simp only[G,stepG,unwind,z,Ia,doReturn,GStep.after,kL,y];rfl,λch=>by simp[G,y]⟩)
      .simp only at e1 e2;subst e1 e2;exact .inr (.inl ⟨c,pre,_,_,by simp only[G,stepG,unwind,z,Ia,doReturn,GStep.after,kL,e];rfl,⟨_,_,e,rfl,rfl⟩,hc,T,RY (Vr (fn:=E) (tmps:=tmps)) K Ia⟩)
     |halt U v1=>
      refine .inl ?_
      cases U<;>exact⟨_,_,_,by simp only[G,stepG,unwind,z,Ia,GStep.after];rfl⟩
theorem kV (F:QE P L p)(hal:N.alive=true)(hfn:∀f,N.fn f->L f\/Ext P f){m2:Machine}(h:StepsIn (Machine.fenced P N) P m m2):∀{fr:Frame} {pre:Z_} {v:o_} {lC:Frame} {w2:o_},
  m=lone fr pre v->m2=lone lC [] w2->(∀ch,lC.mode≠.panicking ch)->FQ P L p fr->Below P L p fr pre->(fr.mode=.run\/fr.mode=.returning\/NK fr)->(∃c∈fr::pre,NK c)->
   (∀(r:Nat)(o:Obj),v.heap[r]?=some o->o.plain=true)->False:=by
 induction h with
 |refl m=>
  intro fr pre v lC w2 e1 e2 I _ _ _ Y _
  rw[e1]at e2
  simp only[lone,Machine.mk.injEq,Array.mk.injEq,List.cons.injEq,Goroutine.mk.injEq]at e2
  obtain⟨_,⟨⟨rfl,rfl,_⟩,_⟩,_⟩:=e2
  obtain⟨c,y,a,b,e,_⟩:=Y
  simp only[r_,lG,or_false]at y
  subst y
  exact I _ e
 |head hI g h' U=>
  intro fr pre v lC w2 e1 e2 I q S D Y T
  subst e1
  by_cases z:NK fr
  .obtain⟨s,t,y,u,E⟩:=z;obtain⟨fn0,hf0,hin⟩:=q.fn;have B:fr.catches P=false:=(by simp[Frame.catches,hf0]);cases j:fr.defers with
   |cons d ds=>
    obtain⟨f,cap,R,hLf⟩:=q.ah0 d (by rw[j];exact List.mem_cons_self ..)
    obtain⟨fnb,cb,JU,Iq,W,_⟩:=F.body f hLf
    obtain⟨tg,ar⟩:=d
    simp only at R
    subst R
    have i:=TJ JU Iq W (fr:=fr) (pre:=pre) (v:=v) (ds:=ds) (cap:=cap) (ar:=ar) (.inr ⟨s,t,y,u,E⟩)
    rw[show({fr with defers:=⟨.fn (.func f) cap,ar⟩::ds}:Frame)=fr from by rw[<-j]]at i
    rw[F5 i]at g
    injection g with g
    have Q:FQ P L p {fr with defers:=ds}:=⟨q.fn,λJ=>(by have:=q.defers J;rw[j]at this;cases this),λx J=>q.ah0 x (by rw[j];exact List.mem_cons_of_mem _ J),q.kind,q.round,q.todo⟩
    have k:NK {fr with defers:=ds}:=⟨s,t,y,u,E⟩
    exact U g.symm e2 I (O5 F hLf _ (.inr rfl)) ⟨Q,.inr ⟨rfl,.inr k⟩,S.GR rfl rfl⟩ (.inl rfl) ⟨_,List.mem_cons_of_mem _ (List.mem_cons_self ..),k⟩ T
   |nil=>
    cases pre with
    |cons c pre=>
     have i:stepG P true (G fr (c::pre)) v=.go (G (c.raise (s::t)) pre) v #[]:=by
      simp[G,stepG,unwind,y,j,B]
     rw[F5 i]at g
     injection g with g
     obtain⟨H,M,X⟩:=S
     have l:∃n,c.raise (s::t)={c with mode:=.panicking (s::n)}:=by
      unfold Frame.raise
      split
      .exact⟨t++_,rfl⟩
      .exact⟨t,rfl⟩
     obtain⟨n,l⟩:=l;have k:NK (c.raise (s::t)):=(by rw[l];exact⟨s,n,rfl,u,E⟩);exact U g.symm e2 I (by rw[l];exact⟨H.fn,H.defers,H.ah0,H.kind,H.round,H.todo⟩) (by rw[l];exact X.GR rfl rfl) (.inr (.inr k)) ⟨_,List.mem_cons_self ..,k⟩ T
    |nil=>
     have J:((s::t).head?.any (·.goexit))=false:=by simpa using u
     cases hr:(reportChain (s::t) false).run P v with
     |ok td v1=>
      have i:∃d,stepG P true (G fr []) v=.go { frame:=fr,callers:=[],status:=.running,dying:=some d} v1 #[]:=by
       refine⟨{ todo:=td,texts:=[],calling:=false,pending:= "",runtimeError:=isRuntimeError P ((s::t).head?.map (·.v))},?_⟩
       simp only[G,stepG,unwind,y,j,B,J,hr]
       rfl
      obtain⟨d,i⟩:=i
      rw[F5 i]at g
      injection g with g
      cases h' with
      |refl=>
       rw[<-g]at e2
       simp[lone]at e2
      |head V _ _=>
       have:=(V { frame:=fr,callers:=[],status:=.running,dying:=some d} (by rw[<-g];simp)).1 hal
       simp at this
     |halt hh' v1=>
      have i:∃o w K,stepG P true (G fr []) v=.ended o w K:=by
       cases hh'<;>exact⟨_,_,_,by simp only[G,stepG,unwind,y,j,B,J,hr];rfl⟩
      obtain⟨o,w,K,i⟩:=i
      rw[Kr i]at g
      cases g
  .obtain⟨c,M,C⟩:=Y;have A:c∈pre:=by
    obtain rfl|h:=r_.1 M
    .exact(z C).elim
    .exact h
   have hg:Good P L p fr pre v:=by
    refine⟨q,S,?_,λf hf=>?_,T⟩
    .obtain h|h|h:=D
     .exact .inl h
     .exact .inr ⟨h,λe=>(by rw[e]at A;cases A)⟩
     .exact(z h).elim
    .exact hfn f ((hI { frame:=fr,callers:=pre,status:=.running,dying:=none} (by simp[lone])).2.2.1 f hf)
   obtain⟨o,w,K,i⟩|⟨Ew,C9,v',K,i,O,k1,k2,k3⟩|⟨g',v',K,i,rM⟩:=Zy F hg
   .rw[Kr i]at g;cases g
   .rw[F5 i]at g;injection g with g;exact U g.symm e2 I k1 k2 (.inr (.inr O)) ⟨_,List.mem_cons_self ..,O⟩ k3
   .obtain⟨Ew,C9,w',eg,hf,hmo,hpr,hpp,_,_,_,T',_,_,_,_,_⟩:=Qc (Od:=ND) F (Z:=λ_=>False) (w:=v) q S hg.mode hg.about (RJ rfl rfl rfl T) (λ_ h=>h.elim) i rM (λ_ _ _=>rfl);subst eg;rw[F5 i]at g;injection g with g;exact U g.symm e2 I hf hpr (hmo.imp id .inl) ⟨c,List.mem_cons_of_mem _ (hpp c A C),C⟩ T'.plain
theorem zW (F:QE P L p)(hal:N.alive=true)(Y:∀f,N.fn f->L f\/Ext P f){S:Frame->Z_->o_->Prop}{m2:Machine}(h:StepsIn (Machine.fenced P N) P m m2):
  ∀{fr:Frame} {pre:Z_} {v:o_} {lC:Frame} {w2:o_},m=lone fr pre v->m2=lone lC [] w2->(∀ch,lC.mode≠.panicking ch)->S lC [] w2->
   FQ P L p fr->Below P L p fr pre->(fr.mode=.run\/fr.mode=.returning)->(∀(r:Nat)(o:Obj),v.heap[r]?=some o->o.plain=true)->∃n,Ua P L p S n fr pre v:=by
 induction h with
 |refl m=>
  intro fr pre v lC w2 e1 e2 B y _ _ _ _
  rw[e1]at e2
  simp only[lone,Machine.mk.injEq,Array.mk.injEq,List.cons.injEq,Goroutine.mk.injEq]at e2
  obtain⟨rfl,⟨⟨rfl,rfl,_⟩,_⟩,_⟩:=e2
  exact⟨0,y⟩
 |head hI a Q V=>
  intro fr pre v lC w2 e1 e2 B y i j d H
  subst e1
  by_cases c:fr.mode=.returning/\pre=[]
  .exfalso;obtain⟨I,rfl⟩:=c;obtain⟨u,k,A⟩:=i.fn;have b:∃o w g,stepG P true (G fr []) v=.ended o w g:=by
    cases Ia:(results u fr.tmps).runT P v #[]with
    |mk r K=>
     cases r with
     |ok x v1=>
      have T:=j.2
      have e:stepG P true (G fr []) v=(GStep.ended (.done x) v1).after (seen P fr.fn K):=by
       simp only[G,stepG,unwind,I,i.defers j.1,k,Ia,doReturn,T,A,Bool.not_true,jb,if_false]
      exact⟨_,_,_,e⟩
     |halt R v1=>cases R<;>exact⟨_,_,_,by simp only[G,stepG,unwind,I,i.defers j.1,k,Ia,GStep.after];rfl⟩
   obtain⟨o,w,g,b⟩:=b;rw[Kr b]at a;cases a
  .have q:Good P L p fr pre v:=by
    refine⟨i,j,?_,λf z=>?_,H⟩
    .obtain h|h:=d
     .exact .inl h
     .exact .inr ⟨h,λe=>c ⟨h,e⟩⟩
    .exact Y f ((hI { frame:=fr,callers:=pre,status:=.running,dying:=none} (by simp[lone])).2.2.1 f z)
   obtain⟨o,w,g,b⟩|⟨t,s,E,g,b,l,k1,k2,k3⟩|⟨W,E,g,b,J⟩:=Zy F q
   .rw[Kr b]at a;cases a
   .rw[F5 b]at a;injection a with a;exact(kV F hal Y Q a.symm e2 B k1 k2 (.inr (.inr l)) ⟨_,List.mem_cons_self ..,l⟩ k3).elim
   .obtain⟨t,s,X,O,z,C,D,_,_,_,_,M,_,_,_,_,_⟩:=Qc (Od:=ND) F (Z:=λ_=>False) (w:=v) i j q.mode q.about (RJ rfl rfl rfl H) (λ_ h=>h.elim) b J (λ_ _ _=>rfl);subst O;rw[F5 b]at a;injection a with a;obtain⟨n,U⟩:=V (fr:=t) (pre:=s) (v:=E) (lC:=lC) (w2:=w2) a.symm e2 B y z D C M.plain;exact⟨n+1,.inr ⟨q,t,s,E,⟨g,b,J⟩,U⟩⟩
end
end Go.Fxa
namespace Go.Fxa
open Go.Conc
open Go.ConcN (sumTo upd sumTo_upd upd_ne upd_same)
section
variable {P:l_}{Ad:Loc->Prop}
theorem XM {K:m_->o_->Prop}:∀(M:Nat)(gs:Array m_)(a:m_)(w:o_)(sl:d_ (W_))(t:Trace)(q:Nat->Nat)(B:Nat),sumTo gs.size q<=M->gs[0]?=some a->a.status=.running->
  Leavers P t gs q->Past Ad B t->(∀d,∃a' w' es B',stepG P true a (w.at d)=.go a' w' es/\B<=B'/\(∀e∈es,EvL Ad B' e)/\(w'.heap.size<=B'/\K a' w'))->
  ∃(N:Nat) (BA:Array m_) (a':m_) (w':o_) (Em:d_ (W_)) (t':Trace) (q':Nat->Nat) (B':Nat),
   runNT P N (crowd gs w sl) t=(.next (crowd BA w' Em),t')/\BA.size=gs.size/\BA[0]?=some a'/\(w'.heap.size<=B'/\K a' w')/\Leavers P t' BA q'/\Past Ad B' t'/\B<=B':=by
 intro M
 induction M with
 |zero=>
  intro gs a w sl t q B Z m n hL F E
  have p:∀g∈gs,awake g:=by
   intro g f
   obtain⟨i,hi,rfl⟩:=Array.mem_iff_getElem.1 f
   obtain rfl|o:=Nat.eq_zero_or_pos i
   .have:gs[0]=a:=(by simpa [v_ hi]using m);rw[this];exact awake_of (.inl n)
   .exact awake_of ((hL.old i _ o (v_ hi)).status.elim .inl λx=>.inr (.inr x))
  obtain⟨i,g,d,Em,hi,f,D⟩:=crowd_pick (P:=P) (w:=w) (sl:=sl) p ⟨0,a,m,n⟩;have s:i<gs.size:=(y_.1 hi).1;obtain rfl|o:=Nat.eq_zero_or_pos i
  .obtain rfl:g=a:=(by rw[m]at hi;exact(x_ hi).symm);obtain⟨a',w',es,B',r,hB,G,L⟩:=E d;have u:=runT_crowd_go (P:=P) (sl:=Em) (i:=0) hi (show stepG P (0==0) g (w.at d)=_ from r);refine⟨1,(gs.map (woken P g a' w')).setIfInBounds 0 a',a',w',Em,t++MemOp.ofEvents 0 g.frame.fn g.frame.place es,q,B',by simp only[runNT,D,u],sJ,by simp[s],L,⟨λj x b h=>?_,λj b=>?_⟩,(F.mono hB).own G,hB⟩
   .have v:0≠j:=wB;rw[z_ v,ik]at h;obtain⟨y,C,rfl⟩:=lT.1 h;have hq:=hL.old j y b C;rw[woken_quitsD hq,Deaf_other t wB _ (λop c=>by obtain⟨e,_,rfl⟩:=p_ c;rfl)];exact hq
   .rw[Deaf_other t (g':=0) (by simp at b;omega) _ (λop c=>by obtain⟨e,_,rfl⟩:=p_ c;rfl)];exact hL.above j (by simpa using b)
  .exfalso;have hq:=hL.old i g o hi;have hz:q i=0:=by
    have hs:sumTo gs.size (upd q i 0)+q i=sumTo gs.size q+0:=by
     have:=sumTo_upd q 0 id s
     simpa using this
    omega
   rw[hz]at hq;rw[hq.1]at f;cases f
 |succ M ih=>
  intro gs a w sl t q B Z m n hL F E
  have p:∀g∈gs,awake g:=by
   intro g f
   obtain⟨i,hi,rfl⟩:=Array.mem_iff_getElem.1 f
   obtain rfl|o:=Nat.eq_zero_or_pos i
   .have:gs[0]=a:=(by simpa [v_ hi]using m);rw[this];exact awake_of (.inl n)
   .exact awake_of ((hL.old i _ o (v_ hi)).status.elim .inl λx=>.inr (.inr x))
  obtain⟨i,g,d,Em,hi,f,D⟩:=crowd_pick (P:=P) (w:=w) (sl:=sl) p ⟨0,a,m,n⟩;have s:i<gs.size:=(y_.1 hi).1;obtain rfl|o:=Nat.eq_zero_or_pos i
  .obtain rfl:g=a:=(by rw[m]at hi;exact(x_ hi).symm);obtain⟨a',w',es,B',r,hB,G,L⟩:=E d;have u:=runT_crowd_go (P:=P) (sl:=Em) (i:=0) hi (show stepG P (0==0) g (w.at d)=_ from r);refine⟨1,(gs.map (woken P g a' w')).setIfInBounds 0 a',a',w',Em,t++MemOp.ofEvents 0 g.frame.fn g.frame.place es,q,B',by simp only[runNT,D,u],sJ,by simp[s],L,⟨λj x b h=>?_,λj b=>?_⟩,(F.mono hB).own G,hB⟩
   .have v:0≠j:=wB;rw[z_ v,ik]at h;obtain⟨y,C,rfl⟩:=lT.1 h;have hq:=hL.old j y b C;rw[woken_quitsD hq,Deaf_other t wB _ (λop c=>by obtain⟨e,_,rfl⟩:=p_ c;rfl)];exact hq
   .rw[Deaf_other t (g':=0) (by simp at b;omega) _ (λop c=>by obtain⟨e,_,rfl⟩:=p_ c;rfl)];exact hL.above j (by simpa using b)
  .have hq:=hL.old i g o hi;have R:(i==0)=false:=(by simp;omega);cases hqi:q i with
   |zero=>rw[hqi]at hq;rw[hq.1]at f;cases f
   |succ k=>
    rw[hqi]at hq
    obtain⟨hf,_⟩|⟨_,g',es,hm,A,S⟩:=hq
    .rw[hf]at f;cases f
    have u:=runT_crowd_go (P:=P) (sl:=Em) (i:=i) hi (by rw[R];exact A (w.at d));have T:((gs.map (woken P g g' (w.at d))).setIfInBounds i g').size=gs.size:=sJ;have U:sumTo gs.size (upd q i k)+(k+1)=sumTo gs.size q+k:=by
     have:=sumTo_upd q k id s
     simpa [hqi]using this
    obtain⟨N,BA,H,X,W,t',q',B',hr,V,I,hS,O,Q,J⟩:=ih ((gs.map (woken P g g' (w.at d))).setIfInBounds i g') a (w.at d) Em (t++MemOp.ofEvents i g.frame.fn g.frame.place es) (upd q i k) B (by rw[T];omega)
     (by
      have v:i≠0:=wB
      rw[z_ v,ik,m]
      simp[woken_run n]) n
     ⟨λj x b h=>by
      by_cases l:i=j
      .subst l;rw[lJ (by simpa using s)]at h;obtain rfl:=x_ h;rw[upd_same,Deaf_own];exact S
      .rw[z_ l,ik]at h;obtain⟨y,C,rfl⟩:=lT.1 h;have z:=hL.old j y b C;rw[woken_quitsD z,upd_ne q k (gJ l),Deaf_other t l _ (λop c=>by obtain⟨e,_,rfl⟩:=p_ c;rfl)];exact z,λj b=>by
      rw[Deaf_other t (g':=i) (by simp at b;omega) _ (λop c=>by obtain⟨e,_,rfl⟩:=p_ c;rfl)];exact hL.above j (by simpa using b)⟩
     (F.mute wB hm) (λY=>E Y)
    exact⟨N+1,BA,H,X,W,t',q',B',by simp only[runNT,D,u];exact hr,V.trans T,I,hS,O,Q,J⟩
def Gx (Ad:Loc->Prop)(Z:Nat->Prop):Prop:=(∀a:f_,Ad (.cell a)->Z a.block)/\∀r,Ad (.obj r)->Z r
theorem jG {Z:Nat->Prop}(l:Gx Ad Z){n B:Nat}(m:n<=B){e:Event}(h:EvT Z n e):EvL Ad B e:=by
 obtain⟨k,wr,i⟩:=e;obtain⟨a,b,g,j⟩|⟨r,b,g,j⟩|b|⟨f,b⟩:=h
 .simp only at b;subst b;refine⟨λx c d=>?_,sJ,sJ,?_⟩
  .exfalso;simp only[MemAct.ofEvent,MemAct.touch?]at c;obtain rfl:=x_ c;exact g (l.1 _ d)
  .simp only[MemAct.ofEvent,MemAct.low,Loc.low];omega
 .simp only at b;subst b;refine⟨λx c d=>?_,sJ,sJ,?_⟩
  .exfalso;cases wr<;>cases i<;>simp only[MemAct.ofEvent,MemAct.touch?]at c<;>first
    | (obtain rfl:=x_ c
       exact g (l.2 _ d))
    |(cases c;done)
  .cases wr<;>cases i<;>simp only[MemAct.ofEvent,MemAct.low,Loc.low]<;>omega
 all_goals
  simp only at b;subst b
  refine⟨λx c d=>?_,sJ,sJ,dE⟩
  simp[MemAct.ofEvent,MemAct.touch?]at c
end
end Go.Fxa
namespace Go
open Go.Fxa Go.Conc
def Sem.Jy (P:l_){α:Type}:Sem α->d_ α
 |.pure a=>some a
 |.program k=>(k P).Jy P
 |_=>none
end Go
namespace Go.Fxa
open Go.Conc
variable {y:Frame×Z_}
theorem JJ {P:l_}{α:Type}{e:Sem α}{a:α}:∀(_:e.Jy P=some a)(w:o_)(es:Array Event),e.runT P w es=(.ok a w,es):=by
 induction e with
 |pure b=>intro h w es;simp only[Sem.Jy,l7]at h;subst h;rfl
 |program k c=>intro h w es;exact c P h w es
 |_=>intro h;simp[Sem.Jy]at h
def En (fr:Frame)(cs:Z_)(k:List Item):d_ (Frame×Z_):=some ({fr with todo:=k},cs)
def Nh (P:l_)(fr:Frame)(cs:Z_):Next->d_ (Frame×Z_)
 |.value v=>some (fr.finish v,cs)
 |.skip=>some (fr.finish undef,cs)
 |.enter f args=>some (Frame.enter P f args .normal,fr::cs)
 |.defer d=>some ({fr with defers:=d::fr.defers}.finish undef,cs)
 |_=>none
def FH (fr:Frame)(cs:Z_)(c:Code)(k:List Item):d_ (Frame×Z_):=
 match c with
 |.ret=>some ({fr with mode:=.returning},cs)
 |.skip=>En fr cs k
 |.label _=>En fr cs k
 |.seq a b=>En fr cs (.code a::.code b::k)
 |.cond c a b=>match fr.eval c with
  |.bool t=>En fr cs (.code (if t then a else b)::k)
  |_=>none
 |.block id b=>En fr cs (.code b::.inBlock id::k)
 |.loop b=>En fr cs (.code b::.inLoop b::k)
 |.exit id=>match exitTo id k with
  |some k'=>En fr cs k'
  |none=>none
 |.region _ ops false=>En fr cs (.inRegion ops (List.range ops.size)::k)
 |_=>none
def DN (P:l_)(fr:Frame)(cs:Z_):d_ (Frame×Z_):=
 match fr.todo with
 |[]=>some ({fr with mode:=.returning},cs)
 |.code c::k=>FH fr cs c k
 |.inBlock _::k=>En fr cs k
 |.inLoop c::k=>En fr cs (.code c::.inLoop c::k)
 |.inRegion _ []::k=>En fr cs k
 |.inRegion ops (i::_)::_=>
  if((ops[i]?).map (Region.wanted · (yielded ops fr.tmps))).getD false then
   match ops[i]? with
   |some o=>match (execOp fr.eval o).Jy P with
    |some n=>Nh P fr cs n
    |none=>none
   |none=>none
  else some (fr.finish undef,cs)
 |_=>none
def PH (fr:Frame)(cs:Z_)(v:n_):d_ (Frame×Z_):=
 match cs with
 |c::rest=>match fr.kind with
  |.normal=>some (c.finish v,rest)
  |.deferred=>match c.mode with
   |.panicking ({ recovered:=true,.. }::_)=>none
   |_=>some (c,rest)
  |_=>none
 |[]=>none
def J3 (P:l_)(fr:Frame)(cs:Z_)(d:Deferred)(ds:List Deferred):d_ (Frame×Z_):=
 match d.target with
 |.fn f cap=>match (invoke (.fn f cap) d.args).Jy P with
  |some (.enter f args)=>some (Frame.enter P f args .deferred,{fr with defers:=ds}::cs)
  |_=>none
 |_=>none
def RX (P:l_)(x:Frame×Z_):d_ (Frame×Z_):=
 match x.1.roundOf,x.1.mode with
 |none,.run=>DN P x.1 x.2
 |none,.returning=>match x.1.defers with
  |[]=>match P.funcs[x.1.fn]? with
   |some fn=>match (results fn x.1.tmps).Jy P with
    |some v=>PH x.1 x.2 v
    |none=>none
   |none=>none
  |d::ds=>J3 P x.1 x.2 d ds
 |none,.panicking _=>match x.1.defers with
  |[]=>none
  |d::ds=>J3 P x.1 x.2 d ds
 |_,_=>none
section
variable {P:l_}
theorem Xi {fr:Frame}{cs:Z_}{d:Deferred}{ds:List Deferred}(h:J3 P fr cs d ds=some y)(w:o_):
  callDeferred P {fr with defers:=ds} cs none d w=.go (G y.1 y.2) w #[]:=by
 obtain⟨t,args⟩:=d;unfold J3 at h;cases t with
 |fn f cap=>
  simp only at h
  split at h
  .rename_i c b a;obtain rfl:=x_ h;have:=JJ a w #[];unfold callDeferred;simp only[Bool.false_and,jb,if_false,this,GStep.after,seen_none,kL]
   rfl
  .cases h
 |_=>simp at h
theorem quiet_step {main:Bool}{x:Frame×Z_}(h:RX P x=some y)(w:o_):stepG P main (G x.1 x.2) w=.go (G y.1 y.2) w #[]:=by
 obtain⟨⟨fn,j,u,e,p,kind,O⟩,B⟩:=x;unfold RX at h;cases O with
 |some r=>cases p<;>simp at h
 |none=>
  cases p with
  |run=>
   simp only at h
   cases u with
   |nil=>simp only[DN,l7]at h;subst h;simp[G,stepG,stepG.exec]
   |cons N k=>
    cases N with
    |inBlock id=>simp only[DN,En,l7]at h;subst h;simp[G,stepG,stepG.exec]
    |inLoop c=>simp only[DN,En,l7]at h;subst h;simp[G,stepG,stepG.exec]
    |code c=>
     cases c with
     |cond c a b=>
      simp only[DN,FH]at h
      split at h
      .rename_i t s;simp only[En,l7]at h;subst h;simp[G,stepG,stepG.exec,s]
      .cases h
     |exit id=>
      simp only[DN,FH]at h
      split at h
      .rename_i R J;simp only[En,l7]at h;subst h;simp[G,stepG,stepG.exec,J]
      .cases h
     |region id m H=>
      cases H with
      |true=>simp[DN,FH]at h
      |false=>simp only[DN,FH,En,l7]at h;subst h;simp[G,stepG,stepG.exec]
     |ret=>simp only[DN,FH,l7]at h;subst h;simp[G,stepG,stepG.exec]
     |skip=>simp only[DN,FH,En,l7]at h;subst h;simp[G,stepG,stepG.exec]
     |label l=>simp only[DN,FH,En,l7]at h;subst h;simp[G,stepG,stepG.exec]
     |seq a b=>simp only[DN,FH,En,l7]at h;subst h;simp[G,stepG,stepG.exec]
     |block id b=>simp only[DN,FH,En,l7]at h;subst h;simp[G,stepG,stepG.exec]
     |loop b=>simp only[DN,FH,En,l7]at h;subst h;simp[G,stepG,stepG.exec]
     |_=>simp[DN,FH]at h
    |inRegion m l=>
     cases l with
     |nil=>simp only[DN,En,l7]at h;subst h;simp[G,stepG,stepG.exec]
     |cons i g=>
      simp only[DN]at h
      split at h
      .rename_i z;split at h
       .rename_i o E;split at h
        .rename_i n K;have q:=JJ K w #[];have F:stepG P main (G (Frame.mk fn j (.inRegion m (i::g)::k) e .run kind none) B) w=
           stepG.apply P true (Frame.mk fn j (.inRegion m (i::g)::k) e .run kind none) B none (execOp (Frame.mk fn j (.inRegion m (i::g)::k) e .run kind none).eval o) w:=by
          simp only[E,Option.map_some,Option.getD_some]at z
          simp[G,stepG,stepG.exec,stepG.oper,Frame.oper?,E,z]
         rw[F];have A:(if(kind==CallKind.early)=true then(#[]:Array Event)else #[])=#[]:=by split<;>rfl
         cases n with
         |value v=>simp only[Nh,l7]at h;subst h;simp only[stepG.apply,q,if_true,A,seen_none,GStep.after,kL];rfl
         |skip=>simp only[Nh,l7]at h;subst h;simp only[stepG.apply,q,if_true,A,seen_none,GStep.after,kL];rfl
         |enter f args=>simp only[Nh,l7]at h;subst h;simp only[stepG.apply,q,if_true,A,seen_none,GStep.after,kL];rfl
         |defer d=>simp only[Nh,l7]at h;subst h;simp only[stepG.apply,q,if_true,A,seen_none,GStep.after,kL];rfl
         |_=>simp[Nh]at h
        .cases h
       .cases h
      .rename_i z;obtain rfl:=x_ h;have C:((m[i]?).map (Region.wanted · (yielded m j))).getD false=false:=(by simpa using z);simp[G,stepG,stepG.exec,C]
    |_=>simp[DN]at h
  |returning=>
   cases e with
   |nil=>
    simp only at h
    split at h
    .rename_i f D;split at h
     .rename_i v M;have q:=JJ M w #[];cases B with
      |nil=>simp[PH]at h
      |cons c g=>
       cases kind with
       |normal=>
        simp only[PH,l7]at h;subst h
        simp only[G,stepG,unwind,D,q,doReturn,GStep.after,seen_none,kL]
       |deferred=>
        simp only[PH]at h
        split at h
        .cases h
        .rename_i L;obtain rfl:=x_ h;simp only[G,stepG,unwind,D,q,doReturn,GStep.after,seen_none,kL]
       |_=>simp[PH]at h
     .cases h
    .cases h
   |cons d I=>
    simp only at h
    have:=Xi h w
    have s:∃f cap args,d={ target:=.fn f cap,args:=args}:=by
     obtain⟨t,args⟩:=d
     cases t<;>first|exact⟨_,_,_,rfl⟩|(simp[J3]at h;done)
    obtain⟨f,cap,args,rfl⟩:=s
    simp only[G,stepG,unwind]
    exact this
  |panicking Q=>
   cases e with
   |nil=>simp at h
   |cons d I=>
    simp only at h
    have:=Xi h w
    have s:∃f cap args,d={ target:=.fn f cap,args:=args}:=by
     obtain⟨t,args⟩:=d
     cases t<;>first|exact⟨_,_,_,rfl⟩|(simp[J3]at h;done)
    obtain⟨f,cap,args,rfl⟩:=s
    simp only[G,stepG,unwind]
    exact this
end
end Go.Fxa
