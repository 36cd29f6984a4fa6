/- A piece of code, -/
import Derived.Test.YtmhplpfpcnjekaaGreatA07
import Derived.Conc.TokenWalk
open Go.Proofs.Tryz
namespace Go.Fxa
open Go.Conc
open Go.ConcN (sumTo upd sumTo_upd upd_ne upd_same)
variable {fn EH f:h_}{tmps:X_}{dl ds:List Deferred}{kl kd:CallKind}{Od:Old}{k:List Item}{v w:o_}{fr:Frame}{Ad:Loc->Prop}
def NH:Item:=.code (.refuse "")
theorem Qr {id:Nat}{A B:List Item}(hA:exitTo id A=none):∀{fs k':List Item},exitTo id (fs++A)=some k'->∃Nq,k'=Nq++A/\exitTo id (fs++B)=some (Nq++B)
 |[],k',h=>by rw[List.nil_append,hA]at h;cases h
 |d::fs,k',h=>by
  cases d with
  |inBlock c=>
   simp only[List.cons_append,exitTo]at h ⊢
   split at h
   .rename_i a;obtain rfl:=x_ h;exact⟨fs,rfl,by rw[rW a]⟩
   .rename_i a;obtain⟨Nq,e,b⟩:=Qr hA h;exact⟨Nq,e,by rw[ru a];exact b⟩
  |_=>
   simp only[List.cons_append,exitTo]at h ⊢
   exact Qr hA h
section
variable {P:l_}{L:h_->Prop}{p:h_->Oper->Bool}{Z:Nat->Prop}
theorem fE (hq:∀es,seen P EH es=seen P fn es){it:Item}{fs A B:List Item}{pf:Oper->Bool}{b:Bool}(O:(kl==CallKind.early)=false)(N:(kd==CallKind.early)=false)(hA:∀id,exitTo id A=none)(M:it.EY pf=true)
  (S:∀id ops,it≠.code (.region id ops true)) {w w':o_} {X:Z_} {g':m_} {es:Array Event}
  (T:∀ops i rest o,it=.inRegion ops (i::rest)->ops[i]?=some o->Region.wanted o (yielded ops tmps)=true->∃n w1 R,(execOp (Frame.mk fn tmps (it::(fs++A)) dl .run kl none).eval o).runT P w #[]=(.ok n w1,R)/\FC L b n)
  (h:stepG P true (G (Frame.mk fn tmps (it::(fs++A)) dl .run kl none) X) w=.go g' w' es):
  (∃FP Nq m Q,(b=false->Q=[])/\(m=.run\/m=.returning)/\g'=G (Frame.mk fn FP (Nq++A) (Q++dl) m kl none) X/\∀main Y,stepG P main (G (Frame.mk EH tmps (it::(fs++B)) ds .run kd none) Y) w=.go (G (Frame.mk EH FP (Nq++B) (Q++ds) m kd none) Y) w' es)\/
  (∃f args,(∃ops i rest,it=.inRegion ops (i::rest))/\g'=G (Frame.enter P f args .normal) (Frame.mk fn tmps (it::(fs++A)) dl .run kl none::X)/\
   ∀main Y,stepG P main (G (Frame.mk EH tmps (it::(fs++B)) ds .run kd none) Y) w=.go (G (Frame.enter P f args .normal) (Frame.mk EH tmps (it::(fs++B)) ds .run kd none::Y)) w' es):=by
 have e:∀{FP:X_} {Nq:List Item} {m:FrameMode},(m=.run\/m=.returning)->stepG P true (G (Frame.mk fn tmps (it::(fs++A)) dl .run kl none) X) w=.go (G (Frame.mk fn FP (Nq++A) dl m kl none) X) w #[]->
   (∀main Y,stepG P main (G (Frame.mk EH tmps (it::(fs++B)) ds .run kd none) Y) w=.go (G (Frame.mk EH FP (Nq++B) ds m kd none) Y) w #[])->
   (∃FP Nq m Q,(b=false->Q=[])/\(m=.run\/m=.returning)/\g'=G (Frame.mk fn FP (Nq++A) (Q++dl) m kl none) X/\∀main Y,stepG P main (G (Frame.mk EH tmps (it::(fs++B)) ds .run kd none) Y) w=.go (G (Frame.mk EH FP (Nq++B) (Q++ds) m kd none) Y) w' es):=by
  intro FP Nq m I e1 e2
  rw[e1]at h
  injection h with j k p
  subst j k p
  exact⟨FP,Nq,m,[],λ_=>rfl,I,rfl,e2⟩
 cases it with
 |inBlock id=>exact .inl (e (FP:=tmps) (Nq:=fs) (.inl rfl) (by simp[G,stepG,stepG.exec]) (λmain Y=>by simp[G,stepG,stepG.exec]))
 |inLoop c=>exact .inl (e (FP:=tmps) (Nq:=.code c::.inLoop c::fs) (.inl rfl) (by simp[G,stepG,stepG.exec]) (λmain Y=>by simp[G,stepG,stepG.exec]))
 |inScope c=>simp[Item.EY]at M
 |inRangeFunc l=>simp[Item.EY]at M
 |endRangeFunc l=>simp[Item.EY]at M
 |beginRound=>simp[Item.EY]at M
 |call d a b c=>simp[Item.EY]at M
 |extern a b=>simp[Item.EY]at M
 |code c=>
  cases c with
  |skip=>exact .inl (e (FP:=tmps) (Nq:=fs) (.inl rfl) (by simp[G,stepG,stepG.exec]) (λmain Y=>by simp[G,stepG,stepG.exec]))
  |label l=>exact .inl (e (FP:=tmps) (Nq:=fs) (.inl rfl) (by simp[G,stepG,stepG.exec]) (λmain Y=>by simp[G,stepG,stepG.exec]))
  |ret=>exact .inl (e (FP:=tmps) (Nq:=.code .ret::fs) (.inr rfl) (by simp[G,stepG,stepG.exec]) (λmain Y=>by simp[G,stepG,stepG.exec]))
  |rangeFunc f K a b=>simp[Item.EY,Code.AP]at M
  |scope c=>simp[Item.EY,Code.AP]at M
  |goto l=>simp[Item.EY,Code.AP]at M
  |refuse s=>simp[G,stepG,stepG.exec]at h
  |seq a b=>exact .inl (e (FP:=tmps) (Nq:=.code a::.code b::fs) (.inl rfl) (by simp[G,stepG,stepG.exec]) (λmain Y=>by simp[G,stepG,stepG.exec]))
  |cond c a b=>
   cases hv:(Frame.mk fn tmps (.code (.cond c a b)::(fs++A)) dl .run kl none).eval c with
   |bool t=>
    have D:(Frame.mk EH tmps (.code (.cond c a b)::(fs++B)) ds .run kd none).eval c=.bool t:=by rw[<-hv];cases c<;>rfl
    exact .inl (e (FP:=tmps) (Nq:=.code (if t then a else b)::fs) (.inl rfl) (by simp[G,stepG,stepG.exec,hv]) (λmain Y=>by simp[G,stepG,stepG.exec,D]))
   |_=>simp[G,stepG,stepG.exec,hv]at h
  |block id c=>exact .inl (e (FP:=tmps) (Nq:=.code c::.inBlock id::fs) (.inl rfl) (by simp[G,stepG,stepG.exec]) (λmain Y=>by simp[G,stepG,stepG.exec]))
  |loop c=>exact .inl (e (FP:=tmps) (Nq:=.code c::.inLoop c::fs) (.inl rfl) (by simp[G,stepG,stepG.exec]) (λmain Y=>by simp[G,stepG,stepG.exec]))
  |exit id=>
   cases hx:exitTo id (fs++A)with
   |none=>simp[G,stepG,stepG.exec,hx]at h
   |some J=>
    obtain⟨Nq,rfl,E⟩:=Qr (B:=B) (hA id) hx
    exact .inl (e (FP:=tmps) (Nq:=Nq) (.inl rfl) (by simp[G,stepG,stepG.exec,hx]) (λmain Y=>by simp[G,stepG,stepG.exec,E]))
  |region id ops u=>
   cases u with
   |true=>exact(S id ops rfl).elim
   |false=>exact .inl (e (FP:=tmps) (Nq:=.inRegion ops (List.range ops.size)::fs) (.inl rfl) (by simp[G,stepG,stepG.exec]) (λmain Y=>by simp[G,stepG,stepG.exec]))
 |inRegion ops l=>
  cases l with
  |nil=>exact .inl (e (FP:=tmps) (Nq:=fs) (.inl rfl) (by simp[G,stepG,stepG.exec]) (λmain Y=>by simp[G,stepG,stepG.exec]))
  |cons i rest=>
   by_cases r:((ops[i]?).map (Region.wanted · (yielded ops tmps))).getD false=true
   .cases ho:ops[i]? with
    |none=>rw[ho]at r;simp at r
    |some o=>
     rw[ho]at r
     simp only[Option.map_some,Option.getD_some]at r
     have F:(Frame.mk EH tmps (.inRegion ops (i::rest)::(fs++B)) ds .run kd none).eval=(Frame.mk fn tmps (.inRegion ops (i::rest)::(fs++A)) dl .run kl none).eval:=funext λx=>by cases x<;>rfl
     have H:stepG P true (G (Frame.mk fn tmps (.inRegion ops (i::rest)::(fs++A)) dl .run kl none) X) w=
       stepG.apply P true (Frame.mk fn tmps (.inRegion ops (i::rest)::(fs++A)) dl .run kl none) X none (execOp (Frame.mk fn tmps (.inRegion ops (i::rest)::(fs++A)) dl .run kl none).eval o) w:=by
      simp[G,stepG,stepG.exec,stepG.oper,Frame.oper?,ho,r]
     have g:∀main Y,stepG P main (G (Frame.mk EH tmps (.inRegion ops (i::rest)::(fs++B)) ds .run kd none) Y) w=
       stepG.apply P true (Frame.mk EH tmps (.inRegion ops (i::rest)::(fs++B)) ds .run kd none) Y none (execOp (Frame.mk fn tmps (.inRegion ops (i::rest)::(fs++A)) dl .run kl none).eval o) w:=λmain Y=>by
      rw[<-F]
      simp[G,stepG,stepG.exec,stepG.oper,Frame.oper?,ho,r]
     rw[H]at h
     obtain⟨n,w1,R,q,v⟩:=T ops i rest o rfl ho r
     have fin:∀x,(∃FP Nq,(Frame.mk fn tmps (.inRegion ops (i::rest)::(fs++A)) dl .run kl none).finish x=Frame.mk fn FP (Nq++A) dl .run kl none/\
       (Frame.mk EH tmps (.inRegion ops (i::rest)::(fs++B)) ds .run kd none).finish x=Frame.mk EH FP (Nq++B) ds .run kd none):=λx=>⟨_,.inRegion ops rest::fs,rfl,rfl⟩
     cases n<;>first|exact v.elim|skip
     .rename_i x;obtain⟨C,Nq,e1,e2⟩:=fin x;simp only[stepG.apply,q,if_true,GStep.after,kL,O,jb,if_false]at h;injection h with j k p;subst k p;refine .inl ⟨C,Nq,.run,[],λ_=>rfl,.inl rfl,by rw[<-j,e1];rfl,λmain Y=>?_⟩;rw[g];simp only[stepG.apply,q,if_true,GStep.after,kL,e2,hq,N,jb,if_false]
      rfl
     .obtain⟨C,Nq,e1,e2⟩:=fin undef;simp only[stepG.apply,q,if_true,GStep.after,kL,O,jb,if_false]at h;injection h with j k p;subst k p;refine .inl ⟨C,Nq,.run,[],λ_=>rfl,.inl rfl,by rw[<-j,e1];rfl,λmain Y=>?_⟩;rw[g];simp only[stepG.apply,q,if_true,GStep.after,kL,e2,hq,N,jb,if_false]
      rfl
     .rename_i f args;simp only[stepG.apply,q,if_true,GStep.after,kL,O,jb,if_false]at h;injection h with j k p;subst k p;refine .inr ⟨f,args,⟨_,_,_,rfl⟩,by rw[<-j];rfl,λmain Y=>?_⟩;rw[g];simp only[stepG.apply,q,if_true,GStep.after,kL,hq,N,jb,if_false]
      rfl
     .rename_i d;simp only[stepG.apply,q,if_true,GStep.after,kL,O,jb,if_false]at h;injection h with j k p;subst k p;have e1:({ fn:=fn,tmps:=tmps,todo:=.inRegion ops (i::rest)::(fs++A),defers:=d::dl,mode:=.run,kind:=kl,roundOf:=none}:Frame).finish undef=Frame.mk fn (match (ops[i]?).bind (·.dst)with|some d=>tmps.setIfInBounds d undef|none=>tmps) ((.inRegion ops rest::fs)++A) ([d]++dl) .run kl none:=rfl;have e2:({ fn:=EH,tmps:=tmps,todo:=.inRegion ops (i::rest)::(fs++B),defers:=d::ds,mode:=.run,kind:=kd,roundOf:=none}:Frame).finish undef=Frame.mk EH (match (ops[i]?).bind (·.dst)with|some d=>tmps.setIfInBounds d undef|none=>tmps) ((.inRegion ops rest::fs)++B) ([d]++ds) .run kd none:=rfl;refine .inl ⟨_,_,.run,[d],λhb=>(by have:=v.1;rw[hb]at this;cases this),.inl rfl,by rw[<-j];exact congrArg (G · X) e1,λmain Y=>?_⟩;rw[g];simp only[stepG.apply,q,if_true,GStep.after,kL,hq,N,jb,if_false];exact congrArg (λz=>GStep.go (G z Y) w1 (seen P fn R)) e2
   .have y:((ops[i]?).map (Region.wanted · (yielded ops tmps))).getD false=false:=(by simpa using r);have fin:∀x,(∃FP Nq,(Frame.mk fn tmps (.inRegion ops (i::rest)::(fs++A)) dl .run kl none).finish x=Frame.mk fn FP (Nq++A) dl .run kl none/\
      (Frame.mk EH tmps (.inRegion ops (i::rest)::(fs++B)) ds .run kd none).finish x=Frame.mk EH FP (Nq++B) ds .run kd none):=λx=>⟨_,.inRegion ops rest::fs,rfl,rfl⟩
    obtain⟨C,Nq,e1,e2⟩:=fin undef;exact .inl (e (FP:=C) (Nq:=Nq) (.inl rfl) (by rw[<-e1];simp[G,stepG,stepG.exec,y]) (λmain Y=>by rw[<-e2];simp[G,stepG,stepG.exec,y]))
theorem ck7 (F:QE P L p){ops:Array Oper}{i:Nat}{rest:List Nat}{pre:Z_}(E:(kl==CallKind.early)=false){v':o_}{g':m_}{es:Array Event}{o:Oper}(T:Yr Od Z v w)(K:∀r,Z r->r<v.heap.size)
  (M:∀j,j<v'.drawn-v.drawn->∀q,w.tape (w.drawn+j) q=v.tape (v.drawn+j) q) (D:∀f,(Frame.mk fn tmps (.inRegion ops (i::rest)::k) dl .run kl none).about P v=some f->L f\/Ext P f) (I:(Item.inRegion ops (i::rest)).EY (p fn)=true)
  (H:ops[i]?=some o) (O:Region.wanted o (yielded ops tmps)=true) (h:stepG P true (G (Frame.mk fn tmps (.inRegion ops (i::rest)::k) dl .run kl none) pre) v=.go g' v' es) (Q:∀N,g'.frame.mode≠.panicking N):
  ∃n w1 J,(execOp (Frame.mk fn tmps (.inRegion ops (i::rest)::k) dl .run kl none).eval o).runT P w #[]=(.ok n w1,J)/\FC L (su fn) n:=by
 have a:p fn o=true:=by
  simp only[Item.EY,Array.all_eq_true]at I
  obtain⟨t,rfl⟩:=y_.1 H
  exact I i t
 rw[NT H]at D;have b:=F.op fn o a _ v T.plain D;have u:stepG P true (G (Frame.mk fn tmps (.inRegion ops (i::rest)::k) dl .run kl none) pre) v=
   stepG.apply P true (Frame.mk fn tmps (.inRegion ops (i::rest)::k) dl .run kl none) pre none (execOp (Frame.mk fn tmps (.inRegion ops (i::rest)::k) dl .run kl none).eval o) v:=by
  simp[G,stepG,stepG.exec,stepG.oper,Frame.oper?,H,O]
 rw[u]at h;cases Ia:(execOp (Frame.mk fn tmps (.inRegion ops (i::rest)::k) dl .run kl none).eval o).runT P v #[]with
 |mk r J=>
  cases r with
  |ok n v1=>
   have m:FC L (su fn) n:=by
    obtain⟨_,_,z,_⟩:=UN (Od:=ND) (Z:=Z) b (v:=v) (w:=v.re v.tape v.drawn) (@Yr.mk ND _ _ _ rfl (λ_ _ _=>rfl) T.dead T.plain rfl rfl (λ_ h=>False.elim h) (λ_ h=>False.elim h) (λ_ h=>False.elim h)) K Ia (λ_ _ _=>rfl)
    exact z
   have B:v'=v1:=by
    cases n<;>first|exact m.elim|skip
    all_goals
     simp only[stepG.apply,Ia,if_true,GStep.after,kL,E,jb,if_false]at h
     injection h with d e y
     exact e.symm
   subst B
   obtain⟨C,s,_,c,_⟩:=UN b T K Ia M
   exact⟨n,C,_,c,m⟩
  |halt A v1=>
   have l:=jD b T.plain Ia
   exfalso
   cases A with
   |panic x=>
    simp only[stepG.apply,Ia,if_true,GStep.after]at h
    injection h with d e y
    exact Q _ (by rw[<-d];rfl)
   |stuck x=>simp only[stepG.apply,Ia,if_true,GStep.after,reduceCtorEq]at h
   |unsupported x=>
    cases x with
    |initOrder g=>simp[Halt.LD]at l
    |_=>simp only[stepG.apply,Ia,if_true,GStep.after,reduceCtorEq]at h
   |_=>simp[Halt.LD]at l
def Fj (P:l_)(EH:h_)(kd:CallKind)(k:List Item)(ds:List Deferred)(vs rs:Z_):Prop:=
 ∃xs fn tmps front m,vs=xs++[Frame.mk fn tmps (front++[NH]) [] m .normal none]/\rs=xs++[Frame.mk EH tmps (front++k) ds m kd none]/\(∀es,seen P EH es=seen P fn es)/\su fn=false/\(xs≠[]->m=.run/\∃ops i rest fs,front=.inRegion ops (i::rest)::fs)
theorem fA (F:QE P L p)(hkd:(kd==CallKind.early)=false){C:Frame->Z_->o_->Prop}{pre:Z_}{rf:Frame}{rs:Z_}(St:Fj P EH kd k ds (fr::pre) (rf::rs))
  (T:Yr Od Z v w) (hZ:∀r,Z r->r<v.heap.size) (OQ:∀τ d,Good P L p fr pre (v.re τ d)/\∃Ew C9 v',Ih P fr pre (v.re τ d) Ew C9 v'/\C Ew C9 v'):
  ∃Ew C9 v' Qu rs' w' es,C Ew C9 v'/\Fj P EH kd k ds (Ew::C9) (Qu::rs')/\Yr Od Z v' w'/\v.heap.size<=v'.heap.size/\(∀r,Z r->w'.heap[r]?=w.heap[r]?)/\(∀e∈es,EvT Z v'.heap.size e)/\
   ∀main cs,stepG P main (G rf (rs++cs)) w=.go (G Qu (rs'++cs)) w' es:=by
 obtain⟨xs,fn,tmps,a,m,H,hr,hq,j,hx⟩:=St;by_cases hd:fr.mode=.run/\∃id g fs,fr.todo=.code (.region id g true)::fs
 ·
  obtain⟨hm,id,g,fs,K⟩:=hd;obtain⟨S,Ew,C9,v',⟨es,BX,rM⟩,hC⟩:=OQ (λi q=>match q with
   |.order _ _=>w.tape w.drawn (.order rf.fn id)
   |_=>w.tape i q) w.drawn;obtain⟨t,Q,z,d0,m0,I,r0⟩:=fr;obtain⟨_,h2,h2',h3,h4,_⟩:=S.ok;simp only at hm K h2 h2' h3 h4;subst hm K h4;have D:∀W tx kx dsx kdx main (Y:Z_) (u:o_),stepG P main (G (Frame.mk W tx (.code (.region id g true)::kx) dsx .run kdx none) Y) u=
    .go (G (Frame.mk W tx (.inRegion g (Region.schedule (P.follows .mixedOrders) g (u.tape u.drawn (.order W id)))::kx) dsx .run kdx none) Y) {u with drawn:=u.drawn+1} #[]:=λW tx kx dsx kdx main Y u=>by
   simp[G,stepG,stepG.exec,choose,Sem.run,Question.forced,Question.cut]
  rw[D]at BX;injection BX with g1 g2 O;simp only[G,Goroutine.mk.injEq]at g1;obtain⟨g1,g1',_⟩:=g1;subst g1 g1' g2 O;simp only[World.re]at hC;have M:∀τ,Yr Od Z { heap:=v.heap,tape:=τ,drawn:=w.drawn+1,os:=v.os,output:=v.output} {w with drawn:=w.drawn+1}:=λτ=>⟨T.size,T.same,T.dead,T.plain,T.os,T.output,T.KN,T.kept,T.ax⟩
  cases xs with
  |nil=>
   simp only[List.nil_append,List.cons.injEq]at H hr
   obtain⟨H,rfl⟩:=H
   obtain⟨rfl,rfl⟩:=hr
   simp only[Frame.mk.injEq]at H
   obtain⟨rfl,rfl,K,rfl,rfl,rfl,_⟩:=H
   cases a with
   |nil=>simp[NH]at K
   |cons it Nq=>
    simp only[List.cons_append,List.cons.injEq]at K
    obtain⟨rfl,rfl⟩:=K
    exact⟨_,_,_,_,[],{w with drawn:=w.drawn+1},#[],hC,⟨[],_,_,.inRegion g _::Nq,.run,rfl,rfl,hq,j,λh=>(h rfl).elim⟩,M _,w_,λ_ _=>rfl,sJ,λmain cs=>D _ _ _ _ _ main _ w⟩
  |cons x xs=>
   simp only[List.cons_append,List.cons.injEq]at H hr
   obtain⟨rfl,rfl⟩:=H
   obtain⟨rfl,rfl⟩:=hr
   exact⟨_,_,_,_,_,{w with drawn:=w.drawn+1},#[],hC,⟨_::xs,fn,tmps,a,m,rfl,rfl,hq,j,λ_=>hx sJ⟩,M _,w_,λ_ _=>rfl,sJ,λmain cs=>D _ _ _ _ _ main _ w⟩
 .obtain⟨S,Ew,C9,v',⟨es,BX,rM⟩,hC⟩:=OQ w.tape w.drawn;have T1:Yr Od Z (v.re w.tape w.drawn) w:=T.TP w.tape w.tape w.drawn w.drawn;obtain⟨lC,pre2,w',e,_,_,_,_,_,_,O,M,s,_,_,U,hw⟩:=Qc F (w:=w) S.ok S.below S.mode S.about T1 hZ BX rM (λ_ _ _=>rfl);simp only[G,Goroutine.mk.injEq]at e;obtain⟨rfl,rfl,_⟩:=e;have E:=hw true [];rw[List.append_nil,List.append_nil]at E;obtain⟨t,Q,z,d0,m0,I,r0⟩:=fr;obtain⟨hfn,h2,h2',h3,h4,h5⟩:=S.ok;simp only at hd h2 h2' h3 h4 h5 hfn;subst h4;have hke:(I==CallKind.early)=false:=by obtain rfl|rfl:=h3<;>rfl
  have y:=S.mode;have hbel:=S.below;have habout:=S.about;simp only at y;have aj9:∀it k',m0=.run->z=it::k'->∀g i l o,it=.inRegion g (i::l)->g[i]?=some o->Region.wanted o (yielded g Q)=true->∃n w1 Oa,(execOp (Frame.mk t Q (it::k') d0 .run I none).eval o).runT P w #[]=(.ok n w1,Oa)/\FC L (su t) n:=by
   rintro it k' rfl rfl g i l o rfl ho hw'
   exact ck7 F hke T1 hZ (λ_ _ _=>rfl) habout (h5 _ (List.mem_cons_self ..)) ho hw' BX rM
  cases xs with
  |nil=>
   simp only[List.nil_append,List.cons.injEq]at H hr
   obtain⟨H,rfl⟩:=H
   obtain⟨rfl,rfl⟩:=hr
   simp only[Frame.mk.injEq,and_true]at H
   obtain⟨rfl,rfl,rfl,rfl,rfl,rfl⟩:=H
   obtain rfl:m0=.run:=y.elim id λx=>(x.2 rfl).elim
   cases a with
   |nil=>simp[G,stepG,stepG.exec,NH]at E
   |cons it fs=>
    obtain⟨t',Nq,m',df,hdf,hm',e1,e2⟩|⟨f,args,⟨g,i,l,rfl⟩,e1,e2⟩:=fE (L:=L) (b:=su t) (pf:=p t) (B:=k) (dl:=[]) (ds:=ds) (kl:=.normal) (kd:=kd) (EH:=EH) hq rfl hkd (A:=[NH]) (λ_=>rfl) (h5 it sJ) (λid g e=>hd ⟨rfl,id,g,_,by rw[e];rfl⟩) (aj9 it (fs++[NH]) rfl rfl) E
    .obtain rfl:=hdf j;simp only[G,Goroutine.mk.injEq]at e1;obtain⟨rfl,rfl,_⟩:=e1;exact⟨_,_,v',_,[],w',es,hC,⟨[],_,t',Nq,m',rfl,rfl,hq,j,λh=>(h rfl).elim⟩,M,O,s,U,λmain cs=>e2 main _⟩
    .simp only[G,Goroutine.mk.injEq]at e1;obtain⟨rfl,rfl,_⟩:=e1;exact⟨_,_,v',_,[_],w',es,hC,⟨[_],_,_,_,_,rfl,rfl,hq,j,λ_=>⟨rfl,g,i,l,fs,rfl⟩⟩,M,O,s,U,λmain cs=>e2 main _⟩
  |cons x xs=>
   simp only[List.cons_append,List.cons.injEq]at H hr
   obtain⟨rfl,rfl⟩:=H
   obtain⟨rfl,rfl⟩:=hr
   have GL:=hx sJ
   obtain rfl|⟨rfl,_⟩:=y
   .cases z with
    |nil=>
     have D:∀main (Y:Z_) (u:o_),stepG P main (G (Frame.mk t Q [] d0 .run I none) Y) u=.go (G (Frame.mk t Q [] d0 .returning I none) Y) u #[]:=λmain Y u=>by simp[G,stepG,stepG.exec]
     rw[D]at E
     injection E with a1 a2 V
     simp only[G,Goroutine.mk.injEq]at a1
     obtain⟨rfl,rfl,_⟩:=a1
     subst a2 V
     exact⟨_,_,v',_,_,_,_,hC,⟨_::xs,fn,tmps,a,m,rfl,rfl,hq,j,λ_=>GL⟩,M,O,s,U,λmain cs=>D main _ _⟩
    |cons it fs=>
     have R:=fE (L:=L) (b:=su t) (pf:=p t) (P:=P) (fn:=t) (EH:=t) (tmps:=Q) (it:=it) (fs:=fs) (A:=[]) (B:=[]) (dl:=d0) (ds:=d0) (kl:=I) (kd:=I) (X:=xs++[Frame.mk fn tmps (a++[NH]) [] m .normal none]) (w:=w) (w':=w') (es:=es) (λ_=>rfl) hke hke (λ_=>rfl) (h5 it sJ) (λid g e=>hd ⟨rfl,id,g,_,by rw[e]⟩)
      (by rw[List.append_nil];exact aj9 it fs rfl rfl) (by rw[List.append_nil];exact E)
     simp only[List.append_nil]at R
     obtain⟨t',Nq,m',df,hdf,hm',e1,e2⟩|⟨f,args,_,e1,e2⟩:=R
     .simp only[G,Goroutine.mk.injEq]at e1;obtain⟨rfl,rfl,_⟩:=e1;exact⟨_,_,v',_,_,w',es,hC,⟨_::xs,fn,tmps,a,m,rfl,rfl,hq,j,λ_=>GL⟩,M,O,s,U,λmain cs=>e2 main _⟩
     .simp only[G,Goroutine.mk.injEq]at e1;obtain⟨rfl,rfl,_⟩:=e1;exact⟨_,_,v',_,_,w',es,hC,⟨_::_::xs,fn,tmps,a,m,rfl,rfl,hq,j,λ_=>GL⟩,M,O,s,U,λmain cs=>e2 main _⟩
   .cases d0 with
    |cons d ds'=>
     obtain⟨f,cap,htg,hLf⟩:=h2' d (List.mem_cons_self ..)
     obtain⟨fnb,cb,JU,Iq,hb3,_⟩:=F.body f hLf
     obtain⟨tg,ar⟩:=d
     simp only at htg
     subst htg
     have hinv:∀u:o_,(invoke (.fn (.func f) cap) ar).runT P u #[]=(.ok (.enter f (ar++cap)) u,#[]):=λu=>by
      simp only[invoke,callFunc,program,bind,Sem.bind,Sem.runT,JU,Iq,hb3,pure]
      rfl
     have D:∀main (Y:Z_) (u:o_),stepG P main (G (Frame.mk t Q z (⟨.fn (.func f) cap,ar⟩::ds') .returning I none) Y) u=
       .go (G (Frame.enter P f (ar++cap) .deferred) (Frame.mk t Q z ds' .returning I none::Y)) u #[]:=λmain Y u=>by
      simp only[G,stepG,unwind,callDeferred,hinv,GStep.after]
      simp[seen]
     rw[D]at E
     injection E with a1 a2 V
     simp only[G,Goroutine.mk.injEq]at a1
     obtain⟨rfl,rfl,_⟩:=a1
     subst a2 V
     exact⟨_,_,v',_,_,_,_,hC,⟨_::_::xs,fn,tmps,a,m,rfl,rfl,hq,j,λ_=>GL⟩,M,O,s,U,λmain cs=>D main _ _⟩
    |nil=>
     obtain⟨fn0,hf0,_⟩:=hfn
     cases Ia:(results fn0 Q).runT P w #[]with
     |mk r Oa=>
      cases r with
      |halt hh w1=>
       exfalso
       cases xs<;>(simp only[G,stepG,unwind,hf0,Ia,List.nil_append,List.cons_append]at E;cases hh<;>simp[GStep.after]at E)
      |ok x w1=>
       have D:∀main (c:Frame) (Y:Z_),I=.normal->stepG P main (G (Frame.mk t Q z [] .returning I none) (c::Y)) w=.go (G (c.finish x) Y) w1 (seen P t Oa):=λmain c Y N=>by
        subst N
        simp only[G,stepG,unwind,hf0,Ia,doReturn,GStep.after,kL]
       have hs2:∀main (c:Frame) (Y:Z_),I=.deferred->(c.mode=.returning\/NK c)->stepG P main (G (Frame.mk t Q z [] .returning I none) (c::Y)) w=.go (G c Y) w1 (seen P t Oa):=λmain c Y N J=>by
        subst N
        obtain J|⟨⟨pv,rc,ge⟩,b,e,e1,e2⟩:=J
        .simp only[G,stepG,unwind,hf0,Ia,doReturn,GStep.after,kL,J]
        .simp only at e1 e2;subst e1 e2;simp only[G,stepG,unwind,hf0,Ia,doReturn,GStep.after,kL,e]
       cases xs with
       |nil=>
        obtain⟨rfl,g,i,l,fs,rfl⟩:=GL
        obtain⟨_,hcm,_⟩:=hbel
        have N:I=.normal:=by
         obtain⟨e,_⟩|⟨_,e|⟨_,_,e,_⟩⟩:=hcm
         .exact e
         .cases e
         .cases e
        rw[List.nil_append,D _ _ _ N]at E;injection E with a1 a2 V;simp only[G,Goroutine.mk.injEq]at a1;obtain⟨rfl,rfl,_⟩:=a1;subst a2 V;exact⟨_,_,v',_,_,_,_,hC,⟨[],fn,_,.inRegion g l::fs,.run,rfl,rfl,hq,j,λh=>(h rfl).elim⟩,M,O,s,U,λmain cs=>D main _ _ N⟩
       |cons c xs=>
        obtain⟨_,hcm,_⟩:=hbel
        simp only at hcm
        obtain⟨N,_⟩|⟨N,J⟩:=hcm
        .rw[List.cons_append,D _ _ _ N]at E;injection E with a1 a2 V;simp only[G,Goroutine.mk.injEq]at a1;obtain⟨rfl,rfl,_⟩:=a1;subst a2 V;exact⟨_,_,v',_,_,_,_,hC,⟨_::xs,fn,tmps,a,m,rfl,rfl,hq,j,λ_=>GL⟩,M,O,s,U,λmain cs=>D main _ _ N⟩
        .rw[List.cons_append,hs2 _ _ _ N J]at E;injection E with a1 a2 V;simp only[G,Goroutine.mk.injEq]at a1;obtain⟨rfl,rfl,_⟩:=a1;subst a2 V;exact⟨_,_,v',_,_,_,_,hC,⟨_::xs,fn,tmps,a,m,rfl,rfl,hq,j,λ_=>GL⟩,M,O,s,U,λmain cs=>hs2 main _ _ N J⟩
end
def AtEnd (Q:Exit->Act->o_->Prop)(f:h_)(fr:Frame)(pre:Z_)(v:o_):Prop:=
 pre=[]/\∃tmps τ d,(fr=Frame.mk f tmps [NH] [] .run .normal none/\Q .normal ⟨tmps,[]⟩ (v.re τ d))\/(∃todo,fr=Frame.mk f tmps todo [] .returning .normal none/\Q .ret ⟨tmps,[]⟩ (v.re τ d))
def dW (L:h_->Prop)(N:Fence)(f:h_):Prop:=N.fn f/\L f/\su f=false
section
variable {P:l_}{L:h_->Prop}{p:h_->Oper->Bool}{Z:Nat->Prop}
theorem ry {Q:Exit->Act->o_->Prop}:zx (AtEnd Q f):=by
 rintro g pre v w a b c ⟨e1,t,τ,d,e⟩;have:w.re τ d=v.re τ d:=by
  unfold World.re
  rw[a,b,c]
 exact⟨e1,t,τ,d,by rw[this];exact e⟩
theorem gp (F:QE P L p){N:Fence}(C:N.alive=true)(G:N.depth=none)(I:N.round=none)(E:∀f,N.fn f->L f\/Ext P f)(D:dW L N f){n:Nat}{c:Code}(M:c.AP (p f)=true)
  (J:∀(r:Nat)(o:Obj),v.heap[r]?=some o->o.plain=true) {Q:Exit->Act->o_->Prop} (K:∀e a w,Q e a w->(e=.normal\/e=.ret)/\a.defers=[])
  (H:∀τ d,c.wpIn N n P Q ⟨tmps,[]⟩ (v.re τ d)):Fin P L p (AtEnd Q f) (Frame.mk f tmps [.code c,NH] [] .run .normal none) [] v:=by
 refine yF F ry λτ d=>?_
 obtain⟨e,s,h,hq,b⟩:=H τ d (Frame.mk f tmps [] [] .run .normal none) [NH] [] I.symm D.1 (λ_ i=>by rw[G]at i;cases i);obtain⟨j,A,k,_,_⟩:=F.body f D.2.1;have l:FQ P L p (Frame.mk f tmps [.code c,NH] [] .run .normal none):=⟨⟨j,k,F.init f D.2.1⟩,λ_=>rfl,λd i=>(by cases i),.inl rfl,rfl,λB m=>by
  simp only[r_,lG,or_false]at m
  obtain rfl|rfl:=m
  .exact M
  .rfl⟩
 obtain⟨y,q⟩:=K e s h hq;obtain⟨t,x⟩:=s;simp only at q;subst q;obtain rfl|rfl:=y
 .exact zW F C E b rfl rfl (λu=>by simp[Frame.atR]) ⟨rfl,t,h.tape,h.drawn,.inl ⟨rfl,hq⟩⟩ l ⟨D.2.2,rfl⟩ (.inl rfl) J
 .obtain⟨g,z⟩:=b.1 rfl;exact zW F C E z rfl rfl (λu=>sJ) ⟨rfl,t,h.tape,h.drawn,.inr ⟨g,rfl,hq⟩⟩ l ⟨D.2.2,rfl⟩ (.inl rfl) J
def Y7 (Od:Old)(P:l_)(Ad:Loc->Prop)(Z:Nat->Prop)(B:Nat)(v:o_)(gs:Array m_)(w:o_)(t:Trace):Prop:=
 ∃q,Yr Od Z v w/\(∀r,Z r->r<v.heap.size)/\Leavers P t gs q/\Past Ad B t/\w.heap.size<=B
theorem pX (F:QE P L p)(hu:Gx Ad Z)(hkd:(kd==CallKind.early)=false){S:Frame->Z_->o_->Prop}{pre:Z_}(h:Fin P L p S fr pre v):
  ∀(rf:Frame)(rs:Z_)(gs:Array m_)(w:o_)(sl:d_ (W_))(t:Trace)(B:Nat)(cs:Z_),Fj P EH kd k ds (fr::pre) (rf::rs)->Y7 Od P Ad Z B v gs w t->gs[0]?=some (G rf (rs++cs))->
   AX P gs w sl t λBA w' t'=>∃Ew C9 v' Qu rs' B',BA[0]?=some (G Qu (rs'++cs))/\Fj P EH kd k ds (Ew::C9) (Qu::rs')/\S Ew C9 v'/\v.heap.size<=v'.heap.size/\B<=B'/\Y7 Od P Ad Z B' v' BA w' t':=by
 refine h (fun fr pre v=>∀(rf:Frame)(rs:Z_)(gs:Array m_)(w:o_)(sl:d_ (W_))(t:Trace)(B:Nat)(cs:Z_),Fj P EH kd k ds (fr::pre) (rf::rs)->Y7 Od P Ad Z B v gs w t->gs[0]?=some (G rf (rs++cs))->
   AX P gs w sl t λBA w' t'=>∃Ew C9 v' Qu rs' B',BA[0]?=some (G Qu (rs'++cs))/\Fj P EH kd k ds (Ew::C9) (Qu::rs')/\S Ew C9 v'/\v.heap.size<=v'.heap.size/\B<=B'/\Y7 Od P Ad Z B' v' BA w' t') ?_ ?_
 .intro fr pre v hS rf rs gs w sl t B cs g f l;exact .now ⟨fr,pre,v,rf,rs,B,l,g,hS,w_,w_,f⟩
 .intro fr pre v Q rf rs gs w sl t B cs g f l;obtain⟨q,T,H,hL,hP,hB⟩:=f;obtain⟨N,i,a1,w1,M,t1,q1,C,z,hs,Y,⟨O,X,V,v1,c,e,rfl,St1,R,u,y,hC⟩,o,s,m⟩:=XM (P:=P) (Ad:=Ad)
   (K:=λU w'=>∃Ew C9 v' Qu rs',U=G Qu (rs'++cs)/\Fj P EH kd k ds (Ew::C9) (Qu::rs')/\Yr Od Z v' w'/\(∀r,Z r->r<v'.heap.size)/\v.heap.size<=v'.heap.size/\
    ∀(rf:Frame)(rs:Z_)(gs:Array m_)(w:o_)(sl:d_ (W_))(t:Trace)(B:Nat)(cs:Z_),Fj P EH kd k ds (Ew::C9) (rf::rs)->Y7 Od P Ad Z B v' gs w t->gs[0]?=some (G rf (rs++cs))->
   AX P gs w sl t λBA w' t'=>∃b I a Qu rs' B',BA[0]?=some (G Qu (rs'++cs))/\Fj P EH kd k ds (b::I) (Qu::rs')/\S b I a/\v'.heap.size<=a.heap.size/\B<=B'/\Y7 Od P Ad Z B' a BA w' t')
   (sumTo gs.size q) gs (G rf (rs++cs)) w sl t q B w_ l rfl hL hP (λd=>by
    obtain⟨Ew,C9,v',Qu,rs',w',W,hC,St',D,E,_,J,hw⟩:=fA F hkd (w:=w.at d) g (T.TP v.tape w.tape v.drawn d) H Q
    refine⟨G Qu (rs'++cs),w',W,max B v'.heap.size,hw true cs,Nat.le_max_left ..,λx hx=>jG hu (Nat.le_max_right ..) (J x hx),?_,Ew,C9,v',Qu,rs',rfl,St',D,λr z=>Nat.lt_of_lt_of_le (H r z) E,E,hC⟩
    rw[<-D.size];exact Nat.le_max_right ..);have n:AX P gs w sl t λBA w' t'=>BA[0]?=some (G c (e++cs))/\Y7 Od P Ad Z C v1 BA w' t':=⟨N,i,w1,M,t1,z,hs,Y,q1,R,u,o,s,O⟩
  refine n.bind λj w2 A t2 _ ⟨k1,k2⟩=>?_
  exact(hC c e j w2 A t2 C cs St1 k2 k1).mono λBA w' t' ⟨Ew,C9,v',Qu,rs',B',j1,j2,j3,j4,j5,j6⟩=>⟨Ew,C9,v',Qu,rs',B',j1,j2,j3,lN y j4,lN m j5,j6⟩
theorem ao3 {Still:Loc->Prop}{Mem Am:Nat->Prop}{h j:Nat}{By:Nat->m_->o_->Trace->Prop}(F:QE P L p)(hu:Gx Ad Z)(BX:Gx Still Z)(O:G8 P Z Ad Still (fun B t=>PX Ad Still Mem Am B h t) j By)(hkd:(kd==CallKind.early)=false)
  {S:Frame->Z_->o_->Prop} {fr:Frame} {pre:Z_} {v:o_} (H:Fin P L p S fr pre v):
  ∀(rf:Frame)(rs:Z_)(gs:Array m_)(w:o_)(sl:d_ (W_))(t:Trace)(q:Nat->Nat)(n B:Nat)(cs:Z_),Fj P EH kd k ds (fr::pre) (rf::rs)->Yr Od Z v w->(∀r,Z r->r<v.heap.size)->gs[h]?=some (G rf (rs++cs))->Duo P Ad Still Mem Am B h j By n gs w t q->
   AX P gs w sl t λBA w' t'=>∃q' n' B' Ew C9 v' Qu rs',BA[h]?=some (G Qu (rs'++cs))/\Fj P EH kd k ds (Ew::C9) (Qu::rs')/\S Ew C9 v'/\Yr Od Z v' w'/\(∀r,Z r->r<v'.heap.size)/\v.heap.size<=v'.heap.size/\B<=B'/\Duo P Ad Still Mem Am B' h j By n' BA w' t' q':=by
 refine H (fun fr pre v=>∀(rf:Frame)(rs:Z_)(gs:Array m_)(w:o_)(sl:d_ (W_))(t:Trace)(q:Nat->Nat)(n B:Nat)(cs:Z_),Fj P EH kd k ds (fr::pre) (rf::rs)->Yr Od Z v w->(∀r,Z r->r<v.heap.size)->gs[h]?=some (G rf (rs++cs))->Duo P Ad Still Mem Am B h j By n gs w t q->
   AX P gs w sl t λBA w' t'=>∃q' n' B' Ew C9 v' Qu rs',BA[h]?=some (G Qu (rs'++cs))/\Fj P EH kd k ds (Ew::C9) (Qu::rs')/\S Ew C9 v'/\Yr Od Z v' w'/\(∀r,Z r->r<v'.heap.size)/\v.heap.size<=v'.heap.size/\B<=B'/\Duo P Ad Still Mem Am B' h j By n' BA w' t' q') ?_ ?_
 .intro fr pre v hS rf rs gs w sl t q n B cs f T c l D;exact .now ⟨q,n,B,fr,pre,v,rf,rs,l,f,hS,T,c,w_,w_,D⟩
 .intro fr pre v U rf rs gs w sl t q n B cs f T c l D;obtain⟨N,g,a1,w1,R,t1,q1,n1,E,z,hs,h1,⟨fr1,X,v1,d,e,rfl,St1,V,s,y,hC⟩,m,M⟩:=kK O
   (Kst:=λW w'=>∃Ew C9 v' Qu rs',W=G Qu (rs'++cs)/\Fj P EH kd k ds (Ew::C9) (Qu::rs')/\Yr Od Z v' w'/\(∀r,Z r->r<v'.heap.size)/\v.heap.size<=v'.heap.size/\
    ∀(rf:Frame)(rs:Z_)(gs:Array m_)(w:o_)(sl:d_ (W_))(t:Trace)(q:Nat->Nat)(n B:Nat)(cs:Z_),Fj P EH kd k ds (Ew::C9) (rf::rs)->Yr Od Z v' w->(∀r,Z r->r<v'.heap.size)->gs[h]?=some (G rf (rs++cs))->Duo P Ad Still Mem Am B h j By n gs w t q->
   AX P gs w sl t λBA w' t'=>∃q' n' B' b K a Qu rs',BA[h]?=some (G Qu (rs'++cs))/\Fj P EH kd k ds (b::K) (Qu::rs')/\S b K a/\Yr Od Z a w'/\(∀r,Z r->r<a.heap.size)/\v'.heap.size<=a.heap.size/\B<=B'/\Duo P Ad Still Mem Am B' h j By n' BA w' t' q')
   (n+sumTo gs.size q) n gs (G rf (rs++cs)) w sl t q B w_ l rfl D (λw1 A=>by
    obtain⟨Ew,C9,v',Qu,rs',w',Y,hC,St',I,J,u,Q,hw⟩:=fA F hkd (w:=w1) f (T.off c A) c U
    refine⟨G Qu (rs'++cs),w',Y,max B v'.heap.size,hw (h==0) cs,Nat.le_max_left ..,λx hx=>bk7 hu BX (Nat.le_max_right ..) (Q x hx),u,?_,Ew,C9,v',Qu,rs',rfl,St',I,λr z=>Nat.lt_of_lt_of_le (c r z) J,J,hC⟩
    rw[<-I.size];exact Nat.le_max_right ..);have o:AX P gs w sl t λBA w' t'=>BA[h]?=some (G d (e++cs))/\Yr Od Z v1 w'/\∃q' n',Duo P Ad Still Mem Am E h j By n' BA w' t' q':=⟨N,g,w1,R,t1,z,hs,h1,V,q1,n1,M⟩
  refine o.bind λi w2 C t2 _ ⟨k1,k2,q2,n2,k3⟩=>?_
  exact(hC d e i w2 C t2 q2 n2 E cs St1 k2 s k1 k3).mono λBA w' t' ⟨q',n',B',Ew,C9,v',Qu,rs',j1,j2,j3,j4,j5,j6,j7,j8⟩=>⟨q',n',B',Ew,C9,v',Qu,rs',j1,j2,j3,j4,j5,lN y j6,lN m j7,j8⟩
end
end Go.Fxa
namespace Go.Fxa
open Go.Conc
theorem Yr.kill {Od:Old}{Z Z':Nat->Prop}{v w:o_}(T:Yr Od Z v w)(k:∀r,Z r->Z' r)(j:∀r,Z' r->¬Od.dead r):∃v',Yr Od Z' v' w/\v'.heap.size=v.heap.size/\(∀r,¬Z' r->v'.heap[r]?=v.heap[r]?)/\v'.os=v.os/\v'.output=v.output:=by
 classical
 refine⟨{v with heap:=Array.ofFn (n:=v.heap.size) λi=>if Z' i then DV else v.heap[i]},⟨?_,λr b a=>?_,λr b g=>?_,λr o d=>?_,T.os,T.output,λr a=>?_,T.kept,λr a c=>j r c a⟩,sJ,λr b=>?_,rfl,rfl⟩
 .simpa using T.size
 .rw[<-T.same r (λh=>b (k r h)) a];by_cases h:r<v.heap.size<;>simp[h,b]
 .have:r<v.heap.size:=by simpa using g
  simp[this,b]
 .by_cases h:r<v.heap.size
  .by_cases f:Z' r
   .simp[h,f]at d;subst d;rfl
   .simp[h,f]at d;exact T.plain r o (by rw[v_ h,d])
  .simp[h]at d
 .have e:=T.KN r a;have h:=(y_.1 e).1;have b:¬Z' r:=λc=>j r c a
  rw[v_ h]at e;simpa [h,b]using x_ e
 .by_cases h:r<v.heap.size<;>simp[h,b]
theorem Past.shun {Ad d:Loc->Prop}{B:Nat}{t:Trace}(h:Past Ad B t)(e:∀l,Ad l->d l):Past d B t:=
 ⟨h.clean,λi a b c=>(h.known i a b c).imp id λx=>⟨e _ x.1,x.2⟩,h.over,h.hears,h.seen⟩
end Go.Fxa
namespace Go.Fxa
open Go.Conc
open Go.ConcN (sumTo upd sumTo_upd upd_ne upd_same)
variable {cs:Z_}{Od:Old}{K J:o_->Prop}{k:List Item}{a a':m_}{P:l_}{main:Bool}{x:Frame×Z_}{vs:U_}{aH:List f_}{y:n_}{w:o_}{id:Nat}{ops:Array Oper}
structure V4 (P:l_)(L:h_->Prop)(p:h_->Oper->Bool)(N:Fence):Prop where
 EY:QE P L p
 alive:N.alive=true
 depth:N.depth=none
 round:N.round=none
 fn:∀f,N.fn f->L f\/Ext P f
def jc (EH:h_)(kd:CallKind)(k:List Item)(ds:List Deferred)(cs:Z_)(Q:Exit->Act->o_->Prop)(g:m_)(v:o_):Prop:=
 ∃tmps τ d,(g=G (Frame.mk EH tmps k ds .run kd none) cs/\Q .normal ⟨tmps,[]⟩ (v.re τ d))\/(∃todo,g=G (Frame.mk EH tmps todo ds .returning kd none) cs/\Q .ret ⟨tmps,[]⟩ (v.re τ d))
section
variable {P:l_}{L:h_->Prop}{p:h_->Oper->Bool}{N:Fence}{Z:Nat->Prop}{Ad Still:Loc->Prop}{f EH:h_}{kd:CallKind}{k:List Item}{ds:List Deferred}{Q:Exit->Act->o_->Prop}{c:Code}{tmps:X_}{v:o_}{m:Nat}
theorem gX {fr n:Frame}{pre o:Z_}(r:AtEnd Q f fr pre v)(q:Fj P EH kd k ds (fr::pre) (n::o)):jc EH kd k ds cs Q (G n (o++cs)) v:=by
 obtain⟨rfl,t,τ,d,h⟩:=r;obtain⟨xs,fn,m,b,j,c,g,_,_,_⟩:=q;cases xs with
 |cons x xs=>simp at c
 |nil=>
  simp only[List.nil_append,List.cons.injEq,and_true]at c g
  obtain⟨g,rfl⟩:=g
  subst g
  obtain⟨rfl,hq⟩|⟨i,rfl,hq⟩:=h
  .simp only[Frame.mk.injEq]at c;obtain⟨_,rfl,e,_,rfl,_⟩:=c;have:b=[]:=by
    cases b with
    |nil=>rfl
    |cons a l=>simp at e
   subst this;exact⟨t,τ,d,.inl ⟨rfl,hq⟩⟩
  .simp only[Frame.mk.injEq]at c;obtain⟨_,rfl,e,_,rfl,_⟩:=c;exact⟨t,τ,d,.inr ⟨_,rfl,hq⟩⟩
theorem TE (b:su f=false)(hq:∀es,seen P EH es=seen P f es)(c:Code)(tmps:X_):Fj P EH kd k ds [Frame.mk f tmps [.code c,NH] [] .run .normal none] [Frame.mk EH tmps (.code c::k) ds .run kd none]:=
 ⟨[],f,tmps,[.code c],.run,rfl,rfl,hq,b,λh=>(h rfl).elim⟩
theorem MS (z:V4 P L p N)(S:Gx Ad Z)(F:dW L N f)(hq:∀es,seen P EH es=seen P f es)(D:(kd==CallKind.early)=false)(R:c.AP (p f)=true)(O:∀e a w,Q e a w->(e=.normal\/e=.ret)/\a.defers=[])
  (H:∀τ d,c.wpIn N m P Q ⟨tmps,[]⟩ (v.re τ d)) {gs:Array m_} {w:o_} {sl:d_ (W_)} {t:Trace} {B:Nat} {cs:Z_} (E:Y7 Od P Ad Z B v gs w t) (M:gs[0]?=some (G (Frame.mk EH tmps (.code c::k) ds .run kd none) cs)):
  AX P gs w sl t λC w' I=>∃g v' A,C[0]?=some g/\jc EH kd k ds cs Q g v'/\v.heap.size<=v'.heap.size/\B<=A/\Y7 Od P Ad Z A v' C w' I:=by
 have T:=E.choose_spec.1;have b:=gp z.EY z.alive z.depth z.round z.fn F R T.plain O H;refine(pX z.EY S D b _ [] gs w sl t B cs (TE F.2.2 hq c tmps) E M).mono λC w' I ⟨s,r,v',u,q,A,h,i,j,l,n,o⟩=>?_
 exact⟨_,v',A,h,gX j i,l,n,o⟩
theorem ϯ {Mem Am:Nat->Prop}{h j:Nat}{S:Nat->m_->o_->Trace->Prop}(I:V4 P L p N)(hu:Gx Ad Z)(BX:Gx Still Z)(O:G8 P Z Ad Still (fun B t=>PX Ad Still Mem Am B h t) j S)(X:dW L N f)(hq:∀es,seen P EH es=seen P f es)(U:(kd==CallKind.early)=false)(hc:c.AP (p f)=true)
  (hQ:∀e a w,Q e a w->(e=.normal\/e=.ret)/\a.defers=[]) (H:∀τ d,c.wpIn N m P Q ⟨tmps,[]⟩ (v.re τ d))
  {gs:Array m_} {w:o_} {sl:d_ (W_)} {t:Trace} {q:Nat->Nat} {n B:Nat} {cs:Z_} (T:Yr Od Z v w) (hZ:∀r,Z r->r<v.heap.size) (h0:gs[h]?=some (G (Frame.mk EH tmps (.code c::k) ds .run kd none) cs)) (D:Duo P Ad Still Mem Am B h j S n gs w t q):
  AX P gs w sl t λR w' Y=>∃W V M g v',R[h]?=some g/\jc EH kd k ds cs Q g v'/\Yr Od Z v' w'/\(∀r,Z r->r<v'.heap.size)/\v.heap.size<=v'.heap.size/\B<=M/\Duo P Ad Still Mem Am M h j S V R w' Y W:=by
 have b:=gp I.EY I.alive I.depth I.round I.fn X hc T.plain hQ H;refine(ao3 I.EY hu BX O U b _ [] gs w sl t q n B cs (TE X.2.2 hq c tmps) T hZ h0 D).mono λR w' Y ⟨W,V,M,E,C,v',F,A,i,l,o,s,u,x,y,z⟩=>?_
 exact⟨W,V,M,_,v',i,gX o l,s,u,x,y,z⟩
end
def Dw (I:o_->Prop):Prop:=∀v τ d,I v->I (v.re τ d)
theorem Dw.back {I:o_->Prop}(h:Dw I){v:o_}{τ:Tape}{d:Nat}(b:I (v.re τ d)):I v:=by
 have:=h (v.re τ d) v.tape v.drawn b;exact this
def cZ (Od:Old)(P:l_)(Z:Nat->Prop)(Ad Still:Loc->Prop)(Mem Am:Nat->Prop)(h j:Nat)(By:Nat->m_->o_->Trace->Prop)(C:m_->o_->Prop)(gs:Array m_)(w:o_)(t:Trace):Prop:=
 ∃q n B g v,gs[h]?=some g/\C g v/\Yr Od Z v w/\(∀r,Z r->r<v.heap.size)/\Duo P Ad Still Mem Am B h j By n gs w t q
section
variable {P:l_}{L:h_->Prop}{p:h_->Oper->Bool}{N:Fence}{Z:Nat->Prop}{Ad Still:Loc->Prop}{Mem Am:Nat->Prop}{h j:Nat}{By:Nat->m_->o_->Trace->Prop}{C C':m_->o_->Prop}{gs:Array m_}{w:o_}{sl:d_ (W_)}{t:Trace}
theorem cZ.mono (H:cZ Od P Z Ad Still Mem Am h j By C gs w t)(d:∀g v,C g v->C' g v):cZ Od P Z Ad Still Mem Am h j By C' gs w t:=by
 obtain⟨q,n,B,g,v,a,b,c⟩:=H;exact⟨q,n,B,g,v,a,d g v b,c⟩
theorem cZ.walk {S0:Loc->Prop}{k:Nat}(F:∀n b w t,By n b w t->∀d,K (w.at d))(E:∀w a,K w->S0 (.cell a)->a.block<w.heap.size)(D:∀l,S0 l->¬Ad l)(O:G8 P Z Ad Still (fun B t=>PX Ad Still Mem Am B h t) j By)
  (H:cZ Od P Z Ad Still Mem Am h j By (λg v=>g=a/\J v) gs w t) (G:RW P (h==0) K S0 k a a'):AX P gs w sl t (cZ Od P Z Ad Still Mem Am h j By (λg v=>g=a'/\J v)):=by
 obtain⟨q,n,B,g,v,f,⟨rfl,i⟩,m,c,o⟩:=H;exact(uo F E D O k G f o).mono λy A z ⟨x,u,e,p,r,_,s⟩=>⟨x,u,e,_,v,p,⟨rfl,i⟩,m.off c r,c,s⟩
theorem cZ.Uz {k:Nat}(A:∀n b w t,By n b w t->∀d,K (w.at d))(O:G8 P Z Ad Still (fun B t=>PX Ad Still Mem Am B h t) j By)
  (H:cZ Od P Z Ad Still Mem Am h j By (λg v=>g=a/\J v) gs w t) (D:Ls P K (h==0) k a a'):AX P gs w sl t (cZ Od P Z Ad Still Mem Am h j By (λg v=>g=a'/\J v)):=by
 obtain⟨q,n,B,g,v,f,⟨rfl,i⟩,l,c,m⟩:=H;exact(Ie A O k D f m).mono λx z y ⟨u,s,e,o,p,_,r⟩=>⟨u,s,e,_,v,o,⟨rfl,i⟩,l.off c p,c,r⟩
theorem cZ.piece {f EH:h_}{kd:CallKind}{ds:List Deferred}{Q:Exit->Act->o_->Prop}{c:Code}{tmps:X_}{m:Nat}(S:V4 P L p N)(W:Gx Ad Z)(R:Gx Still Z)(O:G8 P Z Ad Still (fun B t=>PX Ad Still Mem Am B h t) j By)(V:dW L N f)(hq:∀es,seen P EH es=seen P f es)(M:(kd==CallKind.early)=false)(U:c.AP (p f)=true)
  (T:∀e a w,Q e a w->(e=.normal\/e=.ret)/\a.defers=[]) (X:∀v,J v->∀τ d,c.wpIn N m P Q ⟨tmps,[]⟩ (v.re τ d))
  (H:cZ Od P Z Ad Still Mem Am h j By (λg v=>g=G (Frame.mk EH tmps (.code c::k) ds .run kd none) cs/\J v) gs w t):AX P gs w sl t (cZ Od P Z Ad Still Mem Am h j By (jc EH kd k ds cs Q)):=by
 obtain⟨q,n,B,g,v,i,⟨rfl,l⟩,o,r,s⟩:=H;exact(ϯ S W R O V hq M U T (X v l) o r i s).mono λF K I ⟨D,C,b,g,E,u,x,y,z,_,_,A⟩=>⟨D,C,b,g,E,u,x,y,z,A⟩
end
section
variable {P:l_}{Z:Nat->Prop}{Ad Still:Loc->Prop}{Mem:Nat->Prop}{h j:Nat}{gs:Array m_}{w:o_}{sl:d_ (W_)}{t:Trace}{K K1:o_->Prop}{TT:Trace->Prop}{cJ cH cN:Array CommCase}{ah bZ shN:CommShape}{kh kj c k:Nat}{v z zj:n_}{a gS:m_}{home:m_->Prop}{J:o_->Prop}
structure zA (P:l_)(Z:Nat->Prop)(Ad Still:Loc->Prop)(Mem:Nat->Prop)(h j:Nat)(K K1:o_->Prop)(TT:Trace->Prop)(cJ cH:Array CommCase)(kh kj c:Nat)(v z zj:n_):Prop where
 leans:Tz Z Still K1
 PT:∀w,K1 w->K w
 lasts:dV Ad Still j TT
 meets:Yy Z cH cJ kh kj c v z zj
 ϑ:Mem h
 ϐ:Mem j
 opens:∀w,K1 w->∀(m:Nat) cc,m≠kh->cH[m]?=some cc->GG w cc
 keeps:∀w d k,K1 w->K1 ((w.at d).setChan c 0 #[] false k k false)
theorem cZ.give (M:zA P Z Ad Still Mem h j K K1 TT cJ cH kh kj c v z zj)(hoN:∀w,K1 w->∀cc∈cN,GG w cc)(BJ:a.status=.running)(IQ:∀w,stepG P (h==0) a w=.comm a cH true bZ w #[])
  (Y:Ho P (h==0) K Still cN shN home k (Conc.served a (commResult cH bZ kh undef false)))
  (H:cZ Od P Z Ad Still Mem (λg=>g=j) h j (O0 P (j==0) K K1 TT Still cJ ah (·=gS)) (λg v=>g=a/\J v) gs w t):
  AX P gs w sl t (cZ Od P Z Ad Still Mem (λg=>g=h) j h (O0 P (h==0) K K1 TT Still cN shN home) (λg v'=>g=Conc.served gS (commResult cJ ah kj v true)/\J v')):=by
 obtain⟨q,n,B,g,v0,m,⟨rfl,o⟩,T,A,D⟩:=H;obtain⟨b,hb,p⟩:=D.idle;have υ:K1 w:=p.1.1;refine(Zc (Am:=λg=>g=j) M.leans M.PT M.lasts M.meets M.ϑ M.ϐ rfl (es:=#[]) (n+sumTo gs.size q+1) n gs g w sl t q B wB m BJ D (M.opens w υ) (λd=>IQ (w.at d)) sJ).bind λO W R V Q C=>?_
 obtain⟨N,y,d,e,m1,m2,m3,S,U,rfl,G,I,L,u,_⟩:=C;have s:Z c:=by
  obtain⟨E,X,x,r⟩:=M.meets.hrj _ (Array.mem_of_getElem? M.meets.hkj)
  have:c=E:=by simp[rcase]at x;exact x.1
  rw[this];exact r
 have off:CS Z w ((w.at d).setChan c 0 #[] false (e+1) (e+1) false):=Nk s w d (e+1) false;have f:K1 ((w.at d).setChan c 0 #[] false (e+1) (e+1) false):=M.keeps w d (e+1) υ;refine .now ⟨N,k+1,B,_,v0,m2,⟨by rw[m3],o⟩,T.off A off,A,⟨D.ne.symm,D.zero.symm,λg l=>(D.mem g l).symm,⟨_,m1,⟨f,u⟩,hoN _ f,.inr ⟨k,rfl,rfl,Y⟩⟩,λi g m o F=>G i g o m F,I,L.loosen (λg l=>(l.2 l.1).elim),?_⟩⟩;rw[JI];exact D.size
end
def G6 (P:l_)(x:Frame×Z_)(vs:U_):d_ (List f_×n_):=match XC x with
 |some o=>match (execOp x.1.eval o).feed P vs with
  |some (l,.value y)=>if(P.funcs[x.1.fn]?).any (·.norace)then none else some (l,y)
  |_=>none
 |none=>none
theorem ZF (h:G6 P x vs=some (aH,y))(d:Cells w aH vs):stepG P main (BO x) w=.go (BO (BK x y)) w (Ig aH):=by
 unfold G6 at h;split at h
 .rename_i o b;split at h
  .rename_i l c a;split at h
   .cases h
   .rename_i hq;simp only[l7,lQ]at h;obtain⟨rfl,rfl⟩:=h;exact zO b a d (by simpa using hq)
  .cases h
 .cases h
theorem Qk {Od:Old}{Z:Nat->Prop}{v w:o_}(T:Yr Od Z v w):∀{aH:List f_} {vs:U_},Cells v aH vs->Cells w aH vs/\∀a∈aH,¬Z a.block/\a.block<w.heap.size
 |[],_,_=>⟨dE,sJ⟩
 |a::aH,[],h=>h.elim
 |a::aH,v0::vs,h=>by
  obtain⟨d,e⟩:=h
  obtain⟨c,c2,c3,_⟩:=T.cell d
  obtain⟨d1,d2⟩:=Qk T e
  refine⟨⟨c,d1⟩,λb hb=>?_⟩
  obtain rfl|hb:=r_.1 hb
  .exact⟨c2,c3⟩
  .exact d2 b hb
def UZ (x:Frame×Z_):d_ (Nat×Array Oper×List Item):=match x.1.roundOf,x.1.mode,x.1.todo with
 |none,.run,.code (.region id ops true)::k=>some (id,ops,k)
 |_,_,_=>none
def ordered (x:Frame×Z_)(ops:Array Oper)(k:List Item)(l:List Nat):Frame×Z_:=({x.1 with todo:=.inRegion ops l::k},x.2)
def GK (ops:Array Oper)(listed:Array Bool):List Nat:=(List.range ops.size).filter λi=>!listed.getD i true && ((ops[i]?).map (·.after.all λe=>!Region.binds .any e || listed.getD e.on false)).getD false
def QQ (ops:Array Oper):Nat->Array Bool->List (List Nat)
 |0,_=>[[]]
 |fuel+1,listed=>if(GK ops listed).isEmpty then[[]]else(GK ops listed).flatMap λi=>(QQ ops fuel (listed.setIfInBounds i true)).map (i::·)
theorem Γ (ops:Array Oper):∀(h t:Nat)(listed:Array Bool)(j:List Nat),∃l∈QQ ops h listed,Region.linearise.go .any ops h t listed j=j.reverse++l
 |0,t,listed,j=>⟨[],by simp[QQ],by simp[Region.linearise.go]⟩
 |h+1,t,listed,j=>by
  have d:Region.linearise.go .any ops (h+1) t listed j=match (GK ops listed)[t % (GK ops listed).length]? with
   |some i=>Region.linearise.go .any ops h (t / (GK ops listed).length) (listed.setIfInBounds i true) (i::j)
   |none=>j.reverse:=rfl
  rw[d]
  cases hi:(GK ops listed)[t % (GK ops listed).length]? with
  |some i=>
   obtain⟨l,f,e⟩:=Γ ops h (t / (GK ops listed).length) (listed.setIfInBounds i true) (i::j)
   refine⟨i::l,?_,by simp only;rw[e];simp⟩
   have b:=t_ hi
   have c:(GK ops listed).isEmpty=false:=by
    cases hrs:GK ops listed with
    |nil=>rw[hrs]at b;cases b
    |cons=>rfl
   simp only[QQ,c,jb,if_false]
   exact List.mem_flatMap.2 ⟨i,b,List.mem_map.2 ⟨l,f,rfl⟩⟩
  |none=>
   have g:GK ops listed=[]:=by
    rw[List.getElem?_eq_none_iff]at hi
    cases hrs:GK ops listed with
    |nil=>rfl
    |cons a l=>
     rw[hrs]at hi
     have:=Nat.mod_lt t (show 0<(a::l).length by simp)
     omega
   refine⟨[],?_,sJ⟩
   simp[QQ,g]
theorem kD (b:P.follows .mixedOrders=true)(ops:Array Oper)(t:Nat):Region.schedule (P.follows .mixedOrders) ops t∈QQ ops ops.size (Array.replicate ops.size false):=by
 rw[b];obtain⟨l,a,e⟩:=Γ ops ops.size t (Array.replicate ops.size false) [];have:Region.schedule true ops t=l:=by
  simp only[Region.schedule,Bool.true_or,if_true,Region.linearise]
  rw[e];simp
 rw[this];exact a
theorem ab9 (h:UZ x=some (id,ops,k))(w:o_):
  stepG P main (BO x) w=.go (BO (ordered x ops k (Region.schedule (P.follows .mixedOrders) ops (w.tape w.drawn (.order x.1.fn id))))) {w with drawn:=w.drawn+1} #[]:=by
 obtain⟨⟨fn,b,c,e,a,kind,f⟩,d⟩:=x;unfold UZ at h;simp only at h;split at h
 .simp only[l7,lQ]at h;obtain⟨rfl,rfl,rfl⟩:=h;simp[BO,ordered,G,stepG,stepG.exec,choose,Sem.run,Question.forced,Question.cut]
 .cases h
def uF (P:l_)(x:Frame×Z_):d_ Deferred:=match XC x with
 |some o=>match (execOp x.1.eval o).Jy P with
  |some (.spawn ⟨.fn (.func f) c,ar⟩)=>some ⟨.fn (.func f) c,ar⟩
  |_=>none
 |none=>none
theorem wV {d:Deferred}(h:uF P x=some d)(w:o_):
  stepG P main (BO x) w=.spawn (BO (BK x undef)) (BO ({ (default:Frame)with fn:=P.funcs.size,defers:=[d],mode:=.panicking [goexitEntry]},[])) w #[]:=by
 unfold uF at h;split at h
 .rename_i o b;split at h
  .rename_i f c e a;obtain rfl:=x_ h;obtain⟨e1,e2⟩:=QX (P:=P) (main:=main) (w:=w) b;show stepG P main (G x.1 x.2) w=_;rw[e1];simp only[stepG.apply,JJ a w #[],if_true,GStep.after,kL,e2,jb,if_false,seen_none,Bool.and_false,Bool.false_and]
   rfl
  .cases h
 .cases h
def Zi (P:l_)(x:Frame×Z_):d_ Nat:=match x.1.roundOf,x.1.mode,x.1.kind==CallKind.early,x.1.todo with
 |none,.run,false,.inRegion ops (i::_)::_=>match ops[i]? with
  |some o=>if Region.wanted o (yielded ops x.1.tmps)then match o.op with
   |.call { callee:=.builtin .close,args:=ar,argTypes:=_}=>match ar.toList with
    |[y]=>match x.1.eval y with
     |.chan (some c)=>if(P.funcs[x.1.fn]?).any (·.norace)then none else some c
     |_=>none
    |_=>none
   |_=>none
   else none
  |none=>none
 |_,_,_,_=>none
theorem ZU {c:Nat}(h:Zi P x=some c){cap s r:Nat}{H:X_}{I:Bool}(L:w.heap[c]?=some (.chan cap H false s r I)):
  stepG P main (BO x) w=.go (BO (BK x (.tuple #[]))) (w.setChan c cap H true s r I) (closeEvents c):=by
 obtain⟨⟨fn,d,t,f,p,kind,G⟩,F⟩:=x;unfold Zi at h;simp only at h;split at h
 .rename_i j i q l D;split at h
  .rename_i o m;split at h
   .rename_i C;split at h
    .rename_i v z u;split at h
     .rename_i y k;have g:v=#[y]:=(by apply Array.ext';simpa using k);subst g;split at h
      .rename_i E n;split at h
       .cases h
       rename_i hq;obtain rfl:=x_ h;have A:kind≠.early:=λe=>by subst e;simp at D
       have B:(Frame.mk fn d (.inRegion j (i::q)::l) f .run kind none).eval=(Act.mk d f).eval:=Frame.eval_at' (Frame.mk fn d [] f .run kind none) ⟨d,f⟩ (.inRegion j (i::q)::l);rw[B]at n;refine(stepG_close (b:=Frame.mk fn d [] f .run kind none) (a:=⟨d,f⟩) (kk:=l) m C A u n L (by simpa using hq)).trans ?_;unfold BK Act.put Frame.at Frame.finish BO;simp only[m,Option.bind_some];cases o.dst<;>rfl
      .cases h
     .cases h
    .cases h
   .cases h
  .cases h
 .cases h
section
variable {P:l_}{Z:Nat->Prop}{Ad Still:Loc->Prop}{Mem Am:Nat->Prop}{h j:Nat}{By:Nat->m_->o_->Trace->Prop}{gs:Array m_}{w:o_}{sl:d_ (W_)}{t:Trace}{J:o_->Prop}
theorem cZ.reads (V:Gx Ad Z)(O:G8 P Z Ad Still (fun B t=>PX Ad Still Mem Am B h t) j By)(X:G6 P x vs=some (aH,y))(W:∀v,J v->Cells v aH vs)
  (H:cZ Od P Z Ad Still Mem Am h j By (λg v=>g=BO x/\J v) gs w t):AX P gs w sl t (cZ Od P Z Ad Still Mem Am h j By (λg v=>g=BO (BK x y)/\J v)):=by
 obtain⟨q,n,B,g,v,A,⟨rfl,s⟩,T,i,D⟩:=H;refine go_duo (Me:=Mem) (Loose':=Am) O A rfl D D.mem λc C w1 o K R U F hB G d=>?_
 have r:Yr Od Z v (w1.at d):=(T.off i F).off i (CS.at w1 d);obtain⟨k,l⟩:=Qk r (W v s);have p:∀e∈Ig aH,aN Ad Still c e:=λe u=>by
  simp only[Ig,eu,List.mem_map]at u
  obtain⟨a,E,rfl⟩:=u
  obtain⟨z1,M⟩:=l a E
  refine⟨λb hb=>?_,sJ,sJ,Nat.lt_of_lt_of_le M o,sJ⟩
  obtain rfl:=x_ hb
  exact⟨λ_=>⟨rfl,λm=>z1 (V.1 _ m)⟩,λm=>(z1 (V.1 _ m)).elim⟩
 refine⟨_,_,_,c,ZF X k,w_,o,G.own p,By,K,?_,λN L I S f z Q=>.now ⟨L,I,c,_,v,f,⟨rfl,s⟩,r,i,z⟩⟩;rw[woken_of_again (O.again hB (w1.at d) (λ_ _=>rfl))];exact O.calm (w1.at d) _ hB (λ_ _=>rfl) (Gn D.ne p)
theorem cZ.draws (I:P.follows .mixedOrders=true)(O:G8 P Z Ad Still (fun B t=>PX Ad Still Mem Am B h t) j By){L:List (List Nat)}(G:UZ x=some (id,ops,k))(hL:QQ ops ops.size (Array.replicate ops.size false)=L)
  (H:cZ Od P Z Ad Still Mem Am h j By (λg v=>g=BO x/\J v) gs w t):AX P gs w sl t (cZ Od P Z Ad Still Mem Am h j By (λg v=>(∃l∈L,g=BO (ordered x ops k l))/\J v)):=by
 obtain⟨q,n,B,g,v,i,⟨rfl,m⟩,T,c,D⟩:=H;refine go_duo (Me:=Mem) (Loose':=Am) O i rfl D D.mem λa o w1 e u C F p hB r d=>?_
 refine⟨_,w1.at (d+1),#[],a,ab9 G _,w_,e,r.own sJ,By,u,?_,λz y s E b f A=>.now ⟨y,s,a,_,v,b,⟨⟨_,by rw[<-hL];exact kD I ops _,rfl⟩,m⟩,(T.off c p).off c (CS.at w1 (d+1)),c,f⟩⟩;rw[woken_of_again (O.again hB (w1.at (d+1)) (λ_ _=>rfl))];exact O.calm (w1.at (d+1)) _ hB (λ_ _=>rfl) (Gn D.ne (B:=a) sJ)
end
end Go.Fxa
namespace Go.Fxa
open Go.Conc
structure al8 (P:l_)(N:Fence)(m:Nat)(r:Nat)(sv:n_)(n:Int)(I:Int->o_->Prop)(Cd:Int->n_->o_->Prop)(Bd:o_->Prop):Prop where
 wp:∀i v f,I i v->0<=i->i<n->∀τ d,(XA P).wpIn N m P (λe a w'=>e=.normal/\a.defers=[]/\∃f' oc x,a.tmps=yP (AQ f' (Fh r sv n i oc x))/\((oc=0/\I (i+1) w')\/(oc=1/\Cd i x w')\/(oc=2/\Bd w'))) ⟨yP (AQ f (Ob r sv n i)),[]⟩ (v.re τ d)
 tI:∀i,Dw (I i)
 tC:∀i x,Dw (Cd i x)
 tB:Dw Bd
def cq1 (P:l_)(r q0 q2 q3:Nat)(sv:n_)(n lo:Int)(Y:Z_)(I:Int->o_->Prop)(Cd:Int->n_->o_->Prop)(Bd:o_->Prop)(g:m_)(v:o_):Prop:=
 (∃i f x,lo<=i/\i<n/\g=BO (k3 P q0 q3 (AQ f (Fh r sv n i 1 x)) Y)/\Cd i x v)\/(∃i f x,g=BO (e3 P q2 q3 (AQ f (Fh r sv n i 2 x)) Y)/\Bd v)\/(∃f,g=BO (d3 P q2 q3 (AQ f (Ob r sv n n)) Y)/\I n v)
section
variable {P:l_}{L:h_->Prop}{p:h_->Oper->Bool}{N:Fence}{m:Nat}{Z:Nat->Prop}{Ad Still:Loc->Prop}{Mem Am:Nat->Prop}{c:Nat}{By:Nat->m_->o_->Trace->Prop}{K:o_->Prop}{b5 b2 b3 r q0 q1 q2 q3:Nat}{sv:n_}{n:Int}{I:Int->o_->Prop}{Cd:Int->n_->o_->Prop}{Bd:o_->Prop}{Y:Z_}{ag7:h_}
theorem yw {Od:Old}(F:Eu P b5 b2 b3 r q0 q1 q2 q3 sv n)(R:TZ K Still b5 b2 b3 r q0 q1 q2 q3 sv n)(S:al8 P N m r sv n I Cd Bd)(hn:n<=1000)(FN:V4 P L p N)(hu:Gx Ad Z)(cx8:Gx Still Z)
  (hJ:∀n b w t,By n b w t->∀d,K (w.at d)) (BX:∀w a,K w->Still (.cell a)->a.block<w.heap.size) (hSS:∀l,Still l->¬Ad l) (O:G8 P Z Ad Still (λB t=>PX Ad Still Mem Am B c t) 0 By)
  (hf:dW L N ag7) (hq:∀es,seen P 136 es=seen P ag7 es) (hc2:(XA P).AP (p ag7)=true) {lo:Int} (hlo:0<=lo):
  ∀(k:Nat)(i:Int)(f:Y_)(gs:Array m_)(w:o_)(sl:d_ (W_))(t:Trace),(n-i).toNat<=k->lo<=i->i<=n->
  cZ Od P Z Ad Still Mem Am c 0 By (λg v=>g=BO (LH P (AQ f (Ob r sv n i)) Y)/\I i v) gs w t->AX P gs w sl t (cZ Od P Z Ad Still Mem Am c 0 By (cq1 P r q0 q2 q3 sv n lo Y I Cd Bd)):=by
 intro k
 induction k with
 |zero=>
  intro i f gs w sl t hk h0 D H
  obtain rfl:i=n:=wB
  refine(H.walk (sl:=sl) hJ BX hSS O (Xp F R f Y wB)).mono λA X W o=>o.mono λg v ⟨s,j⟩=>.inr (.inr ⟨f,s,j⟩)
 |succ k ih=>
  intro i f gs w sl t hk h0 D H
  by_cases hi:i<n
  .obtain⟨f1,E⟩:=yu (main:=c==0) (K:=K) (Still:=Still) F f Y hi;refine(H.walk (sl:=sl) hJ BX hSS O E).bind λgs1 w1 JL t1 _ H1=>?_
   refine(cZ.piece (sl:=JL) FN hu cx8 O hf hq rfl hc2 (λe a w h=>⟨.inl h.1,h.2.1⟩) (λv j=>S.wp i v f1 j wB hi) H1).bind λgs2 w2 u t2 _ H2=>?_
   obtain⟨q,U,B,g,v,G,⟨tm,τ,d,hb⟩,M,Q,T⟩:=H2;obtain⟨rfl,_,_,y,oc,x,ht,h⟩|⟨todo,_,he,_⟩:=hb
   .simp only at ht;subst ht;obtain⟨rfl,h⟩|⟨rfl,h⟩|⟨rfl,h⟩:=h
    .obtain⟨f2,z⟩:=aw0 (main:=c==0) (K:=K) (Still:=Still) F y Y i x;have e:IntKind.i64.wrap (i+1)=i+1:=(by simp[IntKind.wrap,IntKind.bits,IntKind.signed];omega);rw[e]at z;refine(cZ.walk (sl:=u) (J:=I (i+1)) hJ BX hSS O ⟨q,U,B,_,v,G,⟨rfl,(S.tI _).back h⟩,M,Q,T⟩ z).bind λC w3 V t3 _ H3=>?_
     exact ih (i+1) f2 C w3 V t3 wB wB wB H3
    .refine(cZ.walk (sl:=u) (J:=Cd i x) hJ BX hSS O ⟨q,U,B,_,v,G,⟨rfl,(S.tC _ _).back h⟩,M,Q,T⟩ (qU F R y Y i x)).mono λA X W o=>o.mono λg v ⟨s,j⟩=>.inl ⟨i,y,x,h0,hi,s,j⟩
    .refine(cZ.walk (sl:=u) (J:=Bd) hJ BX hSS O ⟨q,U,B,_,v,G,⟨rfl,S.tB.back h⟩,M,Q,T⟩ (ac5 F R y Y i x)).mono λA X W o=>o.mono λg v ⟨s,j⟩=>.inr (.inl ⟨i,y,x,s,j⟩)
   .cases he
  .obtain rfl:i=n:=wB;refine(H.walk (sl:=sl) hJ BX hSS O (Xp F R f Y wB)).mono λA X W o=>o.mono λg v ⟨s,j⟩=>.inr (.inr ⟨f,s,j⟩)
end
end Go.Fxa
namespace Go.Fxa
open Go.Conc Go.Proofs
variable {n:Nat}{x:Frame×Z_}{fn:h_}{todo:List Item}{ds:List Deferred}{kd:CallKind}{Y:Z_}{l:List (Nat×n_)}
def TN (n:Nat)(f:Y_):X_:=((List.range n).map f).toArray
theorem YK {T:X_}(h:T.size=n):T=TN n λi=>T.getD i undef:=by
 apply Array.ext
 .simp[TN,h]
 .intro i a b;simp[TN,Array.getD,a]
theorem at_toldN (h:Ea x=(fn,todo,ds,.run,kd,none,Y))(i:X3 x (l.map (·.1))=l.map (·.2))(j:x.1.tmps.size=n):
  x=(Frame.mk fn (TN n (AQ (slot x) l)) todo ds .run kd none,Y):=by
 rw[We i];obtain⟨⟨a,b,c,d,e,f,g⟩,y⟩:=x;simp only[Ea,lQ]at h;obtain⟨rfl,rfl,rfl,rfl,rfl,rfl,rfl⟩:=h;simp only[lQ,Frame.mk.injEq,and_true,true_and];exact YK j
section
variable (P:l_)(r q0 q1 q3:Nat)(sv:n_)(n i:Int)(w A:n_)(f g:Y_)(Y:Z_)(td:List Item)
def a0:=BK (m3 P q0 q1 q3 w f Y) (commResult (G5 q1 q3) .select 0 A true)
def a1:=run P 6 (a0 P q0 q1 q3 w A f Y)
def aX:Code:=match (a1 P 0 0 0 (a_ 0) sH (AQ u0 (Fh 0 (pr 0) 0 0 1 (a_ 0))) []).1.todo with
 |.code c::_=>c
 |_=>.skip
def bn4:List Item:=(a1 P 0 0 0 (a_ 0) sH (AQ u0 (Fh 0 (pr 0) 0 0 1 (a_ 0))) []).1.todo.tail
def YA:=(m3 P q0 q1 q3 w f Y).2
def slA:List (Nat×n_):=[(1,sv),(29,commResult (G5 q1 q3) .select 0 A true)]
def a2:Frame×Z_:=(Frame.mk 187 (TN 49 (AQ g [(6,.bool true)])) td [] .returning .normal none,YA P q0 q1 q3 w f Y)
end
structure Vp (P:l_)(r q0 q1 q3:Nat)(sv:n_)(n:Int):Prop where
 h1:∀(f:Y_)(Y:Z_)(i:Int)(w A:n_),AU P 6 (a0 P q0 q1 q3 w A (AQ f (Fh r sv n i 1 w)) Y)=some []
 h2:∀(f:Y_)(Y:Z_)(i:Int)(w A:n_),Ea (a1 P q0 q1 q3 w A (AQ f (Fh r sv n i 1 w)) Y)=(187,.code (aX P)::bn4 P,[],.run,.normal,none,YA P q0 q1 q3 w (AQ f (Fh r sv n i 1 w)) Y)
 h3:∀(f:Y_)(Y:Z_)(i:Int)(w A:n_),X3 (a1 P q0 q1 q3 w A (AQ f (Fh r sv n i 1 w)) Y) [1,29]=[sv,commResult (G5 q1 q3) .select 0 A true]
 h4:∀(f:Y_)(Y:Z_)(i:Int)(w A:n_),(a1 P q0 q1 q3 w A (AQ f (Fh r sv n i 1 w)) Y).1.tmps.size=49
 j1:∀(f g:Y_)(Y:Z_)(td:List Item)(i:Int)(w:n_),AU P 12 (a2 P q0 q1 q3 w (AQ f (Fh r sv n i 1 w)) g Y td)=some []
 j2:∀(f g:Y_)(Y:Z_)(td:List Item)(i:Int)(w:n_),Ea (run P 12 (a2 P q0 q1 q3 w (AQ f (Fh r sv n i 1 w)) g Y td))=(136,iL P,[],.run,.normal,none,Y)
 j3:∀(f g:Y_)(Y:Z_)(td:List Item)(i:Int)(w:n_),X3 (run P 12 (a2 P q0 q1 q3 w (AQ f (Fh r sv n i 1 w)) g Y td)) [0,1,8,9]=[pr r,sv,b_ n,b_ (IntKind.i64.wrap (i+1))]
 j4:∀(f g:Y_)(Y:Z_)(td:List Item)(i:Int)(w:n_),(run P 12 (a2 P q0 q1 q3 w (AQ f (Fh r sv n i 1 w)) g Y td)).1.tmps.size=32
section
variable {r q0 q1 q3:Nat}{sv:n_}{n:Int}
theorem ad2:Vp prog r q0 q1 q3 sv n:=by
 constructor<;>intros<;>kernel_rfl
end
section
variable {P:l_}{K:o_->Prop}{Still:Loc->Prop}{main:Bool}{r q0 q1 q3:Nat}{sv:n_}{n:Int}
theorem ae (F:Vp P r q0 q1 q3 sv n)(f:Y_)(Y:Z_)(i:Int)(w A:n_):
  ∃a,RW P main K Still 6 (Conc.served (BO (m3 P q0 q1 q3 w (AQ f (Fh r sv n i 1 w)) Y)) (commResult (G5 q1 q3) .select 0 A true)) (BO (Frame.mk 187 (TN 49 (AQ a (slA q1 q3 sv A))) (.code (aX P)::bn4 P) [] .run .normal none,YA P q0 q1 q3 w (AQ f (Fh r sv n i 1 w)) Y)):=by
 have h:RW P main K Still 6 (BO (a0 P q0 q1 q3 w A (AQ f (Fh r sv n i 1 w)) Y)) (BO (a1 P q0 q1 q3 w A (AQ f (Fh r sv n i 1 w)) Y)):=RW.AU (F.h1 f Y i w A);have e:=at_toldN (l:=slA q1 q3 sv A) (F.h2 f Y i w A) (F.h3 f Y i w A) (F.h4 f Y i w A);refine⟨slot (a1 P q0 q1 q3 w A (AQ f (Fh r sv n i 1 w)) Y),?_⟩;rw[e]at h;exact h
theorem qW (F:Vp P r q0 q1 q3 sv n)(f g:Y_)(Y:Z_)(a:List Item)(i:Int)(w:n_):
  ∃b,RW P main K Still 12 (BO (a2 P q0 q1 q3 w (AQ f (Fh r sv n i 1 w)) g Y a)) (BO (LH P (AQ b (Ob r sv n (IntKind.i64.wrap (i+1)))) Y)):=by
 have h:=RW.AU (main:=main) (K:=K) (Still:=Still) (F.j1 f g Y a i w);have e:=at_told (l:=Ob r sv n (IntKind.i64.wrap (i+1))) (F.j2 f g Y a i w) (F.j3 f g Y a i w) (F.j4 f g Y a i w);refine⟨slot (run P 12 (a2 P q0 q1 q3 w (AQ f (Fh r sv n i 1 w)) g Y a)),?_⟩;rw[e]at h;exact h
end
theorem at_toldM {m:FrameMode}(h:Ea x=(fn,todo,ds,m,kd,none,Y))(i:X3 x (l.map (·.1))=l.map (·.2))(j:x.1.tmps.size=n):
  x=(Frame.mk fn (TN n (AQ (slot x) l)) todo ds m kd none,Y):=by
 rw[We i];obtain⟨⟨a,b,c,d,e,f,g⟩,y⟩:=x;simp only[Ea,lQ]at h;obtain⟨rfl,rfl,rfl,rfl,rfl,rfl,rfl⟩:=h;simp only[lQ,Frame.mk.injEq,and_true,true_and];exact YK j
def hdC (x:Frame×Z_):Code:=match x.1.todo with
 |.code c::_=>c
 |_=>.skip
def tlT (x:Frame×Z_):List Item:=x.1.todo.tail
def below (x:Frame×Z_):Frame×Z_:=match x.2 with
 |c::cs=>(c,cs)
 |[]=>(default,[])
def pv (pa:f_):n_:=.pointer (some pa)
def Di:n_:=.slice none 0 0
def ω:f_:=(R_ 0)
def uZ (P:l_)(x:Frame×Z_):d_ (Array CommCase×CommShape):=match XC x with
 |some o=>match (execOp x.1.eval o).Jy P with
  |some (.comm cs true sh)=>some (cs,sh)
  |_=>none
 |none=>none
theorem gz {P:l_}{main:Bool}{cs:Array CommCase}{sh:CommShape}(h:uZ P x=some (cs,sh))(w:o_):stepG P main (BO x) w=.comm (BO x) cs true sh w #[]:=by
 unfold uZ at h;split at h
 .rename_i o c;split at h
  .rename_i a d b;simp only[l7,lQ]at h;obtain⟨rfl,rfl⟩:=h;exact Χ c b
  .cases h
 .cases h
def rV (kv:n_)(pa:f_)(n:Int)(told:n_):List (Nat×n_):=[(0,kv),(1,pv pa),(2,b_ n),(7,told)]
def slS (kv:n_)(pa:f_)(told:n_)(r:Nat):List (Nat×n_):=[(0,kv),(1,pv pa),(7,told),(8,pr r)]
def slX (kv:n_)(pa:f_)(told:n_)(r:Nat)(x:n_):List (Nat×n_):=[(0,kv),(1,pv pa),(7,told),(8,pr r),(9,x)]
def slF (kv:n_)(pa:f_)(told:n_)(r bA:Nat):List (Nat×n_):=[(0,kv),(1,pv pa),(7,told),(8,pr r),(10,pr bA),(59,.bool false)]
def ύ (b2 b3 b5:Nat):List (Nat×n_):=[(2,pr b2),(3,pr b3),(5,pr b5)]
def ad5 (r:Nat)(A:n_)(bB:Nat):List (Nat×n_):=[(0,pr r),(1,A),(3,pr bB)]
def O9 (q0 q2:Nat):Array CommCase:=#[rcase q0 (a_ 0),rcase q2 (b_ 0)]
def lU (q1:Nat)(A:n_):Array CommCase:=#[scase q1 A (.tuple #[])]
def QA (r:Nat):List Deferred:=[⟨.fn (.func 94) #[],#[pr r]⟩]
section
variable (P:l_)(kv:n_)(pa:f_)(n:Int)(told:n_)(f g:Y_)(cs Y:Z_)(b2 b3 b5 r q0 q1 q2 q3 bA bB:Nat)(x A:n_)(o:Int)(td:List Item)
def z0:Frame×Z_:=(Frame.enter P 56 #[kv,pv pa,b_ n] .normal,cs)
def z1:=run P 9 (z0 P kv pa n cs)
def R2:Code:=hdC (z1 P (pr 0) ω 0 [])
def T2:List Item:=tlT (z1 P (pr 0) ω 0 [])
def f56 (ds:List Deferred):Frame×Z_:=(Frame.mk 56 (TN 76 f) td ds .run .normal none,cs)
def R3:Code:=hdC (run P 1 (f56 u0 [] (T2 P) []))
def T3:List Item:=tlT (run P 1 (f56 u0 [] (T2 P) []))
def z5:=run P 8 (f56 (AQ f (rV kv pa n told)) cs (T3 P) [])
def S0:Code:=hdC (z5 P (pr 0) ω 0 Di u0 [])
def U0:List Item:=tlT (z5 P (pr 0) ω 0 Di u0 [])
def Y4:=(z5 P kv pa n told f cs).2
def f93:Frame×Z_:=(Frame.mk 93 (TN 18 g) td [] .run .normal none,Y)
def S1:Code:=hdC (run P 1 (f93 u0 [] (U0 P)))
def U1:List Item:=tlT (run P 1 (f93 u0 [] (U0 P)))
def y3:=run P 2 (f93 (AQ g (ύ b2 b3 b5)) Y (U1 P))
def y4:=run P 3 (BK (y3 P g Y b2 b3 b5) (pr r))
def cA:Frame:=(below (y4 P g Y b2 b3 b5 r)).1
def y5:Frame×Z_:=((cA P g Y b2 b3 b5 r).finish (.tuple #[]),Y)
def y6:=run P 4 (y5 P g Y b2 b3 b5 r)
def y7:=run P 3 (BK (y6 P g Y b2 b3 b5 r) undef)
def y8:=run P 28 (BK (y7 P g (Y4 P kv pa n told f cs) b2 b3 b5 r) (pr r))
def y9:=run P 17 (BK (y8 P kv pa n told f g cs b2 b3 b5 r) (D5 q0))
def y10:=run P 7 (BK (y9 P kv pa n told f g cs b2 b3 b5 r q0) (D5 q2))
def yV:List Item:=(y10 P (pr 0) ω 0 Di u0 u0 [] 0 0 0 0 0 0).1.todo
def kS:Frame×Z_:=f56 f cs (yV P) (QA r)
def x0:=BK (kS P (AQ f (slS kv pa told r)) cs r) (commResult (O9 q0 q2) .select 0 x true)
def x1:=run P 12 (x0 P kv pa told f cs r q0 q2 x)
def R10:Code:=hdC (x1 P (pr 0) ω Di u0 [] 0 0 0 (a_ 0))
def T10:List Item:=tlT (x1 P (pr 0) ω Di u0 [] 0 0 0 (a_ 0))
def R11:Code:=hdC (run P 2 (f56 u0 [] (T10 P) []))
def T11:List Item:=tlT (run P 2 (f56 u0 [] (T10 P) []))
def R15:Code:=hdC (run P 3 (f56 (AQ u0 [(39,.bool false)]) [] (T11 P) []))
def T15:List Item:=tlT (run P 3 (f56 (AQ u0 [(39,.bool false)]) [] (T11 P) []))
def R16:Code:=hdC (run P 2 (f56 u0 [] (T15 P) []))
def T16:List Item:=tlT (run P 2 (f56 u0 [] (T15 P) []))
def x18:=run P 4 (f56 (AQ f (slF kv pa told r bA)) cs (T16 P) (QA r))
def x19:=run P 2 (BK (x18 P kv pa told f cs r bA) A)
def A0:Code:=hdC (x19 P (pr 0) ω Di u0 [] 0 0 sH)
def V97:List Item:=tlT (x19 P (pr 0) ω Di u0 [] 0 0 sH)
def Y18:=(x19 P kv pa told f cs r bA A).2
def f97:Frame×Z_:=(Frame.mk 97 (TN 9 g) td [] .run .normal none,Y)
def dm:Array Oper:=match UZ (f97 u0 [] (V97 P))with
 |some (_,ops,_)=>ops
 |none=>#[]
def XT (l:List Nat):Frame×Z_:=ordered (f97 (AQ g (ad5 r A bB)) Y (V97 P)) (dm P) [] l
def xs:Frame×Z_:=(Frame.mk 97 (TN 9 (AQ g [(0,pr r),(1,A),(3,pr bB),(4,pr r),(5,pr r),(6,.pointer (some (S_ r 1))),(7,D5 q1),(8,A)])) [.inRegion (dm P) [5]] [] .run .normal none,Y)
def v0:=BK (xs P g (Y18 P kv pa told f cs r bA A) r q1 bB A) (commResult (lU q1 A) .send 0 undef false)
def v1:=run P 22 (v0 P kv pa told f g cs r q1 bA bB A)
def v2:=run P 17 (BK (v1 P kv pa told f g cs r q1 bA bB A) (D5 q0))
def v3:=run P 7 (BK (v2 P kv pa told f g cs r q0 q1 bA bB A) (D5 q2))
def n0:=BK (kS P (AQ f (slS kv pa told r)) cs r) (commResult (O9 q0 q2) .select 1 (b_ o) true)
def R21:Code:=hdC (run P 19 (n0 P (pr 0) ω Di u0 [] 0 0 0 2))
def T21:List Item:=tlT (run P 19 (n0 P (pr 0) ω Di u0 [] 0 0 0 2))
def w1:=run P 13 (f56 (AQ f [(7,told),(59,.bool true)]) cs (T16 P) (QA r))
def w2:=run P 32 (n0 P kv pa told f cs r q0 q2 0)
def w3:=run P 12 (f56 (AQ f [(7,told)]) cs (T21 P) (QA r))
def ϖ:Frame:=Frame.mk 56 (TN 76 f) td [] .returning .normal none
def ct3:List Item:=(below (w1 P Di u0 [] 0)).1.todo
def cs9:List Item:=(below (w2 P (pr 0) ω Di u0 [] 0 0 0)).1.todo
def cs8:List Item:=(below (w3 P Di u0 [] 0)).1.todo
def sR:=run P 5 (Frame.enter P 94 #[pr r] .deferred,Y)
def sC:=BK (sR P Y r) (D5 q3)
def sD:=BK (sC P Y r q3) (.tuple #[])
def c94:Frame:=(below (run P 6 (sD P Y r q3))).1
end
structure Vo (P:l_):Prop where
 z1a:∀(kv:n_)(pa:f_)(n:Int)(cs:Z_),AU P 9 (z0 P kv pa n cs)=some []
 z1b:∀(kv:n_)(pa:f_)(n:Int)(cs:Z_),Ea (z1 P kv pa n cs)=(56,.code (R2 P)::T2 P,[],.run,.normal,none,cs)
 z1c:∀(kv:n_)(pa:f_)(n:Int)(cs:Z_),X3 (z1 P kv pa n cs) [0,1,2,7]=[kv,pv pa,b_ n,Di]
 z1d:∀(kv:n_)(pa:f_)(n:Int)(cs:Z_),(z1 P kv pa n cs).1.tmps.size=76
 z3:∀(f:Y_)(cs:Z_),Ec P (some (257,6)) 1 (f56 f cs (T2 P) [])=some ([],f56 f cs (.code (R3 P)::T3 P) [])
 z5a:∀(kv:n_)(pa:f_)(n:Int)(told:n_)(f:Y_)(cs:Z_),AU P 8 (f56 (AQ f (rV kv pa n told)) cs (T3 P) [])=some []
 z5b:∀(kv:n_)(pa:f_)(n:Int)(told:n_)(f:Y_)(cs:Z_),Ea (z5 P kv pa n told f cs)=(93,.code (S0 P)::U0 P,[],.run,.normal,none,Y4 P kv pa n told f cs)
 z5c:∀(kv:n_)(pa:f_)(n:Int)(told:n_)(f:Y_)(cs:Z_),X3 (z5 P kv pa n told f cs) [0,1]=[.pointer (some (pa.add 5)),b_ n]
 z5d:∀(kv:n_)(pa:f_)(n:Int)(told:n_)(f:Y_)(cs:Z_),(z5 P kv pa n told f cs).1.tmps.size=18
 y1:∀(g:Y_)(Y:Z_),Ec P (some (257,6)) 1 (f93 g Y (U0 P))=some ([],f93 g Y (.code (S1 P)::U1 P))
 y3a:∀(g:Y_)(Y:Z_)(b2 b3 b5:Nat),AU P 2 (f93 (AQ g (ύ b2 b3 b5)) Y (U1 P))=some []
 y3b:∀(g:Y_)(Y:Z_)(b2 b3 b5 r:Nat),Eb P (y3 P g Y b2 b3 b5) (pr r)=some ([(R_ b5)],pr r)
 y4a:∀(g:Y_)(Y:Z_)(b2 b3 b5 r:Nat),AU P 3 (BK (y3 P g Y b2 b3 b5) (pr r))=some []
 y4b:∀(g:Y_)(Y:Z_)(b2 b3 b5 r:Nat),y4 P g Y b2 b3 b5 r=aS P r (cA P g Y b2 b3 b5 r::Y)
 y6a:∀(g:Y_)(Y:Z_)(b2 b3 b5 r:Nat),AU P 4 (y5 P g Y b2 b3 b5 r)=some []
 y6b:∀(g:Y_)(Y:Z_)(b2 b3 b5 r:Nat),uF P (y6 P g Y b2 b3 b5 r)=some ⟨.fn (.func 134) #[pr b5,pr b2,pr b3],#[]⟩
 y7a:∀(g:Y_)(Y:Z_)(b2 b3 b5 r:Nat),AU P 3 (BK (y6 P g Y b2 b3 b5 r) undef)=some []
 y7b:∀(g:Y_)(Y:Z_)(b2 b3 b5 r:Nat),Eb P (y7 P g Y b2 b3 b5 r) (pr r)=some ([(R_ b5)],pr r)
 y8a:∀(kv:n_)(pa:f_)(n:Int)(told:n_)(f g:Y_)(cs:Z_)(b2 b3 b5 r:Nat),AU P 28 (BK (y7 P g (Y4 P kv pa n told f cs) b2 b3 b5 r) (pr r))=some []
 y8b:∀(kv:n_)(pa:f_)(n:Int)(told:n_)(f g:Y_)(cs:Z_)(b2 b3 b5 r q0:Nat),Eb P (y8 P kv pa n told f g cs b2 b3 b5 r) (D5 q0)=some ([(R_ r)],D5 q0)
 y9a:∀(kv:n_)(pa:f_)(n:Int)(told:n_)(f g:Y_)(cs:Z_)(b2 b3 b5 r q0:Nat),AU P 17 (BK (y8 P kv pa n told f g cs b2 b3 b5 r) (D5 q0))=some []
 y9b:∀(kv:n_)(pa:f_)(n:Int)(told:n_)(f g:Y_)(cs:Z_)(b2 b3 b5 r q0 q2:Nat),Eb P (y9 P kv pa n told f g cs b2 b3 b5 r q0) (D5 q2)=some ([(S_ r 2)],D5 q2)
 cq9:∀(kv:n_)(pa:f_)(n:Int)(told:n_)(f g:Y_)(cs:Z_)(b2 b3 b5 r q0 q2:Nat),AU P 7 (BK (y9 P kv pa n told f g cs b2 b3 b5 r q0) (D5 q2))=some []
 cq8:∀(kv:n_)(pa:f_)(n:Int)(told:n_)(f g:Y_)(cs:Z_)(b2 b3 b5 r q0 q2:Nat),Ea (y10 P kv pa n told f g cs b2 b3 b5 r q0 q2)=(56,yV P,QA r,.run,.normal,none,cs)
 cq7:∀(kv:n_)(pa:f_)(n:Int)(told:n_)(f g:Y_)(cs:Z_)(b2 b3 b5 r q0 q2:Nat),X3 (y10 P kv pa n told f g cs b2 b3 b5 r q0 q2) [0,1,7,8,25,27]=[kv,pv pa,told,pr r,D5 q0,D5 q2]
 cq6:∀(kv:n_)(pa:f_)(n:Int)(told:n_)(f g:Y_)(cs:Z_)(b2 b3 b5 r q0 q2:Nat),(y10 P kv pa n told f g cs b2 b3 b5 r q0 q2).1.tmps.size=76
 k1:∀(f:Y_)(cs:Z_)(r q0 q2:Nat),Ox P (kS P (AQ f [(25,D5 q0),(27,D5 q2)]) cs r)=some (O9 q0 q2)
 x1a:∀(kv:n_)(pa:f_)(told:n_)(f:Y_)(cs:Z_)(r q0 q2:Nat)(x:n_),AU P 12 (x0 P kv pa told f cs r q0 q2 x)=some []
 x1b:∀(kv:n_)(pa:f_)(told:n_)(f:Y_)(cs:Z_)(r q0 q2:Nat)(x:n_),Ea (x1 P kv pa told f cs r q0 q2 x)=(56,.code (R10 P)::T10 P,QA r,.run,.normal,none,cs)
 x1c:∀(kv:n_)(pa:f_)(told:n_)(f:Y_)(cs:Z_)(r q0 q2:Nat)(x:n_),X3 (x1 P kv pa told f cs r q0 q2 x) [0,1,7,8,9]=[kv,pv pa,told,pr r,x]
 x1d:∀(kv:n_)(pa:f_)(told:n_)(f:Y_)(cs:Z_)(r q0 q2:Nat)(x:n_),(x1 P kv pa told f cs r q0 q2 x).1.tmps.size=76
 x2:∀(f:Y_)(cs:Z_)(r:Nat),Ec P (some (257,6)) 2 (f56 f cs (T10 P) (QA r))=some ([],f56 f cs (.code (R11 P)::T11 P) (QA r))
 x3:∀(f:Y_)(cs:Z_)(r:Nat),Ec P (some (257,6)) 3 (f56 (AQ f [(39,.bool false)]) cs (T11 P) (QA r))=some ([],f56 (AQ f [(39,.bool false)]) cs (.code (R15 P)::T15 P) (QA r))
 x4:∀(f:Y_)(cs:Z_)(r:Nat),Ec P (some (257,6)) 2 (f56 f cs (T15 P) (QA r))=some ([],f56 f cs (.code (R16 P)::T16 P) (QA r))
 cr6:∀(kv:n_)(pa:f_)(told:n_)(f:Y_)(cs:Z_)(r bA:Nat),AU P 4 (f56 (AQ f (slF kv pa told r bA)) cs (T16 P) (QA r))=some []
 cr5:∀(kv:n_)(pa:f_)(told:n_)(f:Y_)(cs:Z_)(r bA:Nat)(s0 s1 s2:n_),G6 P (x18 P kv pa told f cs r bA) [s0,s1,s2]=some ([(R_ bA),(S_ bA 1),(S_ bA 2)],.agg #[s0,s1,s2])
 cr4:∀(kv:n_)(pa:f_)(told:n_)(f:Y_)(cs:Z_)(r bA:Nat)(A:n_),AU P 2 (BK (x18 P kv pa told f cs r bA) A)=some []
 cr2:∀(kv:n_)(pa:f_)(told:n_)(f:Y_)(cs:Z_)(r bA:Nat)(A:n_),Ea (x19 P kv pa told f cs r bA A)=(97,.code (A0 P)::V97 P,[],.run,.normal,none,Y18 P kv pa told f cs r bA A)
 cr1:∀(kv:n_)(pa:f_)(told:n_)(f:Y_)(cs:Z_)(r bA:Nat)(A:n_),X3 (x19 P kv pa told f cs r bA A) [0,1]=[pr r,A]
 cr0:∀(kv:n_)(pa:f_)(told:n_)(f:Y_)(cs:Z_)(r bA:Nat)(A:n_),(x19 P kv pa told f cs r bA A).1.tmps.size=9
 dr:∀(g:Y_)(Y:Z_),UZ (f97 g Y (V97 P))=some (1,dm P,[])
 dl:QQ (dm P) (dm P).size (Array.replicate (dm P).size false)=[[0,1,2,3,4,5],[0,1,2,4,3,5],[0,1,4,2,3,5],[0,4,1,2,3,5],[4,0,1,2,3,5]]
 l1a:∀(g:Y_)(Y:Z_)(r bB:Nat)(A:n_),AU P 3 (XT P g Y r bB A [0,1,2,3,4,5])=some []
 l1b:∀(g:Y_)(Y:Z_)(r bB q1:Nat)(A:n_),Eb P (run P 3 (XT P g Y r bB A [0,1,2,3,4,5])) (D5 q1)=some ([(S_ r 1)],D5 q1)
 l1c:∀(g:Y_)(Y:Z_)(r bB q1:Nat)(A:n_)(s0 s1 s2:n_),G6 P (BK (run P 3 (XT P g Y r bB A [0,1,2,3,4,5])) (D5 q1)) [s0,s1,s2]=some ([(R_ bB),(S_ bB 1),(S_ bB 2)],.agg #[s0,s1,s2])
 l1d:∀(g:Y_)(Y:Z_)(r bB q1:Nat)(A:n_),BK (BK (run P 3 (XT P g Y r bB A [0,1,2,3,4,5])) (D5 q1)) A=xs P g Y r q1 bB A
 l2a:∀(g:Y_)(Y:Z_)(r bB:Nat)(A:n_),AU P 3 (XT P g Y r bB A [0,1,2,4,3,5])=some []
 l2b:∀(g:Y_)(Y:Z_)(r bB:Nat)(A:n_)(s0 s1 s2:n_),G6 P (run P 3 (XT P g Y r bB A [0,1,2,4,3,5])) [s0,s1,s2]=some ([(R_ bB),(S_ bB 1),(S_ bB 2)],.agg #[s0,s1,s2])
 l2c:∀(g:Y_)(Y:Z_)(r bB q1:Nat)(A:n_),Eb P (BK (run P 3 (XT P g Y r bB A [0,1,2,4,3,5])) A) (D5 q1)=some ([(S_ r 1)],D5 q1)
 l2d:∀(g:Y_)(Y:Z_)(r bB q1:Nat)(A:n_),BK (BK (run P 3 (XT P g Y r bB A [0,1,2,4,3,5])) A) (D5 q1)=xs P g Y r q1 bB A
 l3a:∀(g:Y_)(Y:Z_)(r bB:Nat)(A:n_),AU P 2 (XT P g Y r bB A [0,1,4,2,3,5])=some []
 l3b:∀(g:Y_)(Y:Z_)(r bB:Nat)(A:n_)(s0 s1 s2:n_),G6 P (run P 2 (XT P g Y r bB A [0,1,4,2,3,5])) [s0,s1,s2]=some ([(R_ bB),(S_ bB 1),(S_ bB 2)],.agg #[s0,s1,s2])
 l3c:∀(g:Y_)(Y:Z_)(r bB:Nat)(A:n_),AU P 1 (BK (run P 2 (XT P g Y r bB A [0,1,4,2,3,5])) A)=some []
 l3d:∀(g:Y_)(Y:Z_)(r bB q1:Nat)(A:n_),Eb P (run P 1 (BK (run P 2 (XT P g Y r bB A [0,1,4,2,3,5])) A)) (D5 q1)=some ([(S_ r 1)],D5 q1)
 l3e:∀(g:Y_)(Y:Z_)(r bB q1:Nat)(A:n_),BK (run P 1 (BK (run P 2 (XT P g Y r bB A [0,1,4,2,3,5])) A)) (D5 q1)=xs P g Y r q1 bB A
 l4a:∀(g:Y_)(Y:Z_)(r bB:Nat)(A:n_),AU P 1 (XT P g Y r bB A [0,4,1,2,3,5])=some []
 l4b:∀(g:Y_)(Y:Z_)(r bB:Nat)(A:n_)(s0 s1 s2:n_),G6 P (run P 1 (XT P g Y r bB A [0,4,1,2,3,5])) [s0,s1,s2]=some ([(R_ bB),(S_ bB 1),(S_ bB 2)],.agg #[s0,s1,s2])
 l4c:∀(g:Y_)(Y:Z_)(r bB:Nat)(A:n_),AU P 2 (BK (run P 1 (XT P g Y r bB A [0,4,1,2,3,5])) A)=some []
 l4d:∀(g:Y_)(Y:Z_)(r bB q1:Nat)(A:n_),Eb P (run P 2 (BK (run P 1 (XT P g Y r bB A [0,4,1,2,3,5])) A)) (D5 q1)=some ([(S_ r 1)],D5 q1)
 l4e:∀(g:Y_)(Y:Z_)(r bB q1:Nat)(A:n_),BK (run P 2 (BK (run P 1 (XT P g Y r bB A [0,4,1,2,3,5])) A)) (D5 q1)=xs P g Y r q1 bB A
 l5a:∀(g:Y_)(Y:Z_)(r bB:Nat)(A:n_),AU P 0 (XT P g Y r bB A [4,0,1,2,3,5])=some []
 l5b:∀(g:Y_)(Y:Z_)(r bB:Nat)(A:n_)(s0 s1 s2:n_),G6 P (run P 0 (XT P g Y r bB A [4,0,1,2,3,5])) [s0,s1,s2]=some ([(R_ bB),(S_ bB 1),(S_ bB 2)],.agg #[s0,s1,s2])
 l5c:∀(g:Y_)(Y:Z_)(r bB:Nat)(A:n_),AU P 3 (BK (run P 0 (XT P g Y r bB A [4,0,1,2,3,5])) A)=some []
 l5d:∀(g:Y_)(Y:Z_)(r bB q1:Nat)(A:n_),Eb P (run P 3 (BK (run P 0 (XT P g Y r bB A [4,0,1,2,3,5])) A)) (D5 q1)=some ([(S_ r 1)],D5 q1)
 l5e:∀(g:Y_)(Y:Z_)(r bB q1:Nat)(A:n_),BK (run P 3 (BK (run P 0 (XT P g Y r bB A [4,0,1,2,3,5])) A)) (D5 q1)=xs P g Y r q1 bB A
 xs:∀(g:Y_)(Y:Z_)(r bB q1:Nat)(A:n_),uZ P (xs P g Y r q1 bB A)=some (lU q1 A,.send)
 v1a:∀(kv:n_)(pa:f_)(told:n_)(f g:Y_)(cs:Z_)(r q1 bA bB:Nat)(A:n_),AU P 22 (v0 P kv pa told f g cs r q1 bA bB A)=some []
 v1b:∀(kv:n_)(pa:f_)(told:n_)(f g:Y_)(cs:Z_)(r q0 q1 bA bB:Nat)(A:n_),Eb P (v1 P kv pa told f g cs r q1 bA bB A) (D5 q0)=some ([(R_ r)],D5 q0)
 v2a:∀(kv:n_)(pa:f_)(told:n_)(f g:Y_)(cs:Z_)(r q0 q1 bA bB:Nat)(A:n_),AU P 17 (BK (v1 P kv pa told f g cs r q1 bA bB A) (D5 q0))=some []
 v2b:∀(kv:n_)(pa:f_)(told:n_)(f g:Y_)(cs:Z_)(r q0 q1 q2 bA bB:Nat)(A:n_),Eb P (v2 P kv pa told f g cs r q0 q1 bA bB A) (D5 q2)=some ([(S_ r 2)],D5 q2)
 v3a:∀(kv:n_)(pa:f_)(told:n_)(f g:Y_)(cs:Z_)(r q0 q1 q2 bA bB:Nat)(A:n_),AU P 7 (BK (v2 P kv pa told f g cs r q0 q1 bA bB A) (D5 q2))=some []
 v3b:∀(kv:n_)(pa:f_)(told:n_)(f g:Y_)(cs:Z_)(r q0 q1 q2 bA bB:Nat)(A:n_),Ea (v3 P kv pa told f g cs r q0 q1 q2 bA bB A)=(56,yV P,QA r,.run,.normal,none,cs)
 v3c:∀(kv:n_)(pa:f_)(told:n_)(f g:Y_)(cs:Z_)(r q0 q1 q2 bA bB:Nat)(A:n_),X3 (v3 P kv pa told f g cs r q0 q1 q2 bA bB A) [0,1,7,8,25,27]=[kv,pv pa,told,pr r,D5 q0,D5 q2]
 v3d:∀(kv:n_)(pa:f_)(told:n_)(f g:Y_)(cs:Z_)(r q0 q1 q2 bA bB:Nat)(A:n_),(v3 P kv pa told f g cs r q0 q1 q2 bA bB A).1.tmps.size=76
 n1a:∀(kv:n_)(pa:f_)(told:n_)(f:Y_)(cs:Z_)(r q0 q2:Nat),AU P 19 (n0 P kv pa told f cs r q0 q2 2)=some []
 n1b:∀(kv:n_)(pa:f_)(told:n_)(f:Y_)(cs:Z_)(r q0 q2:Nat),Ea (run P 19 (n0 P kv pa told f cs r q0 q2 2))=(56,.code (R21 P)::T21 P,QA r,.run,.normal,none,cs)
 n1c:∀(kv:n_)(pa:f_)(told:n_)(f:Y_)(cs:Z_)(r q0 q2:Nat),X3 (run P 19 (n0 P kv pa told f cs r q0 q2 2)) [0,1,7,8]=[kv,pv pa,told,pr r]
 n1d:∀(kv:n_)(pa:f_)(told:n_)(f:Y_)(cs:Z_)(r q0 q2:Nat),(run P 19 (n0 P kv pa told f cs r q0 q2 2)).1.tmps.size=76
 w1a:∀(told:n_)(f:Y_)(cs:Z_)(r:Nat),AU P 13 (f56 (AQ f [(7,told),(59,.bool true)]) cs (T16 P) (QA r))=some []
 w1b:∀(told:n_)(f:Y_)(cs:Z_)(r:Nat),(w1 P told f cs r).1=(sR P [] r).1
 w1c:∀(told:n_)(f:Y_)(cs:Z_)(r:Nat),(w1 P told f cs r).2=(below (w1 P told f cs r)).1::cs
 w1d:∀(told:n_)(f:Y_)(cs:Z_)(r:Nat),Ea (below (w1 P told f cs r))=(56,ct3 P,[],.returning,.normal,none,cs)
 w1e:∀(told:n_)(f:Y_)(cs:Z_)(r:Nat),X3 (below (w1 P told f cs r)) [6]=[told]
 w1f:∀(told:n_)(f:Y_)(cs:Z_)(r:Nat),(below (w1 P told f cs r)).1.tmps.size=76
 w2a:∀(kv:n_)(pa:f_)(told:n_)(f:Y_)(cs:Z_)(r q0 q2:Nat),AU P 32 (n0 P kv pa told f cs r q0 q2 0)=some []
 w2b:∀(kv:n_)(pa:f_)(told:n_)(f:Y_)(cs:Z_)(r q0 q2:Nat),(w2 P kv pa told f cs r q0 q2).1=(sR P [] r).1
 w2c:∀(kv:n_)(pa:f_)(told:n_)(f:Y_)(cs:Z_)(r q0 q2:Nat),(w2 P kv pa told f cs r q0 q2).2=(below (w2 P kv pa told f cs r q0 q2)).1::cs
 w2d:∀(kv:n_)(pa:f_)(told:n_)(f:Y_)(cs:Z_)(r q0 q2:Nat),Ea (below (w2 P kv pa told f cs r q0 q2))=(56,cs9 P,[],.returning,.normal,none,cs)
 w2e:∀(kv:n_)(pa:f_)(told:n_)(f:Y_)(cs:Z_)(r q0 q2:Nat),X3 (below (w2 P kv pa told f cs r q0 q2)) [6]=[told]
 w2f:∀(kv:n_)(pa:f_)(told:n_)(f:Y_)(cs:Z_)(r q0 q2:Nat),(below (w2 P kv pa told f cs r q0 q2)).1.tmps.size=76
 w3a:∀(told:n_)(f:Y_)(cs:Z_)(r:Nat),AU P 12 (f56 (AQ f [(7,told)]) cs (T21 P) (QA r))=some []
 w3b:∀(told:n_)(f:Y_)(cs:Z_)(r:Nat),(w3 P told f cs r).1=(sR P [] r).1
 w3c:∀(told:n_)(f:Y_)(cs:Z_)(r:Nat),(w3 P told f cs r).2=(below (w3 P told f cs r)).1::cs
 w3d:∀(told:n_)(f:Y_)(cs:Z_)(r:Nat),Ea (below (w3 P told f cs r))=(56,cs8 P,[],.returning,.normal,none,cs)
 w3e:∀(told:n_)(f:Y_)(cs:Z_)(r:Nat),X3 (below (w3 P told f cs r)) [6]=[told]
 w3f:∀(told:n_)(f:Y_)(cs:Z_)(r:Nat),(below (w3 P told f cs r)).1.tmps.size=76
 sRf:∀(Y:Z_)(r:Nat),sR P Y r=((sR P [] r).1,Y)
 sRa:∀(Y:Z_)(r q3:Nat),Eb P (sR P Y r) (D5 q3)=some ([(S_ r 3)],D5 q3)
 sCa:∀(Y:Z_)(r q3:Nat),Zi P (sC P Y r q3)=some q3
 sCw:∀(Y:Z_)(r q3:Nat),mayWake P (BO (sC P Y r q3))=true
 sDa:∀(Y:Z_)(r q3:Nat),AU P 6 (sD P Y r q3)=some []
 sDb:∀(Y:Z_)(r q3:Nat),run P 6 (sD P Y r q3)=wS P r (c94 P Y r q3::Y)
 end_:∀(f:Y_)(td:List Item)(told:n_)(c:Frame)(cs:Z_)(r q3:Nat),Ec P (some (257,6)) 4 ((c94 P (ϖ (AQ f [(6,told)]) td::c::cs) r q3).finish (.tuple #[]),ϖ (AQ f [(6,told)]) td::c::cs)=some ([],(c.finish told,cs))
theorem aa0:Vo prog:=by
 constructor<;>intros<;>kernel_rfl
def yL (kv:n_)(pa:f_)(told:n_)(r bA:Nat):List (Nat×n_):=[(0,kv),(1,pv pa),(7,told),(8,pr r),(10,pr bA)]
section
variable (P:l_)(kv:n_)(pa:f_)(told A:n_)(f g:Y_)(cs:Z_)(r q1 bA bB:Nat)
def R12:Code:=hdC (run P 2 (f56 (AQ u0 [(39,.bool true)]) [] (T11 P) []))
def T12:List Item:=tlT (run P 2 (f56 (AQ u0 [(39,.bool true)]) [] (T11 P) []))
def x13:=run P 3 (f56 (AQ f (yL kv pa told r bA)) cs (T12 P) (QA r))
def x14:=run P 2 (BK (x13 P kv pa told f cs r bA) A)
def Y13:=(x14 P kv pa told A f cs r bA).2
def vB:=BK (xs P g (Y13 P kv pa told A f cs r bA) r q1 bB A) (commResult (lU q1 A) .send 0 undef false)
def w4:=run P 16 (vB P kv pa told A f g cs r q1 bA bB)
def ca4:List Item:=(below (w4 P (pr 0) ω Di sH u0 u0 [] 0 0 0 0)).1.todo
end
structure oU (P:l_):Prop where
 y3:∀(f:Y_)(cs:Z_)(r:Nat),Ec P (some (257,6)) 2 (f56 (AQ f [(39,.bool true)]) cs (T11 P) (QA r))=some ([],f56 (AQ f [(39,.bool true)]) cs (.code (R12 P)::T12 P) (QA r))
 a13:∀(kv:n_)(pa:f_)(told:n_)(f:Y_)(cs:Z_)(r bA:Nat),AU P 3 (f56 (AQ f (yL kv pa told r bA)) cs (T12 P) (QA r))=some []
 b13:∀(kv:n_)(pa:f_)(told:n_)(f:Y_)(cs:Z_)(r bA:Nat)(s0 s1 s2:n_),G6 P (x13 P kv pa told f cs r bA) [s0,s1,s2]=some ([(R_ bA),(S_ bA 1),(S_ bA 2)],.agg #[s0,s1,s2])
 a14:∀(kv:n_)(pa:f_)(told:n_)(f:Y_)(cs:Z_)(r bA:Nat)(A:n_),AU P 2 (BK (x13 P kv pa told f cs r bA) A)=some []
 b14:∀(kv:n_)(pa:f_)(told:n_)(f:Y_)(cs:Z_)(r bA:Nat)(A:n_),Ea (x14 P kv pa told A f cs r bA)=(97,.code (A0 P)::V97 P,[],.run,.normal,none,Y13 P kv pa told A f cs r bA)
 c14:∀(kv:n_)(pa:f_)(told:n_)(f:Y_)(cs:Z_)(r bA:Nat)(A:n_),X3 (x14 P kv pa told A f cs r bA) [0,1]=[pr r,A]
 d14:∀(kv:n_)(pa:f_)(told:n_)(f:Y_)(cs:Z_)(r bA:Nat)(A:n_),(x14 P kv pa told A f cs r bA).1.tmps.size=9
 w4a:∀(kv:n_)(pa:f_)(told:n_)(f g:Y_)(cs:Z_)(r q1 bA bB:Nat)(A:n_),AU P 16 (vB P kv pa told A f g cs r q1 bA bB)=some []
 w4b:∀(kv:n_)(pa:f_)(told:n_)(f g:Y_)(cs:Z_)(r q1 bA bB:Nat)(A:n_),(w4 P kv pa told A f g cs r q1 bA bB).1=(sR P [] r).1
 w4c:∀(kv:n_)(pa:f_)(told:n_)(f g:Y_)(cs:Z_)(r q1 bA bB:Nat)(A:n_),(w4 P kv pa told A f g cs r q1 bA bB).2=(below (w4 P kv pa told A f g cs r q1 bA bB)).1::cs
 w4d:∀(kv:n_)(pa:f_)(told:n_)(f g:Y_)(cs:Z_)(r q1 bA bB:Nat)(A:n_),Ea (below (w4 P kv pa told A f g cs r q1 bA bB))=(56,ca4 P,[],.returning,.normal,none,cs)
 w4e:∀(kv:n_)(pa:f_)(told:n_)(f g:Y_)(cs:Z_)(r q1 bA bB:Nat)(A:n_),X3 (below (w4 P kv pa told A f g cs r q1 bA bB)) [6]=[told]
 w4f:∀(kv:n_)(pa:f_)(told:n_)(f g:Y_)(cs:Z_)(r q1 bA bB:Nat)(A:n_),(below (w4 P kv pa told A f g cs r q1 bA bB)).1.tmps.size=76
theorem ac9:oU prog:=by
 constructor<;>intros<;>kernel_rfl
end Go.Fxa
