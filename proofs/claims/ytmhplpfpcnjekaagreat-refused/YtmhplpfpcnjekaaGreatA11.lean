/- A piece of code, walked alone -/
import Derived.Test.YtmhplpfpcnjekaaGreatA10
namespace Go.Fxa
open Go.Conc
open Go.ConcN (sumTo upd sumTo_upd upd_ne upd_same)
variable {fn EH f:h_}{tmps:X_}{dl ds:List Deferred}{kl kd:CallKind}{Od:Old}{k:List Item}{v w:o_}{fr:Frame}{Ad:Loc->Prop}
def NH:Item:=.code (.refuse "")
theorem Qr {id:Nat}{A B:List Item}(hA:exitTo id A=none):∀{fs k':List Item},exitTo id (fs++A)=some k'->∃Nq,k'=Nq++A/\exitTo id (fs++B)=some (Nq++B)
 |[],k',h=>by rw[List.nil_append,hA]at h;cases h
 |d::fs,k',h=>by
  cases d with
  |inBlock c=>
   simp only[List.cons_append,exitTo]at h ⊢
   split at h
   .rename_i a;obtain rfl:=x_ h;exact⟨fs,rfl,by rw[rW a]⟩
   .rename_i a;obtain⟨Nq,e,b⟩:=Qr hA h;exact⟨Nq,e,by rw[ru a];exact b⟩
  |_=>
   simp only[List.cons_append,exitTo]at h ⊢
   exact Qr hA h
section
variable {P:l_}{L:h_->Prop}{p:h_->Oper->Bool}{Z:Nat->Prop}
theorem fE (hq:∀es,seen P EH es=seen P fn es){it:Item}{fs A B:List Item}{pf:Oper->Bool}{b:Bool}(O:(kl==CallKind.early)=false)(N:(kd==CallKind.early)=false)(hA:∀id,exitTo id A=none)(M:it.EY pf=true)
  (S:∀id ops,it≠.code (.region id ops true)) {w w':o_} {X:Z_} {g':m_} {es:Array Event}
  (T:∀ops i rest o,it=.inRegion ops (i::rest)->ops[i]?=some o->Region.wanted o (yielded ops tmps)=true->∃n w1 R,(execOp (Frame.mk fn tmps (it::(fs++A)) dl .run kl none).eval o).runT P w #[]=(.ok n w1,R)/\FC L b n)
  (h:stepG P true (G (Frame.mk fn tmps (it::(fs++A)) dl .run kl none) X) w=.go g' w' es):
  (∃FP Nq m Q,(b=false->Q=[])/\(m=.run\/m=.returning)/\g'=G (Frame.mk fn FP (Nq++A) (Q++dl) m kl none) X/\∀main Y,stepG P main (G (Frame.mk EH tmps (it::(fs++B)) ds .run kd none) Y) w=.go (G (Frame.mk EH FP (Nq++B) (Q++ds) m kd none) Y) w' es)\/
  (∃f args,(∃ops i rest,it=.inRegion ops (i::rest))/\g'=G (Frame.enter P f args .normal) (Frame.mk fn tmps (it::(fs++A)) dl .run kl none::X)/\
   ∀main Y,stepG P main (G (Frame.mk EH tmps (it::(fs++B)) ds .run kd none) Y) w=.go (G (Frame.enter P f args .normal) (Frame.mk EH tmps (it::(fs++B)) ds .run kd none::Y)) w' es):=by
 have e:∀{FP:X_} {Nq:List Item} {m:FrameMode},(m=.run\/m=.returning)->stepG P true (G (Frame.mk fn tmps (it::(fs++A)) dl .run kl none) X) w=.go (G (Frame.mk fn FP (Nq++A) dl m kl none) X) w #[]->
   (∀main Y,stepG P main (G (Frame.mk EH tmps (it::(fs++B)) ds .run kd none) Y) w=.go (G (Frame.mk EH FP (Nq++B) ds m kd none) Y) w #[])->
   (∃FP Nq m Q,(b=false->Q=[])/\(m=.run\/m=.returning)/\g'=G (Frame.mk fn FP (Nq++A) (Q++dl) m kl none) X/\∀main Y,stepG P main (G (Frame.mk EH tmps (it::(fs++B)) ds .run kd none) Y) w=.go (G (Frame.mk EH FP (Nq++B) (Q++ds) m kd none) Y) w' es):=by
  intro FP Nq m I e1 e2
  rw[e1]at h
  injection h with j k p
  subst j k p
  exact⟨FP,Nq,m,[],λ_=>rfl,I,rfl,e2⟩
 cases it with
 |inBlock id=>exact .inl (e (FP:=tmps) (Nq:=fs) (.inl rfl) (by simp[G,stepG,stepG.exec]) (λmain Y=>by simp[G,stepG,stepG.exec]))
 |inLoop c=>exact .inl (e (FP:=tmps) (Nq:=.code c::.inLoop c::fs) (.inl rfl) (by simp[G,stepG,stepG.exec]) (λmain Y=>by simp[G,stepG,stepG.exec]))
 |inScope c=>simp[Item.EY]at M
 |inRangeFunc l=>simp[Item.EY]at M
 |endRangeFunc l=>simp[Item.EY]at M
 |beginRound=>simp[Item.EY]at M
 |call d a b c=>simp[Item.EY]at M
 |extern a b=>simp[Item.EY]at M
 |code c=>
  cases c with
  |skip=>exact .inl (e (FP:=tmps) (Nq:=fs) (.inl rfl) (by simp[G,stepG,stepG.exec]) (λmain Y=>by simp[G,stepG,stepG.exec]))
  |label l=>exact .inl (e (FP:=tmps) (Nq:=fs) (.inl rfl) (by simp[G,stepG,stepG.exec]) (λmain Y=>by simp[G,stepG,stepG.exec]))
  |ret=>exact .inl (e (FP:=tmps) (Nq:=.code .ret::fs) (.inr rfl) (by simp[G,stepG,stepG.exec]) (λmain Y=>by simp[G,stepG,stepG.exec]))
  |rangeFunc f K a b=>simp[Item.EY,Code.AP]at M
  |scope c=>simp[Item.EY,Code.AP]at M
  |goto l=>simp[Item.EY,Code.AP]at M
  |refuse s=>simp[G,stepG,stepG.exec]at h
  |seq a b=>exact .inl (e (FP:=tmps) (Nq:=.code a::.code b::fs) (.inl rfl) (by simp[G,stepG,stepG.exec]) (λmain Y=>by simp[G,stepG,stepG.exec]))
  |cond c a b=>
   cases hv:(Frame.mk fn tmps (.code (.cond c a b)::(fs++A)) dl .run kl none).eval c with
   |bool t=>
    have D:(Frame.mk EH tmps (.code (.cond c a b)::(fs++B)) ds .run kd none).eval c=.bool t:=by rw[<-hv];cases c<;>rfl
    exact .inl (e (FP:=tmps) (Nq:=.code (if t then a else b)::fs) (.inl rfl) (by simp[G,stepG,stepG.exec,hv]) (λmain Y=>by simp[G,stepG,stepG.exec,D]))
   |_=>simp[G,stepG,stepG.exec,hv]at h
  |block id c=>exact .inl (e (FP:=tmps) (Nq:=.code c::.inBlock id::fs) (.inl rfl) (by simp[G,stepG,stepG.exec]) (λmain Y=>by simp[G,stepG,stepG.exec]))
  |loop c=>exact .inl (e (FP:=tmps) (Nq:=.code c::.inLoop c::fs) (.inl rfl) (by simp[G,stepG,stepG.exec]) (λmain Y=>by simp[G,stepG,stepG.exec]))
  |exit id=>
   cases hx:exitTo id (fs++A)with
   |none=>simp[G,stepG,stepG.exec,hx]at h
   |some J=>
    obtain⟨Nq,rfl,E⟩:=Qr (B:=B) (hA id) hx
    exact .inl (e (FP:=tmps) (Nq:=Nq) (.inl rfl) (by simp[G,stepG,stepG.exec,hx]) (λmain Y=>by simp[G,stepG,stepG.exec,E]))
  |region id ops u=>
   cases u with
   |true=>exact(S id ops rfl).elim
   |false=>exact .inl (e (FP:=tmps) (Nq:=.inRegion ops (List.range ops.size)::fs) (.inl rfl) (by simp[G,stepG,stepG.exec]) (λmain Y=>by simp[G,stepG,stepG.exec]))
 |inRegion ops l=>
  cases l with
  |nil=>exact .inl (e (FP:=tmps) (Nq:=fs) (.inl rfl) (by simp[G,stepG,stepG.exec]) (λmain Y=>by simp[G,stepG,stepG.exec]))
  |cons i rest=>
   by_cases r:((ops[i]?).map (Region.wanted · (yielded ops tmps))).getD false=true
   .cases ho:ops[i]? with
    |none=>rw[ho]at r;simp at r
    |some o=>
     rw[ho]at r
     simp only[Option.map_some,Option.getD_some]at r
     have F:(Frame.mk EH tmps (.inRegion ops (i::rest)::(fs++B)) ds .run kd none).eval=(Frame.mk fn tmps (.inRegion ops (i::rest)::(fs++A)) dl .run kl none).eval:=funext λx=>by cases x<;>rfl
     have H:stepG P true (G (Frame.mk fn tmps (.inRegion ops (i::rest)::(fs++A)) dl .run kl none) X) w=
       stepG.apply P true (Frame.mk fn tmps (.inRegion ops (i::rest)::(fs++A)) dl .run kl none) X none (execOp (Frame.mk fn tmps (.inRegion ops (i::rest)::(fs++A)) dl .run kl none).eval o) w:=by
      simp[G,stepG,stepG.exec,stepG.oper,Frame.oper?,ho,r]
     have g:∀main Y,stepG P main (G (Frame.mk EH tmps (.inRegion ops (i::rest)::(fs++B)) ds .run kd none) Y) w=
       stepG.apply P true (Frame.mk EH tmps (.inRegion ops (i::rest)::(fs++B)) ds .run kd none) Y none (execOp (Frame.mk fn tmps (.inRegion ops (i::rest)::(fs++A)) dl .run kl none).eval o) w:=λmain Y=>by
      rw[<-F]
      simp[G,stepG,stepG.exec,stepG.oper,Frame.oper?,ho,r]
     rw[H]at h
     obtain⟨n,w1,R,q,v⟩:=T ops i rest o rfl ho r
     have fin:∀x,(∃FP Nq,(Frame.mk fn tmps (.inRegion ops (i::rest)::(fs++A)) dl .run kl none).finish x=Frame.mk fn FP (Nq++A) dl .run kl none/\
       (Frame.mk EH tmps (.inRegion ops (i::rest)::(fs++B)) ds .run kd none).finish x=Frame.mk EH FP (Nq++B) ds .run kd none):=λx=>⟨_,.inRegion ops rest::fs,rfl,rfl⟩
     cases n<;>first|exact v.elim|skip
     .rename_i x;obtain⟨C,Nq,e1,e2⟩:=fin x;simp only[stepG.apply,q,if_true,GStep.after,kL,O,jb,if_false]at h;injection h with j k p;subst k p;refine .inl ⟨C,Nq,.run,[],λ_=>rfl,.inl rfl,by rw[<-j,e1];rfl,λmain Y=>?_⟩;rw[g];simp only[stepG.apply,q,if_true,GStep.after,kL,e2,hq,N,jb,if_false]
      rfl
     .obtain⟨C,Nq,e1,e2⟩:=fin undef;simp only[stepG.apply,q,if_true,GStep.after,kL,O,jb,if_false]at h;injection h with j k p;subst k p;refine .inl ⟨C,Nq,.run,[],λ_=>rfl,.inl rfl,by rw[<-j,e1];rfl,λmain Y=>?_⟩;rw[g];simp only[stepG.apply,q,if_true,GStep.after,kL,e2,hq,N,jb,if_false]
      rfl
     .rename_i f args;simp only[stepG.apply,q,if_true,GStep.after,kL,O,jb,if_false]at h;injection h with j k p;subst k p;refine .inr ⟨f,args,⟨_,_,_,rfl⟩,by rw[<-j];rfl,λmain Y=>?_⟩;rw[g];simp only[stepG.apply,q,if_true,GStep.after,kL,hq,N,jb,if_false]
      rfl
     .rename_i d;simp only[stepG.apply,q,if_true,GStep.after,kL,O,jb,if_false]at h;injection h with j k p;subst k p;have e1:({ fn:=fn,tmps:=tmps,todo:=.inRegion ops (i::rest)::(fs++A),defers:=d::dl,mode:=.run,kind:=kl,roundOf:=none}:Frame).finish undef=Frame.mk fn (match (ops[i]?).bind (·.dst)with|some d=>tmps.setIfInBounds d undef|none=>tmps) ((.inRegion ops rest::fs)++A) ([d]++dl) .run kl none:=rfl;have e2:({ fn:=EH,tmps:=tmps,todo:=.inRegion ops (i::rest)::(fs++B),defers:=d::ds,mode:=.run,kind:=kd,roundOf:=none}:Frame).finish undef=Frame.mk EH (match (ops[i]?).bind (·.dst)with|some d=>tmps.setIfInBounds d undef|none=>tmps) ((.inRegion ops rest::fs)++B) ([d]++ds) .run kd none:=rfl;refine .inl ⟨_,_,.run,[d],λhb=>(by have:=v.1;rw[hb]at this;cases this),.inl rfl,by rw[<-j];exact congrArg (G · X) e1,λmain Y=>?_⟩;rw[g];simp only[stepG.apply,q,if_true,GStep.after,kL,hq,N,jb,if_false];exact congrArg (λz=>GStep.go (G z Y) w1 (seen P fn R)) e2
   .have y:((ops[i]?).map (Region.wanted · (yielded ops tmps))).getD false=false:=(by simpa using r);have fin:∀x,(∃FP Nq,(Frame.mk fn tmps (.inRegion ops (i::rest)::(fs++A)) dl .run kl none).finish x=Frame.mk fn FP (Nq++A) dl .run kl none/\
      (Frame.mk EH tmps (.inRegion ops (i::rest)::(fs++B)) ds .run kd none).finish x=Frame.mk EH FP (Nq++B) ds .run kd none):=λx=>⟨_,.inRegion ops rest::fs,rfl,rfl⟩
    obtain⟨C,Nq,e1,e2⟩:=fin undef;exact .inl (e (FP:=C) (Nq:=Nq) (.inl rfl) (by rw[<-e1];simp[G,stepG,stepG.exec,y]) (λmain Y=>by rw[<-e2];simp[G,stepG,stepG.exec,y]))
theorem ck7 (F:QE P L p){ops:Array Oper}{i:Nat}{rest:List Nat}{pre:Z_}(E:(kl==CallKind.early)=false){v':o_}{g':m_}{es:Array Event}{o:Oper}(T:Yr Od Z v w)(K:∀r,Z r->r<v.heap.size)
  (M:∀j,j<v'.drawn-v.drawn->∀q,w.tape (w.drawn+j) q=v.tape (v.drawn+j) q) (D:∀f,(Frame.mk fn tmps (.inRegion ops (i::rest)::k) dl .run kl none).about P v=some f->L f\/Ext P f) (I:(Item.inRegion ops (i::rest)).EY (p fn)=true)
  (H:ops[i]?=some o) (O:Region.wanted o (yielded ops tmps)=true) (h:stepG P true (G (Frame.mk fn tmps (.inRegion ops (i::rest)::k) dl .run kl none) pre) v=.go g' v' es) (Q:∀N,g'.frame.mode≠.panicking N):
  ∃n w1 J,(execOp (Frame.mk fn tmps (.inRegion ops (i::rest)::k) dl .run kl none).eval o).runT P w #[]=(.ok n w1,J)/\FC L (su fn) n:=by
 have a:p fn o=true:=by
  simp only[Item.EY,Array.all_eq_true]at I
  obtain⟨t,rfl⟩:=y_.1 H
  exact I i t
 rw[NT H]at D;have b:=F.op fn o a _ v T.plain D;have u:stepG P true (G (Frame.mk fn tmps (.inRegion ops (i::rest)::k) dl .run kl none) pre) v=
   stepG.apply P true (Frame.mk fn tmps (.inRegion ops (i::rest)::k) dl .run kl none) pre none (execOp (Frame.mk fn tmps (.inRegion ops (i::rest)::k) dl .run kl none).eval o) v:=by
  simp[G,stepG,stepG.exec,stepG.oper,Frame.oper?,H,O]
 rw[u]at h;cases Ia:(execOp (Frame.mk fn tmps (.inRegion ops (i::rest)::k) dl .run kl none).eval o).runT P v #[]with
 |mk r J=>
  cases r with
  |ok n v1=>
   have m:FC L (su fn) n:=by
    obtain⟨_,_,z,_⟩:=UN (Od:=ND) (Z:=Z) b (v:=v) (w:=v.re v.tape v.drawn) (@Yr.mk ND _ _ _ rfl (λ_ _ _=>rfl) T.dead T.plain rfl rfl (λ_ h=>False.elim h) (λ_ h=>False.elim h) (λ_ h=>False.elim h)) K Ia (λ_ _ _=>rfl)
    exact z
   have B:v'=v1:=by
    cases n<;>first|exact m.elim|skip
    all_goals
     simp only[stepG.apply,Ia,if_true,GStep.after,kL,E,jb,if_false]at h
     injection h with d e y
     exact e.symm
   subst B
   obtain⟨C,s,_,c,_⟩:=UN b T K Ia M
   exact⟨n,C,_,c,m⟩
  |halt A v1=>
   have l:=jD b T.plain Ia
   exfalso
   cases A with
   |panic x=>
    simp only[stepG.apply,Ia,if_true,GStep.after]at h
    injection h with d e y
    exact Q _ (by rw[<-d];rfl)
   |stuck x=>simp only[stepG.apply,Ia,if_true,GStep.after,reduceCtorEq]at h
   |unsupported x=>
    cases x with
    |initOrder g=>simp[Halt.LD]at l
    |_=>simp only[stepG.apply,Ia,if_true,GStep.after,reduceCtorEq]at h
   |_=>simp[Halt.LD]at l
def Fj (P:l_)(EH:h_)(kd:CallKind)(k:List Item)(ds:List Deferred)(vs rs:Z_):Prop:=
 ∃xs fn tmps front m,vs=xs++[Frame.mk fn tmps (front++[NH]) [] m .normal none]/\rs=xs++[Frame.mk EH tmps (front++k) ds m kd none]/\(∀es,seen P EH es=seen P fn es)/\su fn=false/\(xs≠[]->m=.run/\∃ops i rest fs,front=.inRegion ops (i::rest)::fs)
theorem fA (F:QE P L p)(hkd:(kd==CallKind.early)=false){C:Frame->Z_->o_->Prop}{pre:Z_}{rf:Frame}{rs:Z_}(St:Fj P EH kd k ds (fr::pre) (rf::rs))
  (T:Yr Od Z v w) (hZ:∀r,Z r->r<v.heap.size) (OQ:∀τ d,Good P L p fr pre (v.re τ d)/\∃Ew C9 v',Ih P fr pre (v.re τ d) Ew C9 v'/\C Ew C9 v'):
  ∃Ew C9 v' Qu rs' w' es,C Ew C9 v'/\Fj P EH kd k ds (Ew::C9) (Qu::rs')/\Yr Od Z v' w'/\v.heap.size<=v'.heap.size/\(∀r,Z r->w'.heap[r]?=w.heap[r]?)/\(∀e∈es,EvT Z v'.heap.size e)/\
   ∀main cs,stepG P main (G rf (rs++cs)) w=.go (G Qu (rs'++cs)) w' es:=by
 obtain⟨xs,fn,tmps,a,m,H,hr,hq,j,hx⟩:=St;by_cases hd:fr.mode=.run/\∃id g fs,fr.todo=.code (.region id g true)::fs
 ·
  obtain⟨hm,id,g,fs,K⟩:=hd;obtain⟨S,Ew,C9,v',⟨es,BX,rM⟩,hC⟩:=OQ (λi q=>match q with
   |.order _ _=>w.tape w.drawn (.order rf.fn id)
   |_=>w.tape i q) w.drawn;obtain⟨t,Q,z,d0,m0,I,r0⟩:=fr;obtain⟨_,h2,h2',h3,h4,_⟩:=S.ok;simp only at hm K h2 h2' h3 h4;subst hm K h4;have D:∀W tx kx dsx kdx main (Y:Z_) (u:o_),stepG P main (G (Frame.mk W tx (.code (.region id g true)::kx) dsx .run kdx none) Y) u=
    .go (G (Frame.mk W tx (.inRegion g (Region.schedule (P.follows .mixedOrders) g (u.tape u.drawn (.order W id)))::kx) dsx .run kdx none) Y) {u with drawn:=u.drawn+1} #[]:=λW tx kx dsx kdx main Y u=>by
   simp[G,stepG,stepG.exec,choose,Sem.run,Question.forced,Question.cut]
  rw[D]at BX;injection BX with g1 g2 O;simp only[G,Goroutine.mk.injEq]at g1;obtain⟨g1,g1',_⟩:=g1;subst g1 g1' g2 O;simp only[World.re]at hC;have M:∀τ,Yr Od Z { heap:=v.heap,tape:=τ,drawn:=w.drawn+1,os:=v.os,output:=v.output} {w with drawn:=w.drawn+1}:=λτ=>⟨T.size,T.same,T.dead,T.plain,T.os,T.output,T.KN,T.kept,T.ax⟩
  cases xs with
  |nil=>
   simp only[List.nil_append,List.cons.injEq]at H hr
   obtain⟨H,rfl⟩:=H
   obtain⟨rfl,rfl⟩:=hr
   simp only[Frame.mk.injEq]at H
   obtain⟨rfl,rfl,K,rfl,rfl,rfl,_⟩:=H
   cases a with
   |nil=>simp[NH]at K
   |cons it Nq=>
    simp only[List.cons_append,List.cons.injEq]at K
    obtain⟨rfl,rfl⟩:=K
    exact⟨_,_,_,_,[],{w with drawn:=w.drawn+1},#[],hC,⟨[],_,_,.inRegion g _::Nq,.run,rfl,rfl,hq,j,λh=>(h rfl).elim⟩,M _,w_,λ_ _=>rfl,sJ,λmain cs=>D _ _ _ _ _ main _ w⟩
  |cons x xs=>
   simp only[List.cons_append,List.cons.injEq]at H hr
   obtain⟨rfl,rfl⟩:=H
   obtain⟨rfl,rfl⟩:=hr
   exact⟨_,_,_,_,_,{w with drawn:=w.drawn+1},#[],hC,⟨_::xs,fn,tmps,a,m,rfl,rfl,hq,j,λ_=>hx sJ⟩,M _,w_,λ_ _=>rfl,sJ,λmain cs=>D _ _ _ _ _ main _ w⟩
 .obtain⟨S,Ew,C9,v',⟨es,BX,rM⟩,hC⟩:=OQ w.tape w.drawn;have T1:Yr Od Z (v.re w.tape w.drawn) w:=T.TP w.tape w.tape w.drawn w.drawn;obtain⟨lC,pre2,w',e,_,_,_,_,_,_,O,M,s,_,_,U,hw⟩:=Qc F (w:=w) S.ok S.below S.mode S.about T1 hZ BX rM (λ_ _ _=>rfl);simp only[G,Goroutine.mk.injEq]at e;obtain⟨rfl,rfl,_⟩:=e;have E:=hw true [];rw[List.append_nil,List.append_nil]at E;obtain⟨t,Q,z,d0,m0,I,r0⟩:=fr;obtain⟨hfn,h2,h2',h3,h4,h5⟩:=S.ok;simp only at hd h2 h2' h3 h4 h5 hfn;subst h4;have hke:(I==CallKind.early)=false:=by obtain rfl|rfl:=h3<;>rfl
  have y:=S.mode;have hbel:=S.below;have habout:=S.about;simp only at y;have aj9:∀it k',m0=.run->z=it::k'->∀g i l o,it=.inRegion g (i::l)->g[i]?=some o->Region.wanted o (yielded g Q)=true->∃n w1 Oa,(execOp (Frame.mk t Q (it::k') d0 .run I none).eval o).runT P w #[]=(.ok n w1,Oa)/\FC L (su t) n:=by
   rintro it k' rfl rfl g i l o rfl ho hw'
   exact ck7 F hke T1 hZ (λ_ _ _=>rfl) habout (h5 _ (List.mem_cons_self ..)) ho hw' BX rM
  cases xs with
  |nil=>
   simp only[List.nil_append,List.cons.injEq]at H hr
   obtain⟨H,rfl⟩:=H
   obtain⟨rfl,rfl⟩:=hr
   simp only[Frame.mk.injEq,and_true]at H
   obtain⟨rfl,rfl,rfl,rfl,rfl,rfl⟩:=H
   obtain rfl:m0=.run:=y.elim id λx=>(x.2 rfl).elim
   cases a with
   |nil=>simp[G,stepG,stepG.exec,NH]at E
   |cons it fs=>
    obtain⟨t',Nq,m',df,hdf,hm',e1,e2⟩|⟨f,args,⟨g,i,l,rfl⟩,e1,e2⟩:=fE (L:=L) (b:=su t) (pf:=p t) (B:=k) (dl:=[]) (ds:=ds) (kl:=.normal) (kd:=kd) (EH:=EH) hq rfl hkd (A:=[NH]) (λ_=>rfl) (h5 it sJ) (λid g e=>hd ⟨rfl,id,g,_,by rw[e];rfl⟩) (aj9 it (fs++[NH]) rfl rfl) E
    .obtain rfl:=hdf j;simp only[G,Goroutine.mk.injEq]at e1;obtain⟨rfl,rfl,_⟩:=e1;exact⟨_,_,v',_,[],w',es,hC,⟨[],_,t',Nq,m',rfl,rfl,hq,j,λh=>(h rfl).elim⟩,M,O,s,U,λmain cs=>e2 main _⟩
    .simp only[G,Goroutine.mk.injEq]at e1;obtain⟨rfl,rfl,_⟩:=e1;exact⟨_,_,v',_,[_],w',es,hC,⟨[_],_,_,_,_,rfl,rfl,hq,j,λ_=>⟨rfl,g,i,l,fs,rfl⟩⟩,M,O,s,U,λmain cs=>e2 main _⟩
  |cons x xs=>
   simp only[List.cons_append,List.cons.injEq]at H hr
   obtain⟨rfl,rfl⟩:=H
   obtain⟨rfl,rfl⟩:=hr
   have GL:=hx sJ
   obtain rfl|⟨rfl,_⟩:=y
   .cases z with
    |nil=>
     have D:∀main (Y:Z_) (u:o_),stepG P main (G (Frame.mk t Q [] d0 .run I none) Y) u=.go (G (Frame.mk t Q [] d0 .returning I none) Y) u #[]:=λmain Y u=>by simp[G,stepG,stepG.exec]
     rw[D]at E
     injection E with a1 a2 V
     simp only[G,Goroutine.mk.injEq]at a1
     obtain⟨rfl,rfl,_⟩:=a1
     subst a2 V
     exact⟨_,_,v',_,_,_,_,hC,⟨_::xs,fn,tmps,a,m,rfl,rfl,hq,j,λ_=>GL⟩,M,O,s,U,λmain cs=>D main _ _⟩
    |cons it fs=>
     have R:=fE (L:=L) (b:=su t) (pf:=p t) (P:=P) (fn:=t) (EH:=t) (tmps:=Q) (it:=it) (fs:=fs) (A:=[]) (B:=[]) (dl:=d0) (ds:=d0) (kl:=I) (kd:=I) (X:=xs++[Frame.mk fn tmps (a++[NH]) [] m .normal none]) (w:=w) (w':=w') (es:=es) (λ_=>rfl) hke hke (λ_=>rfl) (h5 it sJ) (λid g e=>hd ⟨rfl,id,g,_,by rw[e]⟩)
      (by rw[List.append_nil];exact aj9 it fs rfl rfl) (by rw[List.append_nil];exact E)
     simp only[List.append_nil]at R
     obtain⟨t',Nq,m',df,hdf,hm',e1,e2⟩|⟨f,args,_,e1,e2⟩:=R
     .simp only[G,Goroutine.mk.injEq]at e1;obtain⟨rfl,rfl,_⟩:=e1;exact⟨_,_,v',_,_,w',es,hC,⟨_::xs,fn,tmps,a,m,rfl,rfl,hq,j,λ_=>GL⟩,M,O,s,U,λmain cs=>e2 main _⟩
     .simp only[G,Goroutine.mk.injEq]at e1;obtain⟨rfl,rfl,_⟩:=e1;exact⟨_,_,v',_,_,w',es,hC,⟨_::_::xs,fn,tmps,a,m,rfl,rfl,hq,j,λ_=>GL⟩,M,O,s,U,λmain cs=>e2 main _⟩
   .cases d0 with
    |cons d ds'=>
     obtain⟨f,cap,htg,hLf⟩:=h2' d (List.mem_cons_self ..)
     obtain⟨fnb,cb,JU,Iq,hb3,_⟩:=F.body f hLf
     obtain⟨tg,ar⟩:=d
     simp only at htg
     subst htg
     have hinv:∀u:o_,(invoke (.fn (.func f) cap) ar).runT P u #[]=(.ok (.enter f (ar++cap)) u,#[]):=λu=>by
      simp only[invoke,callFunc,program,bind,Sem.bind,Sem.runT,JU,Iq,hb3,pure]
      rfl
     have D:∀main (Y:Z_) (u:o_),stepG P main (G (Frame.mk t Q z (⟨.fn (.func f) cap,ar⟩::ds') .returning I none) Y) u=
       .go (G (Frame.enter P f (ar++cap) .deferred) (Frame.mk t Q z ds' .returning I none::Y)) u #[]:=λmain Y u=>by
      simp only[G,stepG,unwind,callDeferred,hinv,GStep.after]
      simp[seen]
     rw[D]at E
     injection E with a1 a2 V
     simp only[G,Goroutine.mk.injEq]at a1
     obtain⟨rfl,rfl,_⟩:=a1
     subst a2 V
     exact⟨_,_,v',_,_,_,_,hC,⟨_::_::xs,fn,tmps,a,m,rfl,rfl,hq,j,λ_=>GL⟩,M,O,s,U,λmain cs=>D main _ _⟩
    |nil=>
     obtain⟨fn0,hf0,_⟩:=hfn
     cases Ia:(results fn0 Q).runT P w #[]with
     |mk r Oa=>
      cases r with
      |halt hh w1=>
       exfalso
       cases xs<;>(simp only[G,stepG,unwind,hf0,Ia,List.nil_append,List.cons_append]at E;cases hh<;>simp[GStep.after]at E)
      |ok x w1=>
       have D:∀main (c:Frame) (Y:Z_),I=.normal->stepG P main (G (Frame.mk t Q z [] .returning I none) (c::Y)) w=.go (G (c.finish x) Y) w1 (seen P t Oa):=λmain c Y N=>by
        subst N
        simp only[G,stepG,unwind,hf0,Ia,doReturn,GStep.after,kL]
       have hs2:∀main (c:Frame) (Y:Z_),I=.deferred->(c.mode=.returning\/NK c)->stepG P main (G (Frame.mk t Q z [] .returning I none) (c::Y)) w=.go (G c Y) w1 (seen P t Oa):=λmain c Y N J=>by
        subst N
        obtain J|⟨⟨pv,rc,ge⟩,b,e,e1,e2⟩:=J
        .simp only[G,stepG,unwind,hf0,Ia,doReturn,GStep.after,kL,J]
        .simp only at e1 e2;subst e1 e2;simp only[G,stepG,unwind,hf0,Ia,doReturn,GStep.after,kL,e]
       cases xs with
       |nil=>
        obtain⟨rfl,g,i,l,fs,rfl⟩:=GL
        obtain⟨_,hcm,_⟩:=hbel
        have N:I=.normal:=by
         obtain⟨e,_⟩|⟨_,e|⟨_,_,e,_⟩⟩:=hcm
         .exact e
         .cases e
         .cases e
        rw[List.nil_append,D _ _ _ N]at E;injection E with a1 a2 V;simp only[G,Goroutine.mk.injEq]at a1;obtain⟨rfl,rfl,_⟩:=a1;subst a2 V;exact⟨_,_,v',_,_,_,_,hC,⟨[],fn,_,.inRegion g l::fs,.run,rfl,rfl,hq,j,λh=>(h rfl).elim⟩,M,O,s,U,λmain cs=>D main _ _ N⟩
       |cons c xs=>
        obtain⟨_,hcm,_⟩:=hbel
        simp only at hcm
        obtain⟨N,_⟩|⟨N,J⟩:=hcm
        .rw[List.cons_append,D _ _ _ N]at E;injection E with a1 a2 V;simp only[G,Goroutine.mk.injEq]at a1;obtain⟨rfl,rfl,_⟩:=a1;subst a2 V;exact⟨_,_,v',_,_,_,_,hC,⟨_::xs,fn,tmps,a,m,rfl,rfl,hq,j,λ_=>GL⟩,M,O,s,U,λmain cs=>D main _ _ N⟩
        .rw[List.cons_append,hs2 _ _ _ N J]at E;injection E with a1 a2 V;simp only[G,Goroutine.mk.injEq]at a1;obtain⟨rfl,rfl,_⟩:=a1;subst a2 V;exact⟨_,_,v',_,_,_,_,hC,⟨_::xs,fn,tmps,a,m,rfl,rfl,hq,j,λ_=>GL⟩,M,O,s,U,λmain cs=>hs2 main _ _ N J⟩
end
def AtEnd (Q:Exit->Act->o_->Prop)(f:h_)(fr:Frame)(pre:Z_)(v:o_):Prop:=
 pre=[]/\∃tmps τ d,(fr=Frame.mk f tmps [NH] [] .run .normal none/\Q .normal ⟨tmps,[]⟩ (v.re τ d))\/(∃todo,fr=Frame.mk f tmps todo [] .returning .normal none/\Q .ret ⟨tmps,[]⟩ (v.re τ d))
def dW (L:h_->Prop)(N:Fence)(f:h_):Prop:=N.fn f/\L f/\su f=false
section
variable {P:l_}{L:h_->Prop}{p:h_->Oper->Bool}{Z:Nat->Prop}
theorem ry {Q:Exit->Act->o_->Prop}:zx (AtEnd Q f):=by
 rintro g pre v w a b c ⟨e1,t,τ,d,e⟩;have:w.re τ d=v.re τ d:=by
  unfold World.re
  rw[a,b,c]
 exact⟨e1,t,τ,d,by rw[this];exact e⟩
theorem gp (F:QE P L p){N:Fence}(C:N.alive=true)(G:N.depth=none)(I:N.round=none)(E:∀f,N.fn f->L f\/Ext P f)(D:dW L N f){n:Nat}{c:Code}(M:c.AP (p f)=true)
  (J:∀(r:Nat)(o:Obj),v.heap[r]?=some o->o.plain=true) {Q:Exit->Act->o_->Prop} (K:∀e a w,Q e a w->(e=.normal\/e=.ret)/\a.defers=[])
  (H:∀τ d,c.wpIn N n P Q ⟨tmps,[]⟩ (v.re τ d)):Fin P L p (AtEnd Q f) (Frame.mk f tmps [.code c,NH] [] .run .normal none) [] v:=by
 refine yF F ry λτ d=>?_
 obtain⟨e,s,h,hq,b⟩:=H τ d (Frame.mk f tmps [] [] .run .normal none) [NH] [] I.symm D.1 (λ_ i=>by rw[G]at i;cases i);obtain⟨j,A,k,_,_⟩:=F.body f D.2.1;have l:FQ P L p (Frame.mk f tmps [.code c,NH] [] .run .normal none):=⟨⟨j,k,F.init f D.2.1⟩,λ_=>rfl,λd i=>(by cases i),.inl rfl,rfl,λB m=>by
  simp only[r_,lG,or_false]at m
  obtain rfl|rfl:=m
  .exact M
  .rfl⟩
 obtain⟨y,q⟩:=K e s h hq;obtain⟨t,x⟩:=s;simp only at q;subst q;obtain rfl|rfl:=y
 .exact zW F C E b rfl rfl (λu=>by simp[Frame.atR]) ⟨rfl,t,h.tape,h.drawn,.inl ⟨rfl,hq⟩⟩ l ⟨D.2.2,rfl⟩ (.inl rfl) J
 .obtain⟨g,z⟩:=b.1 rfl;exact zW F C E z rfl rfl (λu=>sJ) ⟨rfl,t,h.tape,h.drawn,.inr ⟨g,rfl,hq⟩⟩ l ⟨D.2.2,rfl⟩ (.inl rfl) J
def Y7 (Od:Old)(P:l_)(Ad:Loc->Prop)(Z:Nat->Prop)(B:Nat)(v:o_)(gs:Array m_)(w:o_)(t:Trace):Prop:=
 ∃q,Yr Od Z v w/\(∀r,Z r->r<v.heap.size)/\Leavers P t gs q/\Past Ad B t/\w.heap.size<=B
theorem pX (F:QE P L p)(hu:Gx Ad Z)(hkd:(kd==CallKind.early)=false){S:Frame->Z_->o_->Prop}{pre:Z_}(h:Fin P L p S fr pre v):
  ∀(rf:Frame)(rs:Z_)(gs:Array m_)(w:o_)(sl:d_ (W_))(t:Trace)(B:Nat)(cs:Z_),Fj P EH kd k ds (fr::pre) (rf::rs)->Y7 Od P Ad Z B v gs w t->gs[0]?=some (G rf (rs++cs))->
   AX P gs w sl t λBA w' t'=>∃Ew C9 v' Qu rs' B',BA[0]?=some (G Qu (rs'++cs))/\Fj P EH kd k ds (Ew::C9) (Qu::rs')/\S Ew C9 v'/\v.heap.size<=v'.heap.size/\B<=B'/\Y7 Od P Ad Z B' v' BA w' t':=by
 refine h (fun fr pre v=>∀(rf:Frame)(rs:Z_)(gs:Array m_)(w:o_)(sl:d_ (W_))(t:Trace)(B:Nat)(cs:Z_),Fj P EH kd k ds (fr::pre) (rf::rs)->Y7 Od P Ad Z B v gs w t->gs[0]?=some (G rf (rs++cs))->
   AX P gs w sl t λBA w' t'=>∃Ew C9 v' Qu rs' B',BA[0]?=some (G Qu (rs'++cs))/\Fj P EH kd k ds (Ew::C9) (Qu::rs')/\S Ew C9 v'/\v.heap.size<=v'.heap.size/\B<=B'/\Y7 Od P Ad Z B' v' BA w' t') ?_ ?_
 .intro fr pre v hS rf rs gs w sl t B cs g f l;exact .now ⟨fr,pre,v,rf,rs,B,l,g,hS,w_,w_,f⟩
 .intro fr pre v Q rf rs gs w sl t B cs g f l;obtain⟨q,T,H,hL,hP,hB⟩:=f;obtain⟨N,i,a1,w1,M,t1,q1,C,z,hs,Y,⟨O,X,V,v1,c,e,rfl,St1,R,u,y,hC⟩,o,s,m⟩:=XM (P:=P) (Ad:=Ad)
   (K:=λU w'=>∃Ew C9 v' Qu rs',U=G Qu (rs'++cs)/\Fj P EH kd k ds (Ew::C9) (Qu::rs')/\Yr Od Z v' w'/\(∀r,Z r->r<v'.heap.size)/\v.heap.size<=v'.heap.size/\
    ∀(rf:Frame)(rs:Z_)(gs:Array m_)(w:o_)(sl:d_ (W_))(t:Trace)(B:Nat)(cs:Z_),Fj P EH kd k ds (Ew::C9) (rf::rs)->Y7 Od P Ad Z B v' gs w t->gs[0]?=some (G rf (rs++cs))->
   AX P gs w sl t λBA w' t'=>∃b I a Qu rs' B',BA[0]?=some (G Qu (rs'++cs))/\Fj P EH kd k ds (b::I) (Qu::rs')/\S b I a/\v'.heap.size<=a.heap.size/\B<=B'/\Y7 Od P Ad Z B' a BA w' t')
   (sumTo gs.size q) gs (G rf (rs++cs)) w sl t q B w_ l rfl hL hP (λd=>by
    obtain⟨Ew,C9,v',Qu,rs',w',W,hC,St',D,E,_,J,hw⟩:=fA F hkd (w:=w.at d) g (T.TP v.tape w.tape v.drawn d) H Q
    refine⟨G Qu (rs'++cs),w',W,max B v'.heap.size,hw true cs,Nat.le_max_left ..,λx hx=>jG hu (Nat.le_max_right ..) (J x hx),?_,Ew,C9,v',Qu,rs',rfl,St',D,λr z=>Nat.lt_of_lt_of_le (H r z) E,E,hC⟩
    rw[<-D.size];exact Nat.le_max_right ..);have n:AX P gs w sl t λBA w' t'=>BA[0]?=some (G c (e++cs))/\Y7 Od P Ad Z C v1 BA w' t':=⟨N,i,w1,M,t1,z,hs,Y,q1,R,u,o,s,O⟩
  refine n.bind λj w2 A t2 _ ⟨k1,k2⟩=>?_
  exact(hC c e j w2 A t2 C cs St1 k2 k1).mono λBA w' t' ⟨Ew,C9,v',Qu,rs',B',j1,j2,j3,j4,j5,j6⟩=>⟨Ew,C9,v',Qu,rs',B',j1,j2,j3,lN y j4,lN m j5,j6⟩
theorem ao3 {Still:Loc->Prop}{Mem Am:Nat->Prop}{h j:Nat}{By:Nat->m_->o_->Trace->Prop}(F:QE P L p)(hu:Gx Ad Z)(BX:Gx Still Z)(O:G8 P Z Ad Still (fun B t=>PX Ad Still Mem Am B h t) j By)(hkd:(kd==CallKind.early)=false)
  {S:Frame->Z_->o_->Prop} {fr:Frame} {pre:Z_} {v:o_} (H:Fin P L p S fr pre v):
  ∀(rf:Frame)(rs:Z_)(gs:Array m_)(w:o_)(sl:d_ (W_))(t:Trace)(q:Nat->Nat)(n B:Nat)(cs:Z_),Fj P EH kd k ds (fr::pre) (rf::rs)->Yr Od Z v w->(∀r,Z r->r<v.heap.size)->gs[h]?=some (G rf (rs++cs))->Duo P Ad Still Mem Am B h j By n gs w t q->
   AX P gs w sl t λBA w' t'=>∃q' n' B' Ew C9 v' Qu rs',BA[h]?=some (G Qu (rs'++cs))/\Fj P EH kd k ds (Ew::C9) (Qu::rs')/\S Ew C9 v'/\Yr Od Z v' w'/\(∀r,Z r->r<v'.heap.size)/\v.heap.size<=v'.heap.size/\B<=B'/\Duo P Ad Still Mem Am B' h j By n' BA w' t' q':=by
 refine H (fun fr pre v=>∀(rf:Frame)(rs:Z_)(gs:Array m_)(w:o_)(sl:d_ (W_))(t:Trace)(q:Nat->Nat)(n B:Nat)(cs:Z_),Fj P EH kd k ds (fr::pre) (rf::rs)->Yr Od Z v w->(∀r,Z r->r<v.heap.size)->gs[h]?=some (G rf (rs++cs))->Duo P Ad Still Mem Am B h j By n gs w t q->
   AX P gs w sl t λBA w' t'=>∃q' n' B' Ew C9 v' Qu rs',BA[h]?=some (G Qu (rs'++cs))/\Fj P EH kd k ds (Ew::C9) (Qu::rs')/\S Ew C9 v'/\Yr Od Z v' w'/\(∀r,Z r->r<v'.heap.size)/\v.heap.size<=v'.heap.size/\B<=B'/\Duo P Ad Still Mem Am B' h j By n' BA w' t' q') ?_ ?_
 .intro fr pre v hS rf rs gs w sl t q n B cs f T c l D;exact .now ⟨q,n,B,fr,pre,v,rf,rs,l,f,hS,T,c,w_,w_,D⟩
 .intro fr pre v U rf rs gs w sl t q n B cs f T c l D;obtain⟨N,g,a1,w1,R,t1,q1,n1,E,z,hs,h1,⟨fr1,X,v1,d,e,rfl,St1,V,s,y,hC⟩,m,M⟩:=kK O
   (Kst:=λW w'=>∃Ew C9 v' Qu rs',W=G Qu (rs'++cs)/\Fj P EH kd k ds (Ew::C9) (Qu::rs')/\Yr Od Z v' w'/\(∀r,Z r->r<v'.heap.size)/\v.heap.size<=v'.heap.size/\
    ∀(rf:Frame)(rs:Z_)(gs:Array m_)(w:o_)(sl:d_ (W_))(t:Trace)(q:Nat->Nat)(n B:Nat)(cs:Z_),Fj P EH kd k ds (Ew::C9) (rf::rs)->Yr Od Z v' w->(∀r,Z r->r<v'.heap.size)->gs[h]?=some (G rf (rs++cs))->Duo P Ad Still Mem Am B h j By n gs w t q->
   AX P gs w sl t λBA w' t'=>∃q' n' B' b K a Qu rs',BA[h]?=some (G Qu (rs'++cs))/\Fj P EH kd k ds (b::K) (Qu::rs')/\S b K a/\Yr Od Z a w'/\(∀r,Z r->r<a.heap.size)/\v'.heap.size<=a.heap.size/\B<=B'/\Duo P Ad Still Mem Am B' h j By n' BA w' t' q')
   (n+sumTo gs.size q) n gs (G rf (rs++cs)) w sl t q B w_ l rfl D (λw1 A=>by
    obtain⟨Ew,C9,v',Qu,rs',w',Y,hC,St',I,J,u,Q,hw⟩:=fA F hkd (w:=w1) f (T.off c A) c U
    refine⟨G Qu (rs'++cs),w',Y,max B v'.heap.size,hw (h==0) cs,Nat.le_max_left ..,λx hx=>bk7 hu BX (Nat.le_max_right ..) (Q x hx),u,?_,Ew,C9,v',Qu,rs',rfl,St',I,λr z=>Nat.lt_of_lt_of_le (c r z) J,J,hC⟩
    rw[<-I.size];exact Nat.le_max_right ..);have o:AX P gs w sl t λBA w' t'=>BA[h]?=some (G d (e++cs))/\Yr Od Z v1 w'/\∃q' n',Duo P Ad Still Mem Am E h j By n' BA w' t' q':=⟨N,g,w1,R,t1,z,hs,h1,V,q1,n1,M⟩
  refine o.bind λi w2 C t2 _ ⟨k1,k2,q2,n2,k3⟩=>?_
  exact(hC d e i w2 C t2 q2 n2 E cs St1 k2 s k1 k3).mono λBA w' t' ⟨q',n',B',Ew,C9,v',Qu,rs',j1,j2,j3,j4,j5,j6,j7,j8⟩=>⟨q',n',B',Ew,C9,v',Qu,rs',j1,j2,j3,j4,j5,lN y j6,lN m j7,j8⟩
end
end Go.Fxa
namespace Go.Fxa
open Go.Conc
theorem Yr.kill {Od:Old}{Z Z':Nat->Prop}{v w:o_}(T:Yr Od Z v w)(k:∀r,Z r->Z' r)(j:∀r,Z' r->¬Od.dead r):∃v',Yr Od Z' v' w/\v'.heap.size=v.heap.size/\(∀r,¬Z' r->v'.heap[r]?=v.heap[r]?)/\v'.os=v.os/\v'.output=v.output:=by
 classical
 refine⟨{v with heap:=Array.ofFn (n:=v.heap.size) λi=>if Z' i then DV else v.heap[i]},⟨?_,λr b a=>?_,λr b g=>?_,λr o d=>?_,T.os,T.output,λr a=>?_,T.kept,λr a c=>j r c a⟩,sJ,λr b=>?_,rfl,rfl⟩
 .simpa using T.size
 .rw[<-T.same r (λh=>b (k r h)) a];by_cases h:r<v.heap.size<;>simp[h,b]
 .have:r<v.heap.size:=by simpa using g
  simp[this,b]
 .by_cases h:r<v.heap.size
  .by_cases f:Z' r
   .simp[h,f]at d;subst d;rfl
   .simp[h,f]at d;exact T.plain r o (by rw[v_ h,d])
  .simp[h]at d
 .have e:=T.KN r a;have h:=(y_.1 e).1;have b:¬Z' r:=λc=>j r c a
  rw[v_ h]at e;simpa [h,b]using x_ e
 .by_cases h:r<v.heap.size<;>simp[h,b]
theorem Past.shun {Ad d:Loc->Prop}{B:Nat}{t:Trace}(h:Past Ad B t)(e:∀l,Ad l->d l):Past d B t:=
 ⟨h.clean,λi a b c=>(h.known i a b c).imp id λx=>⟨e _ x.1,x.2⟩,h.over,h.hears,h.seen⟩
end Go.Fxa
namespace Go.Fxa
open Go.Conc
open Go.ConcN (sumTo upd sumTo_upd upd_ne upd_same)
variable {cs:Z_}{Od:Old}{K J:o_->Prop}{k:Nat}{a a':m_}
structure V4 (P:l_)(L:h_->Prop)(p:h_->Oper->Bool)(N:Fence):Prop where
 EY:QE P L p
 alive:N.alive=true
 depth:N.depth=none
 round:N.round=none
 fn:∀f,N.fn f->L f\/Ext P f
def jc (EH:h_)(kd:CallKind)(k:List Item)(ds:List Deferred)(cs:Z_)(Q:Exit->Act->o_->Prop)(g:m_)(v:o_):Prop:=
 ∃tmps τ d,(g=G (Frame.mk EH tmps k ds .run kd none) cs/\Q .normal ⟨tmps,[]⟩ (v.re τ d))\/(∃todo,g=G (Frame.mk EH tmps todo ds .returning kd none) cs/\Q .ret ⟨tmps,[]⟩ (v.re τ d))
section
variable {P:l_}{L:h_->Prop}{p:h_->Oper->Bool}{N:Fence}{Z:Nat->Prop}{Ad Still:Loc->Prop}{f EH:h_}{kd:CallKind}{k:List Item}{ds:List Deferred}{Q:Exit->Act->o_->Prop}{c:Code}{tmps:X_}{v:o_}{m:Nat}
theorem gX {fr n:Frame}{pre o:Z_}(r:AtEnd Q f fr pre v)(q:Fj P EH kd k ds (fr::pre) (n::o)):jc EH kd k ds cs Q (G n (o++cs)) v:=by
 obtain⟨rfl,t,τ,d,h⟩:=r;obtain⟨xs,fn,m,b,j,c,g,_,_,_⟩:=q;cases xs with
 |cons x xs=>simp at c
 |nil=>
  simp only[List.nil_append,List.cons.injEq,and_true]at c g
  obtain⟨g,rfl⟩:=g
  subst g
  obtain⟨rfl,hq⟩|⟨i,rfl,hq⟩:=h
  .simp only[Frame.mk.injEq]at c;obtain⟨_,rfl,e,_,rfl,_⟩:=c;have:b=[]:=by
    cases b with
    |nil=>rfl
    |cons a l=>simp at e
   subst this;exact⟨t,τ,d,.inl ⟨rfl,hq⟩⟩
  .simp only[Frame.mk.injEq]at c;obtain⟨_,rfl,e,_,rfl,_⟩:=c;exact⟨t,τ,d,.inr ⟨_,rfl,hq⟩⟩
theorem TE (b:su f=false)(hq:∀es,seen P EH es=seen P f es)(c:Code)(tmps:X_):Fj P EH kd k ds [Frame.mk f tmps [.code c,NH] [] .run .normal none] [Frame.mk EH tmps (.code c::k) ds .run kd none]:=
 ⟨[],f,tmps,[.code c],.run,rfl,rfl,hq,b,λh=>(h rfl).elim⟩
theorem MS (x:V4 P L p N)(O:Gx Ad Z)(D:dW L N f)(hq:∀es,seen P EH es=seen P f es)(A:(kd==CallKind.early)=false)(M:c.AP (p f)=true)(I:∀e a w,Q e a w->(e=.normal\/e=.ret)/\a.defers=[])
  (H:∀τ d,c.wpIn N m P Q ⟨tmps,[]⟩ (v.re τ d)) {gs:Array m_} {w:o_} {sl:d_ (W_)} {t:Trace} {B:Nat} {cs:Z_} (C:Y7 Od P Ad Z B v gs w t) (F:gs[0]?=some (G (Frame.mk EH tmps (.code c::k) ds .run kd none) cs)):
  AX P gs w sl t λz w' E=>∃g v' y,z[0]?=some g/\jc EH kd k ds cs Q g v'/\v.heap.size<=v'.heap.size/\B<=y/\Y7 Od P Ad Z y v' z w' E:=by
 have T:=C.choose_spec.1;have b:=gp x.EY x.alive x.depth x.round x.fn D M T.plain I H;refine(pX x.EY O A b _ [] gs w sl t B cs (TE D.2.2 hq c tmps) C F).mono λz w' E ⟨s,r,v',u,q,y,h,i,j,l,n,o⟩=>?_
 exact⟨_,v',y,h,gX j i,l,n,o⟩
theorem ϯ {Mem Am:Nat->Prop}{h j:Nat}{S:Nat->m_->o_->Trace->Prop}(I:V4 P L p N)(hu:Gx Ad Z)(BX:Gx Still Z)(O:G8 P Z Ad Still (fun B t=>PX Ad Still Mem Am B h t) j S)(X:dW L N f)(hq:∀es,seen P EH es=seen P f es)(U:(kd==CallKind.early)=false)(hc:c.AP (p f)=true)
  (hQ:∀e a w,Q e a w->(e=.normal\/e=.ret)/\a.defers=[]) (H:∀τ d,c.wpIn N m P Q ⟨tmps,[]⟩ (v.re τ d))
  {gs:Array m_} {w:o_} {sl:d_ (W_)} {t:Trace} {q:Nat->Nat} {n B:Nat} {cs:Z_} (T:Yr Od Z v w) (hZ:∀r,Z r->r<v.heap.size) (h0:gs[h]?=some (G (Frame.mk EH tmps (.code c::k) ds .run kd none) cs)) (D:Duo P Ad Still Mem Am B h j S n gs w t q):
  AX P gs w sl t λR w' Y=>∃W V M g v',R[h]?=some g/\jc EH kd k ds cs Q g v'/\Yr Od Z v' w'/\(∀r,Z r->r<v'.heap.size)/\v.heap.size<=v'.heap.size/\B<=M/\Duo P Ad Still Mem Am M h j S V R w' Y W:=by
 have b:=gp I.EY I.alive I.depth I.round I.fn X hc T.plain hQ H;refine(ao3 I.EY hu BX O U b _ [] gs w sl t q n B cs (TE X.2.2 hq c tmps) T hZ h0 D).mono λR w' Y ⟨W,V,M,E,C,v',F,A,i,l,o,s,u,x,y,z⟩=>?_
 exact⟨W,V,M,_,v',i,gX o l,s,u,x,y,z⟩
end
def Dw (I:o_->Prop):Prop:=∀v τ d,I v->I (v.re τ d)
theorem Dw.back {I:o_->Prop}(h:Dw I){v:o_}{τ:Tape}{d:Nat}(b:I (v.re τ d)):I v:=by
 have:=h (v.re τ d) v.tape v.drawn b;exact this
def cZ (Od:Old)(P:l_)(Z:Nat->Prop)(Ad Still:Loc->Prop)(Mem Am:Nat->Prop)(h j:Nat)(By:Nat->m_->o_->Trace->Prop)(C:m_->o_->Prop)(gs:Array m_)(w:o_)(t:Trace):Prop:=
 ∃q n B g v,gs[h]?=some g/\C g v/\Yr Od Z v w/\(∀r,Z r->r<v.heap.size)/\Duo P Ad Still Mem Am B h j By n gs w t q
section
variable {P:l_}{L:h_->Prop}{p:h_->Oper->Bool}{N:Fence}{Z:Nat->Prop}{Ad Still:Loc->Prop}{Mem Am:Nat->Prop}{h j:Nat}{By:Nat->m_->o_->Trace->Prop}{C C':m_->o_->Prop}{gs:Array m_}{w:o_}{sl:d_ (W_)}{t:Trace}
theorem cZ.mono (H:cZ Od P Z Ad Still Mem Am h j By C gs w t)(d:∀g v,C g v->C' g v):cZ Od P Z Ad Still Mem Am h j By C' gs w t:=by
 obtain⟨q,n,B,g,v,a,b,c⟩:=H;exact⟨q,n,B,g,v,a,d g v b,c⟩
theorem cZ.walk {S0:Loc->Prop}(F:∀n b w t,By n b w t->∀d,K (w.at d))(E:∀w a,K w->S0 (.cell a)->a.block<w.heap.size)(D:∀l,S0 l->¬Ad l)(O:G8 P Z Ad Still (fun B t=>PX Ad Still Mem Am B h t) j By)
  (H:cZ Od P Z Ad Still Mem Am h j By (λg v=>g=a/\J v) gs w t) (G:RW P (h==0) K S0 k a a'):AX P gs w sl t (cZ Od P Z Ad Still Mem Am h j By (λg v=>g=a'/\J v)):=by
 obtain⟨q,n,B,g,v,f,⟨rfl,i⟩,m,c,o⟩:=H;exact(uo F E D O k G f o).mono λy A z ⟨x,u,e,p,r,_,s⟩=>⟨x,u,e,_,v,p,⟨rfl,i⟩,m.off c r,c,s⟩
theorem cZ.Uz (A:∀n b w t,By n b w t->∀d,K (w.at d))(O:G8 P Z Ad Still (fun B t=>PX Ad Still Mem Am B h t) j By)
  (H:cZ Od P Z Ad Still Mem Am h j By (λg v=>g=a/\J v) gs w t) (D:Ls P K (h==0) k a a'):AX P gs w sl t (cZ Od P Z Ad Still Mem Am h j By (λg v=>g=a'/\J v)):=by
 obtain⟨q,n,B,g,v,f,⟨rfl,i⟩,l,c,m⟩:=H;exact(Ie A O k D f m).mono λx z y ⟨u,s,e,o,p,_,r⟩=>⟨u,s,e,_,v,o,⟨rfl,i⟩,l.off c p,c,r⟩
theorem cZ.piece {f EH:h_}{kd:CallKind}{k:List Item}{ds:List Deferred}{Q:Exit->Act->o_->Prop}{c:Code}{tmps:X_}{m:Nat}(S:V4 P L p N)(W:Gx Ad Z)(R:Gx Still Z)(O:G8 P Z Ad Still (fun B t=>PX Ad Still Mem Am B h t) j By)(V:dW L N f)(hq:∀es,seen P EH es=seen P f es)(M:(kd==CallKind.early)=false)(U:c.AP (p f)=true)
  (T:∀e a w,Q e a w->(e=.normal\/e=.ret)/\a.defers=[]) (X:∀v,J v->∀τ d,c.wpIn N m P Q ⟨tmps,[]⟩ (v.re τ d))
  (H:cZ Od P Z Ad Still Mem Am h j By (λg v=>g=G (Frame.mk EH tmps (.code c::k) ds .run kd none) cs/\J v) gs w t):AX P gs w sl t (cZ Od P Z Ad Still Mem Am h j By (jc EH kd k ds cs Q)):=by
 obtain⟨q,n,B,g,v,i,⟨rfl,l⟩,o,r,s⟩:=H;exact(ϯ S W R O V hq M U T (X v l) o r i s).mono λF K I ⟨D,C,b,g,E,u,x,y,z,_,_,A⟩=>⟨D,C,b,g,E,u,x,y,z,A⟩
end
section
variable {P:l_}{Z:Nat->Prop}{Ad Still:Loc->Prop}{Mem:Nat->Prop}{h j:Nat}{gs:Array m_}{w:o_}{sl:d_ (W_)}{t:Trace}{K K1:o_->Prop}{TT:Trace->Prop}{cJ cH cN:Array CommCase}{ah bZ shN:CommShape}{kh kj c k:Nat}{v z zj:n_}{a gS:m_}{home:m_->Prop}{J:o_->Prop}
structure zA (P:l_)(Z:Nat->Prop)(Ad Still:Loc->Prop)(Mem:Nat->Prop)(h j:Nat)(K K1:o_->Prop)(TT:Trace->Prop)(cJ cH:Array CommCase)(kh kj c:Nat)(v z zj:n_):Prop where
 leans:Tz Z Still K1
 PT:∀w,K1 w->K w
 lasts:dV Ad Still j TT
 meets:Yy Z cH cJ kh kj c v z zj
 ϑ:Mem h
 ϐ:Mem j
 opens:∀w,K1 w->∀(m:Nat) cc,m≠kh->cH[m]?=some cc->GG w cc
 keeps:∀w d k,K1 w->K1 ((w.at d).setChan c 0 #[] false k k false)
theorem cZ.give (M:zA P Z Ad Still Mem h j K K1 TT cJ cH kh kj c v z zj)(hoN:∀w,K1 w->∀cc∈cN,GG w cc)(BJ:a.status=.running)(IQ:∀w,stepG P (h==0) a w=.comm a cH true bZ w #[])
  (Y:Ho P (h==0) K Still cN shN home k (Conc.served a (commResult cH bZ kh undef false)))
  (H:cZ Od P Z Ad Still Mem (λg=>g=j) h j (O0 P (j==0) K K1 TT Still cJ ah (·=gS)) (λg v=>g=a/\J v) gs w t):
  AX P gs w sl t (cZ Od P Z Ad Still Mem (λg=>g=h) j h (O0 P (h==0) K K1 TT Still cN shN home) (λg v'=>g=Conc.served gS (commResult cJ ah kj v true)/\J v')):=by
 obtain⟨q,n,B,g,v0,m,⟨rfl,o⟩,T,A,D⟩:=H;obtain⟨b,hb,p⟩:=D.idle;have υ:K1 w:=p.1.1;refine(Zc (Am:=λg=>g=j) M.leans M.PT M.lasts M.meets M.ϑ M.ϐ rfl (es:=#[]) (n+sumTo gs.size q+1) n gs g w sl t q B wB m BJ D (M.opens w υ) (λd=>IQ (w.at d)) sJ).bind λO W R V Q C=>?_
 obtain⟨N,y,d,e,m1,m2,m3,S,U,rfl,G,I,L,u,_⟩:=C;have s:Z c:=by
  obtain⟨E,X,x,r⟩:=M.meets.hrj _ (Array.mem_of_getElem? M.meets.hkj)
  have:c=E:=by simp[rcase]at x;exact x.1
  rw[this];exact r
 have off:CS Z w ((w.at d).setChan c 0 #[] false (e+1) (e+1) false):=Nk s w d (e+1) false;have f:K1 ((w.at d).setChan c 0 #[] false (e+1) (e+1) false):=M.keeps w d (e+1) υ;refine .now ⟨N,k+1,B,_,v0,m2,⟨by rw[m3],o⟩,T.off A off,A,⟨D.ne.symm,D.zero.symm,λg l=>(D.mem g l).symm,⟨_,m1,⟨f,u⟩,hoN _ f,.inr ⟨k,rfl,rfl,Y⟩⟩,λi g m o F=>G i g o m F,I,L.loosen (λg l=>(l.2 l.1).elim),?_⟩⟩;rw[JI];exact D.size
end
end Go.Fxa
