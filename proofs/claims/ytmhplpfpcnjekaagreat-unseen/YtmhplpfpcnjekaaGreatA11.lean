/- A piece of code, walked alone -/
import Derived.Test.YtmhplpfpcnjekaaGreatA10
namespace Go.Fxa
open Go.Conc
open Go.ConcN (sumTo upd sumTo_upd upd_ne upd_same)
variable {fn EC f:h_} {tmps:X_} {dl ds:List Deferred} {kl kd:CallKind} {Od:Old} {k:List Item} {v w:o_} {fr:Frame} {Ad:Loc->Prop}
def Ny:Item:=.code (.refuse "")
theorem P7 {id:Nat} {A B:List Item} (g:exitTo id A=none):∀{fs k':List Item},exitTo id (fs++A)=some k'->∃Nh,k'=Nh++A/\exitTo id (fs++B)=some (Nh++B)
 |[],k',h=>by rw[List.nil_append,g]at h;cases h
 |d::fs,k',h=>by
  cases d with
  |inBlock c=>
   simp only[List.cons_append,exitTo]at h ⊢
   split at h
   .rename_i a;obtain rfl:=x_ h;exact⟨fs,rfl,by rw[rC a]⟩
   .rename_i a;obtain⟨Nh,e,b⟩:=P7 g h;exact⟨Nh,e,by rw[ru a];exact b⟩
  |_=>
   simp only[List.cons_append,exitTo]at h ⊢
   exact P7 g h
section
variable {P:l_} {L:h_->Prop} {p:h_->Oper->Bool} {Z:Nat->Prop}
theorem bz (S:∀es,seen P EC es=seen P fn es) {it:Item} {fs A B:List Item} {pf:Oper->Bool} {b:Bool} (Q:(kl==CallKind.early)=false) (O:(kd==CallKind.early)=false) (V:∀id,exitTo id A=none) (N:it.ES pf=true)
  (U:∀id ops,it≠.code (.region id ops true)) {w w':o_} {X:Z_} {g':m_} {es:Array Event}
  (W:∀ops i rest o,it=.inRegion ops (i::rest)->ops[i]?=some o->Region.wanted o (yielded ops tmps)=true->∃n w1 T,(execOp (Frame.mk fn tmps (it::(fs++A)) dl .run kl none).eval o).runT P w #[]=(.ok n w1,T)/\Fh L b n)
  (h:stepG P true (G (Frame.mk fn tmps (it::(fs++A)) dl .run kl none) X) w=.go g' w' es):
  (∃FC Nh m R,(b=false->R=[])/\(m=.run\/m=.returning)/\g'=G (Frame.mk fn FC (Nh++A) (R++dl) m kl none) X/\∀main Y,stepG P main (G (Frame.mk EC tmps (it::(fs++B)) ds .run kd none) Y) w=.go (G (Frame.mk EC FC (Nh++B) (R++ds) m kd none) Y) w' es)\/
  (∃f args,(∃ops i rest,it=.inRegion ops (i::rest))/\g'=G (Frame.enter P f args .normal) (Frame.mk fn tmps (it::(fs++A)) dl .run kl none::X)/\
   ∀main Y,stepG P main (G (Frame.mk EC tmps (it::(fs++B)) ds .run kd none) Y) w=.go (G (Frame.enter P f args .normal) (Frame.mk EC tmps (it::(fs++B)) ds .run kd none::Y)) w' es):=by
 have e:∀{FC:X_} {Nh:List Item} {m:FrameMode},(m=.run\/m=.returning)->stepG P true (G (Frame.mk fn tmps (it::(fs++A)) dl .run kl none) X) w=.go (G (Frame.mk fn FC (Nh++A) dl m kl none) X) w #[]->
   (∀main Y,stepG P main (G (Frame.mk EC tmps (it::(fs++B)) ds .run kd none) Y) w=.go (G (Frame.mk EC FC (Nh++B) ds m kd none) Y) w #[])->
   (∃FC Nh m R,(b=false->R=[])/\(m=.run\/m=.returning)/\g'=G (Frame.mk fn FC (Nh++A) (R++dl) m kl none) X/\∀main Y,stepG P main (G (Frame.mk EC tmps (it::(fs++B)) ds .run kd none) Y) w=.go (G (Frame.mk EC FC (Nh++B) (R++ds) m kd none) Y) w' es):=by
  intro FC Nh m J e1 e2
  rw[e1]at h
  injection h with j k p
  subst j k p
  exact⟨FC,Nh,m,[],λ_=>rfl,J,rfl,e2⟩
 cases it with
 |inBlock id=>exact .inl (e (FC:=tmps) (Nh:=fs) (.inl rfl) (by simp[G,stepG,stepG.exec]) (λmain Y=>by simp[G,stepG,stepG.exec]))
 |inLoop c=>exact .inl (e (FC:=tmps) (Nh:=.code c::.inLoop c::fs) (.inl rfl) (by simp[G,stepG,stepG.exec]) (λmain Y=>by simp[G,stepG,stepG.exec]))
 |inScope c=>simp[Item.ES]at N
 |inRangeFunc l=>simp[Item.ES]at N
 |endRangeFunc l=>simp[Item.ES]at N
 |beginRound=>simp[Item.ES]at N
 |call d a b c=>simp[Item.ES]at N
 |extern a b=>simp[Item.ES]at N
 |code c=>
  cases c with
  |skip=>exact .inl (e (FC:=tmps) (Nh:=fs) (.inl rfl) (by simp[G,stepG,stepG.exec]) (λmain Y=>by simp[G,stepG,stepG.exec]))
  |label l=>exact .inl (e (FC:=tmps) (Nh:=fs) (.inl rfl) (by simp[G,stepG,stepG.exec]) (λmain Y=>by simp[G,stepG,stepG.exec]))
  |ret=>exact .inl (e (FC:=tmps) (Nh:=.code .ret::fs) (.inr rfl) (by simp[G,stepG,stepG.exec]) (λmain Y=>by simp[G,stepG,stepG.exec]))
  |rangeFunc f M a b=>simp[Item.ES,Code.Bv]at N
  |scope c=>simp[Item.ES,Code.Bv]at N
  |goto l=>simp[Item.ES,Code.Bv]at N
  |refuse s=>simp[G,stepG,stepG.exec]at h
  |seq a b=>exact .inl (e (FC:=tmps) (Nh:=.code a::.code b::fs) (.inl rfl) (by simp[G,stepG,stepG.exec]) (λmain Y=>by simp[G,stepG,stepG.exec]))
  |cond c a b=>
   cases hv:(Frame.mk fn tmps (.code (.cond c a b)::(fs++A)) dl .run kl none).eval c with
   |bool t=>
    have D:(Frame.mk EC tmps (.code (.cond c a b)::(fs++B)) ds .run kd none).eval c=.bool t:=by rw[<-hv];cases c<;>rfl
    exact .inl (e (FC:=tmps) (Nh:=.code (if t then a else b)::fs) (.inl rfl) (by simp[G,stepG,stepG.exec,hv]) (λmain Y=>by simp[G,stepG,stepG.exec,D]))
   |_=>simp[G,stepG,stepG.exec,hv]at h
  |block id c=>exact .inl (e (FC:=tmps) (Nh:=.code c::.inBlock id::fs) (.inl rfl) (by simp[G,stepG,stepG.exec]) (λmain Y=>by simp[G,stepG,stepG.exec]))
  |loop c=>exact .inl (e (FC:=tmps) (Nh:=.code c::.inLoop c::fs) (.inl rfl) (by simp[G,stepG,stepG.exec]) (λmain Y=>by simp[G,stepG,stepG.exec]))
  |exit id=>
   cases hx:exitTo id (fs++A)with
   |none=>simp[G,stepG,stepG.exec,hx]at h
   |some K=>
    obtain⟨Nh,rfl,F⟩:=P7 (B:=B) (V id) hx
    exact .inl (e (FC:=tmps) (Nh:=Nh) (.inl rfl) (by simp[G,stepG,stepG.exec,hx]) (λmain Y=>by simp[G,stepG,stepG.exec,F]))
  |region id ops u=>
   cases u with
   |true=>exact(U id ops rfl).elim
   |false=>exact .inl (e (FC:=tmps) (Nh:=.inRegion ops (List.range ops.size)::fs) (.inl rfl) (by simp[G,stepG,stepG.exec]) (λmain Y=>by simp[G,stepG,stepG.exec]))
 |inRegion ops l=>
  cases l with
  |nil=>exact .inl (e (FC:=tmps) (Nh:=fs) (.inl rfl) (by simp[G,stepG,stepG.exec]) (λmain Y=>by simp[G,stepG,stepG.exec]))
  |cons i rest=>
   by_cases r:((ops[i]?).map (Region.wanted · (yielded ops tmps))).getD false=true
   .cases ho:ops[i]? with
    |none=>rw[ho]at r;simp at r
    |some o=>
     rw[ho]at r
     simp only[Option.map_some,Option.getD_some]at r
     have H:(Frame.mk EC tmps (.inRegion ops (i::rest)::(fs++B)) ds .run kd none).eval=(Frame.mk fn tmps (.inRegion ops (i::rest)::(fs++A)) dl .run kl none).eval:=funext λx=>by cases x<;>rfl
     have E:stepG P true (G (Frame.mk fn tmps (.inRegion ops (i::rest)::(fs++A)) dl .run kl none) X) w=
       stepG.apply P true (Frame.mk fn tmps (.inRegion ops (i::rest)::(fs++A)) dl .run kl none) X none (execOp (Frame.mk fn tmps (.inRegion ops (i::rest)::(fs++A)) dl .run kl none).eval o) w:=by
      simp[G,stepG,stepG.exec,stepG.oper,Frame.oper?,ho,r]
     have g:∀main Y,stepG P main (G (Frame.mk EC tmps (.inRegion ops (i::rest)::(fs++B)) ds .run kd none) Y) w=
       stepG.apply P true (Frame.mk EC tmps (.inRegion ops (i::rest)::(fs++B)) ds .run kd none) Y none (execOp (Frame.mk fn tmps (.inRegion ops (i::rest)::(fs++A)) dl .run kl none).eval o) w:=λmain Y=>by
      rw[<-H]
      simp[G,stepG,stepG.exec,stepG.oper,Frame.oper?,ho,r]
     rw[E]at h
     obtain⟨n,w1,T,q,v⟩:=W ops i rest o rfl ho r
     have fin:∀x,(∃FC Nh,(Frame.mk fn tmps (.inRegion ops (i::rest)::(fs++A)) dl .run kl none).finish x=Frame.mk fn FC (Nh++A) dl .run kl none/\
       (Frame.mk EC tmps (.inRegion ops (i::rest)::(fs++B)) ds .run kd none).finish x=Frame.mk EC FC (Nh++B) ds .run kd none):=λx=>⟨_,.inRegion ops rest::fs,rfl,rfl⟩
     cases n<;>first|exact v.elim|skip
     .rename_i x;obtain⟨C,Nh,e1,e2⟩:=fin x;simp only[stepG.apply,q,if_true,GStep.after,jC,Q,jH,if_false]at h;injection h with j k p;subst k p;refine .inl ⟨C,Nh,.run,[],λ_=>rfl,.inl rfl,by rw[<-j,e1];rfl,λmain Y=>?_⟩;rw[g];simp only[stepG.apply,q,if_true,GStep.after,jC,e2,S,O,jH,if_false]
      rfl
     .obtain⟨C,Nh,e1,e2⟩:=fin undef;simp only[stepG.apply,q,if_true,GStep.after,jC,Q,jH,if_false]at h;injection h with j k p;subst k p;refine .inl ⟨C,Nh,.run,[],λ_=>rfl,.inl rfl,by rw[<-j,e1];rfl,λmain Y=>?_⟩;rw[g];simp only[stepG.apply,q,if_true,GStep.after,jC,e2,S,O,jH,if_false]
      rfl
     .rename_i f args;simp only[stepG.apply,q,if_true,GStep.after,jC,Q,jH,if_false]at h;injection h with j k p;subst k p;refine .inr ⟨f,args,⟨_,_,_,rfl⟩,by rw[<-j];rfl,λmain Y=>?_⟩;rw[g];simp only[stepG.apply,q,if_true,GStep.after,jC,S,O,jH,if_false]
      rfl
     .rename_i d;simp only[stepG.apply,q,if_true,GStep.after,jC,Q,jH,if_false]at h;injection h with j k p;subst k p;have e1:({ fn:=fn,tmps:=tmps,todo:=.inRegion ops (i::rest)::(fs++A),defers:=d::dl,mode:=.run,kind:=kl,roundOf:=none }:Frame).finish undef=Frame.mk fn (match (ops[i]?).bind (·.dst)with|some d=>tmps.setIfInBounds d undef|none=>tmps) ((.inRegion ops rest::fs)++A) ([d]++dl) .run kl none:=rfl;have e2:({ fn:=EC,tmps:=tmps,todo:=.inRegion ops (i::rest)::(fs++B),defers:=d::ds,mode:=.run,kind:=kd,roundOf:=none }:Frame).finish undef=Frame.mk EC (match (ops[i]?).bind (·.dst)with|some d=>tmps.setIfInBounds d undef|none=>tmps) ((.inRegion ops rest::fs)++B) ([d]++ds) .run kd none:=rfl;refine .inl ⟨_,_,.run,[d],λI=>(by have:=v.1;rw[I]at this;cases this),.inl rfl,by rw[<-j];exact congrArg (G · X) e1,λmain Y=>?_⟩;rw[g];simp only[stepG.apply,q,if_true,GStep.after,jC,S,O,jH,if_false];exact congrArg (λz=>GStep.go (G z Y) w1 (seen P fn T)) e2
   .have y:((ops[i]?).map (Region.wanted · (yielded ops tmps))).getD false=false:=(by simpa using r);have fin:∀x,(∃FC Nh,(Frame.mk fn tmps (.inRegion ops (i::rest)::(fs++A)) dl .run kl none).finish x=Frame.mk fn FC (Nh++A) dl .run kl none/\
      (Frame.mk EC tmps (.inRegion ops (i::rest)::(fs++B)) ds .run kd none).finish x=Frame.mk EC FC (Nh++B) ds .run kd none):=λx=>⟨_,.inRegion ops rest::fs,rfl,rfl⟩
    obtain⟨C,Nh,e1,e2⟩:=fin undef;exact .inl (e (FC:=C) (Nh:=Nh) (.inl rfl) (by rw[<-e1];simp[G,stepG,stepG.exec,y]) (λmain Y=>by rw[<-e2];simp[G,stepG,stepG.exec,y]))
theorem bz6 (F:Qj P L p) {ops:Array Oper} {i:Nat} {rest:List Nat} {pre:Z_} (E:(kl==CallKind.early)=false) {v':o_} {g':m_} {es:Array Event} {o:Oper} (T:au Od Z v w) (K:∀r,Z r->r<v.heap.size)
  (M:∀j,j<v'.drawn-v.drawn->∀q,w.tape (w.drawn+j) q=v.tape (v.drawn+j) q) (D:∀f,(Frame.mk fn tmps (.inRegion ops (i::rest)::k) dl .run kl none).about P v=some f->L f\/Ext P f) (I:(Item.inRegion ops (i::rest)).ES (p fn)=true)
  (H:ops[i]?=some o) (O:Region.wanted o (yielded ops tmps)=true) (h:stepG P true (G (Frame.mk fn tmps (.inRegion ops (i::rest)::k) dl .run kl none) pre) v=.go g' v' es) (Q:∀N,g'.frame.mode≠.panicking N):
  ∃n w1 J,(execOp (Frame.mk fn tmps (.inRegion ops (i::rest)::k) dl .run kl none).eval o).runT P w #[]=(.ok n w1,J)/\Fh L (pY fn) n:=by
 have a:p fn o=true:=by
  simp only[Item.ES,Array.all_eq_true]at I
  obtain⟨t,rfl⟩:=y_.1 H
  exact I i t
 rw[NL H]at D;have b:=F.op fn o a _ v T.plain D;have u:stepG P true (G (Frame.mk fn tmps (.inRegion ops (i::rest)::k) dl .run kl none) pre) v=
   stepG.apply P true (Frame.mk fn tmps (.inRegion ops (i::rest)::k) dl .run kl none) pre none (execOp (Frame.mk fn tmps (.inRegion ops (i::rest)::k) dl .run kl none).eval o) v:=by
  simp[G,stepG,stepG.exec,stepG.oper,Frame.oper?,H,O]
 rw[u]at h;cases Io:(execOp (Frame.mk fn tmps (.inRegion ops (i::rest)::k) dl .run kl none).eval o).runT P v #[]with
 |mk r J=>
  cases r with
  |ok n v1=>
   have m:Fh L (pY fn) n:=by
    obtain⟨_,_,z,_⟩:=Uf (Od:=Nv) (Z:=Z) b (v:=v) (w:=v.re v.tape v.drawn) (@au.mk Nv _ _ _ rfl (λ_ _ _=>rfl) T.dead T.plain rfl rfl (λ_ h=>False.elim h) (λ_ h=>False.elim h) (λ_ h=>False.elim h)) K Io (λ_ _ _=>rfl)
    exact z
   have B:v'=v1:=by
    cases n<;>first|exact m.elim|skip
    all_goals
     simp only[stepG.apply,Io,if_true,GStep.after,jC,E,jH,if_false]at h
     injection h with d e y
     exact e.symm
   subst B
   obtain⟨C,s,_,c,_⟩:=Uf b T K Io M
   exact⟨n,C,_,c,m⟩
  |halt A v1=>
   have l:=gU b T.plain Io
   exfalso
   cases A with
   |panic x=>
    simp only[stepG.apply,Io,if_true,GStep.after]at h
    injection h with d e y
    exact Q _ (by rw[<-d];rfl)
   |stuck x=>simp only[stepG.apply,Io,if_true,GStep.after,reduceCtorEq]at h
   |unsupported x=>
    cases x with
    |initOrder g=>simp[Halt.KY]at l
    |_=>simp only[stepG.apply,Io,if_true,GStep.after,reduceCtorEq]at h
   |_=>simp[Halt.KY]at l
def Fb (P:l_) (EC:h_) (kd:CallKind) (k:List Item) (ds:List Deferred) (vs rs:Z_):Prop:=
 ∃xs fn tmps front m,vs=xs++[Frame.mk fn tmps (front++[Ny]) [] m .normal none]/\rs=xs++[Frame.mk EC tmps (front++k) ds m kd none]/\(∀es,seen P EC es=seen P fn es)/\pY fn=false/\(xs≠[]->m=.run/\∃ops i rest fs,front=.inRegion ops (i::rest)::fs)
theorem bg (F:Qj P L p) (hkd:(kd==CallKind.early)=false) {C:Frame->Z_->o_->Prop} {pre:Z_} {rf:Frame} {rs:Z_} (St:Fb P EC kd k ds (fr::pre) (rf::rs))
  (T:au Od Z v w) (hZ:∀r,Z r->r<v.heap.size) (Oz:∀τ d,Good P L p fr pre (v.re τ d)/\∃Es CW v',HY P fr pre (v.re τ d) Es CW v'/\C Es CW v'):
  ∃Es CW v' Qa rs' w' es,C Es CW v'/\Fb P EC kd k ds (Es::CW) (Qa::rs')/\au Od Z v' w'/\v.heap.size<=v'.heap.size/\(∀r,Z r->w'.heap[r]?=w.heap[r]?)/\(∀e∈es,EvT Z v'.heap.size e)/\
   ∀main cs,stepG P main (G rf (rs++cs)) w=.go (G Qa (rs'++cs)) w' es:=by
 obtain⟨xs,fn,tmps,a,m,H,hr,Q,j,hx⟩:=St;by_cases hd:fr.mode=.run/\∃id g fs,fr.todo=.code (.region id g true)::fs
 ·
  obtain⟨hm,id,g,fs,M⟩:=hd;obtain⟨V,Es,CW,v',⟨es,Cc,pI⟩,J⟩:=Oz (λi q=>match q with
   |.order _ _=>w.tape w.drawn (.order rf.fn id)
   |_=>w.tape i q) w.drawn;obtain⟨t,U,z,d0,m0,I,r0⟩:=fr;obtain⟨_,h2,h2',h3,h4,_⟩:=V.ok;simp only at hm M h2 h2' h3 h4;subst hm M h4;have D:∀fnx tx kx dsx kdx main (Y:Z_) (u:o_),stepG P main (G (Frame.mk fnx tx (.code (.region id g true)::kx) dsx .run kdx none) Y) u=
    .go (G (Frame.mk fnx tx (.inRegion g (Region.schedule (P.follows .mixedOrders) g (u.tape u.drawn (.order fnx id)))::kx) dsx .run kdx none) Y) { u with drawn:=u.drawn+1 } #[]:=λfnx tx kx dsx kdx main Y u=>by
   simp[G,stepG,stepG.exec,choose,Sem.run,Question.forced,Question.cut]
  rw[D]at Cc;injection Cc with g1 g2 S;simp only[G,Goroutine.mk.injEq]at g1;obtain⟨g1,g1',_⟩:=g1;subst g1 g1' g2 S;simp only[World.re]at J;have N:∀τ,au Od Z { heap:=v.heap,tape:=τ,drawn:=w.drawn+1,os:=v.os,output:=v.output } { w with drawn:=w.drawn+1 }:=λτ=>⟨T.size,T.same,T.dead,T.plain,T.os,T.output,T.Kt,T.kept,T.Zt⟩
  cases xs with
  |nil=>
   simp only[List.nil_append,List.cons.injEq]at H hr
   obtain⟨H,rfl⟩:=H
   obtain⟨rfl,rfl⟩:=hr
   simp only[Frame.mk.injEq]at H
   obtain⟨rfl,rfl,M,rfl,rfl,rfl,_⟩:=H
   cases a with
   |nil=>simp[Ny]at M
   |cons it Nh=>
    simp only[List.cons_append,List.cons.injEq]at M
    obtain⟨rfl,rfl⟩:=M
    exact⟨_,_,_,_,[],{ w with drawn:=w.drawn+1 },#[],J,⟨[],_,_,.inRegion g _::Nh,.run,rfl,rfl,Q,j,λh=>(h rfl).elim⟩,N _,w_ _,λ_ _=>rfl,zF,λmain cs=>D _ _ _ _ _ main _ w⟩
  |cons x xs=>
   simp only[List.cons_append,List.cons.injEq]at H hr
   obtain⟨rfl,rfl⟩:=H
   obtain⟨rfl,rfl⟩:=hr
   exact⟨_,_,_,_,_,{ w with drawn:=w.drawn+1 },#[],J,⟨_::xs,fn,tmps,a,m,rfl,rfl,Q,j,λ_=>hx zF⟩,N _,w_ _,λ_ _=>rfl,zF,λmain cs=>D _ _ _ _ _ main _ w⟩
 .obtain⟨V,Es,CW,v',⟨es,Cc,pI⟩,J⟩:=Oz w.tape w.drawn;have T1:au Od Z (v.re w.tape w.drawn) w:=T.SV w.tape w.tape w.drawn w.drawn;obtain⟨jv,pre2,w',e,_,_,_,_,_,_,S,N,s,_,_,W,hw⟩:=PM F (w:=w) V.ok V.below V.mode V.about T1 hZ Cc pI (λ_ _ _=>rfl);simp only[G,Goroutine.mk.injEq]at e;obtain⟨rfl,rfl,_⟩:=e;have E:=hw true [];rw[List.append_nil,List.append_nil]at E;obtain⟨t,U,z,d0,m0,I,r0⟩:=fr;obtain⟨hfn,h2,h2',h3,h4,h5⟩:=V.ok;simp only at hd h2 h2' h3 h4 h5 hfn;subst h4;have hke:(I==CallKind.early)=false:=by obtain rfl|rfl:=h3<;>rfl
  have y:=V.mode;have hbel:=V.below;have habout:=V.about;simp only at y;have ag3:∀it k',m0=.run->z=it::k'->∀g i l o,it=.inRegion g (i::l)->g[i]?=some o->Region.wanted o (yielded g U)=true->∃n w1 NW,(execOp (Frame.mk t U (it::k') d0 .run I none).eval o).runT P w #[]=(.ok n w1,NW)/\Fh L (pY t) n:=by
   rintro it k' rfl rfl g i l o rfl ho hw'
   exact bz6 F hke T1 hZ (λ_ _ _=>rfl) habout (h5 _ (List.mem_cons_self ..)) ho hw' Cc pI
  cases xs with
  |nil=>
   simp only[List.nil_append,List.cons.injEq]at H hr
   obtain⟨H,rfl⟩:=H
   obtain⟨rfl,rfl⟩:=hr
   simp only[Frame.mk.injEq,and_true]at H
   obtain⟨rfl,rfl,rfl,rfl,rfl,rfl⟩:=H
   obtain rfl:m0=.run:=y.elim id λx=>(x.2 rfl).elim
   cases a with
   |nil=>simp[G,stepG,stepG.exec,Ny]at E
   |cons it fs=>
    obtain⟨t',Nh,m',df,hdf,hm',e1,e2⟩|⟨f,args,⟨g,i,l,rfl⟩,e1,e2⟩:=bz (L:=L) (b:=pY t) (pf:=p t) (B:=k) (dl:=[]) (ds:=ds) (kl:=.normal) (kd:=kd) (EC:=EC) Q rfl hkd (A:=[Ny]) (λ_=>rfl) (h5 it zF) (λid g e=>hd ⟨rfl,id,g,_,by rw[e];rfl⟩) (ag3 it (fs++[Ny]) rfl rfl) E
    .obtain rfl:=hdf j;simp only[G,Goroutine.mk.injEq]at e1;obtain⟨rfl,rfl,_⟩:=e1;exact⟨_,_,v',_,[],w',es,J,⟨[],_,t',Nh,m',rfl,rfl,Q,j,λh=>(h rfl).elim⟩,N,S,s,W,λmain cs=>e2 main _⟩
    .simp only[G,Goroutine.mk.injEq]at e1;obtain⟨rfl,rfl,_⟩:=e1;exact⟨_,_,v',_,[_],w',es,J,⟨[_],_,_,_,_,rfl,rfl,Q,j,λ_=>⟨rfl,g,i,l,fs,rfl⟩⟩,N,S,s,W,λmain cs=>e2 main _⟩
  |cons x xs=>
   simp only[List.cons_append,List.cons.injEq]at H hr
   obtain⟨rfl,rfl⟩:=H
   obtain⟨rfl,rfl⟩:=hr
   have Gy:=hx zF
   obtain rfl|⟨rfl,_⟩:=y
   .cases z with
    |nil=>
     have D:∀main (Y:Z_) (u:o_),stepG P main (G (Frame.mk t U [] d0 .run I none) Y) u=.go (G (Frame.mk t U [] d0 .returning I none) Y) u #[]:=λmain Y u=>by simp[G,stepG,stepG.exec]
     rw[D]at E
     injection E with a1 a2 a3
     simp only[G,Goroutine.mk.injEq]at a1
     obtain⟨rfl,rfl,_⟩:=a1
     subst a2 a3
     exact⟨_,_,v',_,_,_,_,J,⟨_::xs,fn,tmps,a,m,rfl,rfl,Q,j,λ_=>Gy⟩,N,S,s,W,λmain cs=>D main _ _⟩
    |cons it fs=>
     have R:=bz (L:=L) (b:=pY t) (pf:=p t) (P:=P) (fn:=t) (EC:=t) (tmps:=U) (it:=it) (fs:=fs) (A:=[]) (B:=[]) (dl:=d0) (ds:=d0) (kl:=I) (kd:=I) (X:=xs++[Frame.mk fn tmps (a++[Ny]) [] m .normal none]) (w:=w) (w':=w') (es:=es) (λ_=>rfl) hke hke (λ_=>rfl) (h5 it zF) (λid g e=>hd ⟨rfl,id,g,_,by rw[e]⟩)
      (by rw[List.append_nil];exact ag3 it fs rfl rfl) (by rw[List.append_nil];exact E)
     simp only[List.append_nil]at R
     obtain⟨t',Nh,m',df,hdf,hm',e1,e2⟩|⟨f,args,_,e1,e2⟩:=R
     .simp only[G,Goroutine.mk.injEq]at e1;obtain⟨rfl,rfl,_⟩:=e1;exact⟨_,_,v',_,_,w',es,J,⟨_::xs,fn,tmps,a,m,rfl,rfl,Q,j,λ_=>Gy⟩,N,S,s,W,λmain cs=>e2 main _⟩
     .simp only[G,Goroutine.mk.injEq]at e1;obtain⟨rfl,rfl,_⟩:=e1;exact⟨_,_,v',_,_,w',es,J,⟨_::_::xs,fn,tmps,a,m,rfl,rfl,Q,j,λ_=>Gy⟩,N,S,s,W,λmain cs=>e2 main _⟩
   .cases d0 with
    |cons d ds'=>
     obtain⟨f,cap,ϴ,hLf⟩:=h2' d (List.mem_cons_self ..)
     obtain⟨fnb,cb,JA,Ii,hb3,_⟩:=F.body f hLf
     obtain⟨tg,ar⟩:=d
     simp only at ϴ
     subst ϴ
     have hinv:∀u:o_,(invoke (.fn (.func f) cap) ar).runT P u #[]=(.ok (.enter f (ar++cap)) u,#[]):=λu=>by
      simp only[invoke,callFunc,program,bind,Sem.bind,Sem.runT,JA,Ii,hb3,pure]
      rfl
     have D:∀main (Y:Z_) (u:o_),stepG P main (G (Frame.mk t U z (⟨.fn (.func f) cap,ar⟩::ds') .returning I none) Y) u=
       .go (G (Frame.enter P f (ar++cap) .deferred) (Frame.mk t U z ds' .returning I none::Y)) u #[]:=λmain Y u=>by
      simp only[G,stepG,unwind,callDeferred,hinv,GStep.after]
      simp[seen]
     rw[D]at E
     injection E with a1 a2 a3
     simp only[G,Goroutine.mk.injEq]at a1
     obtain⟨rfl,rfl,_⟩:=a1
     subst a2 a3
     exact⟨_,_,v',_,_,_,_,J,⟨_::_::xs,fn,tmps,a,m,rfl,rfl,Q,j,λ_=>Gy⟩,N,S,s,W,λmain cs=>D main _ _⟩
    |nil=>
     obtain⟨fn0,hf0,_⟩:=hfn
     cases Io:(results fn0 U).runT P w #[]with
     |mk r NW=>
      cases r with
      |halt hh w1=>
       exfalso
       cases xs<;>(simp only[G,stepG,unwind,hf0,Io,List.nil_append,List.cons_append]at E;cases hh<;>simp[GStep.after]at E)
      |ok x w1=>
       have D:∀main (c:Frame) (Y:Z_),I=.normal->stepG P main (G (Frame.mk t U z [] .returning I none) (c::Y)) w=.go (G (c.finish x) Y) w1 (seen P t NW):=λmain c Y O=>by
        subst O
        simp only[G,stepG,unwind,hf0,Io,doReturn,GStep.after,jC]
       have hs2:∀main (c:Frame) (Y:Z_),I=.deferred->(c.mode=.returning\/NG c)->stepG P main (G (Frame.mk t U z [] .returning I none) (c::Y)) w=.go (G c Y) w1 (seen P t NW):=λmain c Y O K=>by
        subst O
        obtain K|⟨⟨pv,rc,ge⟩,b,e,e1,e2⟩:=K
        .simp only[G,stepG,unwind,hf0,Io,doReturn,GStep.after,jC,K]
        .simp only at e1 e2;subst e1 e2;simp only[G,stepG,unwind,hf0,Io,doReturn,GStep.after,jC,e]
       cases xs with
       |nil=>
        obtain⟨rfl,g,i,l,fs,rfl⟩:=Gy
        obtain⟨_,hcm,_⟩:=hbel
        have O:I=.normal:=by
         obtain⟨e,_⟩|⟨_,e|⟨_,_,e,_⟩⟩:=hcm
         .exact e
         .cases e
         .cases e
        rw[List.nil_append,D _ _ _ O]at E;injection E with a1 a2 a3;simp only[G,Goroutine.mk.injEq]at a1;obtain⟨rfl,rfl,_⟩:=a1;subst a2 a3;exact⟨_,_,v',_,_,_,_,J,⟨[],fn,_,.inRegion g l::fs,.run,rfl,rfl,Q,j,λh=>(h rfl).elim⟩,N,S,s,W,λmain cs=>D main _ _ O⟩
       |cons c xs=>
        obtain⟨_,hcm,_⟩:=hbel
        simp only at hcm
        obtain⟨O,_⟩|⟨O,K⟩:=hcm
        .rw[List.cons_append,D _ _ _ O]at E;injection E with a1 a2 a3;simp only[G,Goroutine.mk.injEq]at a1;obtain⟨rfl,rfl,_⟩:=a1;subst a2 a3;exact⟨_,_,v',_,_,_,_,J,⟨_::xs,fn,tmps,a,m,rfl,rfl,Q,j,λ_=>Gy⟩,N,S,s,W,λmain cs=>D main _ _ O⟩
        .rw[List.cons_append,hs2 _ _ _ O K]at E;injection E with a1 a2 a3;simp only[G,Goroutine.mk.injEq]at a1;obtain⟨rfl,rfl,_⟩:=a1;subst a2 a3;exact⟨_,_,v',_,_,_,_,J,⟨_::xs,fn,tmps,a,m,rfl,rfl,Q,j,λ_=>Gy⟩,N,S,s,W,λmain cs=>hs2 main _ _ O K⟩
end
def AtEnd (Q:Exit->Act->o_->Prop) (f:h_) (fr:Frame) (pre:Z_) (v:o_):Prop:=
 pre=[]/\∃tmps τ d,(fr=Frame.mk f tmps [Ny] [] .run .normal none/\Q .normal ⟨tmps,[]⟩ (v.re τ d))\/(∃todo,fr=Frame.mk f tmps todo [] .returning .normal none/\Q .ret ⟨tmps,[]⟩ (v.re τ d))
def aQ (L:h_->Prop) (N:Fence) (f:h_):Prop:=N.fn f/\L f/\pY f=false
section
variable {P:l_} {L:h_->Prop} {p:h_->Oper->Bool} {Z:Nat->Prop}
theorem o6 {Q:Exit->Act->o_->Prop}:xW (AtEnd Q f):=by
 rintro g pre v w a b c ⟨e1,t,τ,d,e⟩;have:w.re τ d=v.re τ d:=by
  unfold World.re
  rw[a,b,c]
 exact⟨e1,t,τ,d,by rw[this];exact e⟩
theorem bY (F:Qj P L p) {N:Fence} (D:N.alive=true) (I:N.depth=none) (J:N.round=none) (G:∀f,N.fn f->L f\/Ext P f) (E:aQ L N f) {n:Nat} {c:Code} (O:c.Bv (p f)=true)
  (K:∀(r:Nat) (o:Obj),v.heap[r]?=some o->o.plain=true) {Q:Exit->Act->o_->Prop} (M:∀e a w,Q e a w->(e=.normal\/e=.ret)/\a.defers=[])
  (H:∀τ d,c.wpIn N n P Q ⟨tmps,[]⟩ (v.re τ d)):Fin P L p (AtEnd Q f) (Frame.mk f tmps [.code c,Ny] [] .run .normal none) [] v:=by
 refine wZ F o6 λτ d=>?_
 obtain⟨e,t,h,l,b⟩:=H τ d (Frame.mk f tmps [] [] .run .normal none) [Ny] [] J.symm E.1 (λ_ i=>by rw[I]at i;cases i);obtain⟨j,B,k,_,_⟩:=F.body f E.2.1;have m:FD P L p (Frame.mk f tmps [.code c,Ny] [] .run .normal none):=⟨⟨j,k,F.init f E.2.1⟩,λ_=>rfl,λd i=>(by cases i),.inl rfl,rfl,λC q=>by
  simp only[r_,p_,or_false]at q
  obtain rfl|rfl:=q
  .exact O
  .rfl⟩
 obtain⟨z,s⟩:=M e t h l;obtain⟨u,y⟩:=t;simp only at s;subst s;obtain rfl|rfl:=z
 .exact yM F D G b rfl rfl (λx=>by simp[Frame.atR]) ⟨rfl,u,h.tape,h.drawn,.inl ⟨rfl,l⟩⟩ m ⟨E.2.2,rfl⟩ (.inl rfl) K
 .obtain⟨g,A⟩:=b.1 rfl;exact yM F D G A rfl rfl (λx=>zF) ⟨rfl,u,h.tape,h.drawn,.inr ⟨g,rfl,l⟩⟩ m ⟨E.2.2,rfl⟩ (.inl rfl) K
def cu (Od:Old) (P:l_) (Ad:Loc->Prop) (Z:Nat->Prop) (B:Nat) (v:o_) (gs:Array m_) (w:o_) (t:Trace):Prop:=
 ∃q,au Od Z v w/\(∀r,Z r->r<v.heap.size)/\Leavers P t gs q/\Past Ad B t/\w.heap.size<=B
theorem nJ (F:Qj P L p) (hu:Gp Ad Z) (hkd:(kd==CallKind.early)=false) {S:Frame->Z_->o_->Prop} {pre:Z_} (h:Fin P L p S fr pre v):
  ∀(rf:Frame) (rs:Z_) (gs:Array m_) (w:o_) (sl:d_ (W_)) (t:Trace) (B:Nat) (cs:Z_),Fb P EC kd k ds (fr::pre) (rf::rs)->cu Od P Ad Z B v gs w t->gs[0]?=some (G rf (rs++cs))->
   AQ P gs w sl t λBh w' t'=>∃Es CW v' Qa rs' B',Bh[0]?=some (G Qa (rs'++cs))/\Fb P EC kd k ds (Es::CW) (Qa::rs')/\S Es CW v'/\v.heap.size<=v'.heap.size/\B<=B'/\cu Od P Ad Z B' v' Bh w' t':=by
 refine h (fun fr pre v=>∀(rf:Frame) (rs:Z_) (gs:Array m_) (w:o_) (sl:d_ (W_)) (t:Trace) (B:Nat) (cs:Z_),Fb P EC kd k ds (fr::pre) (rf::rs)->cu Od P Ad Z B v gs w t->gs[0]?=some (G rf (rs++cs))->
   AQ P gs w sl t λBh w' t'=>∃Es CW v' Qa rs' B',Bh[0]?=some (G Qa (rs'++cs))/\Fb P EC kd k ds (Es::CW) (Qa::rs')/\S Es CW v'/\v.heap.size<=v'.heap.size/\B<=B'/\cu Od P Ad Z B' v' Bh w' t') ?_ ?_
 .intro fr pre v hS rf rs gs w sl t B cs g f l;exact .now ⟨fr,pre,v,rf,rs,B,l,g,hS,w_ _,w_ _,f⟩
 .intro fr pre v R rf rs gs w sl t B cs g f l;obtain⟨q,T,I,hL,hP,hB⟩:=f;obtain⟨N,i,a1,w1,Q,t1,q1,D,A,hs,h1,⟨O,Y,W,v1,c,e,rfl,St1,U,y,z,n⟩,s,u,m⟩:=WQ (P:=P) (Ad:=Ad)
   (K:=λV w'=>∃Es CW v' Qa rs',V=G Qa (rs'++cs)/\Fb P EC kd k ds (Es::CW) (Qa::rs')/\au Od Z v' w'/\(∀r,Z r->r<v'.heap.size)/\v.heap.size<=v'.heap.size/\
    ∀(rf:Frame) (rs:Z_) (gs:Array m_) (w:o_) (sl:d_ (W_)) (t:Trace) (B:Nat) (cs:Z_),Fb P EC kd k ds (Es::CW) (rf::rs)->cu Od P Ad Z B v' gs w t->gs[0]?=some (G rf (rs++cs))->
   AQ P gs w sl t λBh w' t'=>∃b J a Qa rs' B',Bh[0]?=some (G Qa (rs'++cs))/\Fb P EC kd k ds (b::J) (Qa::rs')/\S b J a/\v'.heap.size<=a.heap.size/\B<=B'/\cu Od P Ad Z B' a Bh w' t')
   (sumTo gs.size q) gs (G rf (rs++cs)) w sl t q B (w_ _) l rfl hL hP (λd=>by
    obtain⟨Es,CW,v',Qa,rs',w',X,n,St',E,H,_,M,hw⟩:=bg F hkd (w:=w.at d) g (T.SV v.tape w.tape v.drawn d) I R
    refine⟨G Qa (rs'++cs),w',X,max B v'.heap.size,hw true cs,Nat.le_max_left ..,λx hx=>gY hu (Nat.le_max_right ..) (M x hx),?_,Es,CW,v',Qa,rs',rfl,St',E,λr A=>Nat.lt_of_lt_of_le (I r A) H,H,n⟩
    rw[<-E.size];exact Nat.le_max_right ..);have o:AQ P gs w sl t λBh w' t'=>Bh[0]?=some (G c (e++cs))/\cu Od P Ad Z D v1 Bh w' t':=⟨N,i,w1,Q,t1,A,hs,h1,q1,U,y,s,u,O⟩
  refine o.bind λj w2 C t2 _ ⟨k1,k2⟩=>?_
  exact(n c e j w2 C t2 D cs St1 k2 k1).mono λBh w' t' ⟨Es,CW,v',Qa,rs',B',j1,j2,j3,j4,j5,j6⟩=>⟨Es,CW,v',Qa,rs',B',j1,j2,j3,pV z j4,pV m j5,j6⟩
theorem ak7 {Still:Loc->Prop} {Mem Am:Nat->Prop} {h j:Nat} {By:Nat->m_->o_->Trace->Prop} (F:Qj P L p) (hu:Gp Ad Z) (Cc:Gp Still Z) (O:GR P Z Ad Still (fun B t=>PX Ad Still Mem Am B h t) j By) (hkd:(kd==CallKind.early)=false)
  {S:Frame->Z_->o_->Prop} {fr:Frame} {pre:Z_} {v:o_} (H:Fin P L p S fr pre v):
  ∀(rf:Frame) (rs:Z_) (gs:Array m_) (w:o_) (sl:d_ (W_)) (t:Trace) (q:Nat->Nat) (n B:Nat) (cs:Z_),Fb P EC kd k ds (fr::pre) (rf::rs)->au Od Z v w->(∀r,Z r->r<v.heap.size)->gs[h]?=some (G rf (rs++cs))->Duo P Ad Still Mem Am B h j By n gs w t q->
   AQ P gs w sl t λBh w' t'=>∃q' n' B' Es CW v' Qa rs',Bh[h]?=some (G Qa (rs'++cs))/\Fb P EC kd k ds (Es::CW) (Qa::rs')/\S Es CW v'/\au Od Z v' w'/\(∀r,Z r->r<v'.heap.size)/\v.heap.size<=v'.heap.size/\B<=B'/\Duo P Ad Still Mem Am B' h j By n' Bh w' t' q':=by
 refine H (fun fr pre v=>∀(rf:Frame) (rs:Z_) (gs:Array m_) (w:o_) (sl:d_ (W_)) (t:Trace) (q:Nat->Nat) (n B:Nat) (cs:Z_),Fb P EC kd k ds (fr::pre) (rf::rs)->au Od Z v w->(∀r,Z r->r<v.heap.size)->gs[h]?=some (G rf (rs++cs))->Duo P Ad Still Mem Am B h j By n gs w t q->
   AQ P gs w sl t λBh w' t'=>∃q' n' B' Es CW v' Qa rs',Bh[h]?=some (G Qa (rs'++cs))/\Fb P EC kd k ds (Es::CW) (Qa::rs')/\S Es CW v'/\au Od Z v' w'/\(∀r,Z r->r<v'.heap.size)/\v.heap.size<=v'.heap.size/\B<=B'/\Duo P Ad Still Mem Am B' h j By n' Bh w' t' q') ?_ ?_
 .intro fr pre v hS rf rs gs w sl t q n B cs f T c l D;exact .now ⟨q,n,B,fr,pre,v,rf,rs,l,f,hS,T,c,w_ _,w_ _,D⟩
 .intro fr pre v V rf rs gs w sl t q n B cs f T c l D;obtain⟨N,g,a1,w1,U,t1,q1,n1,I,A,hs,h1,⟨fr1,Y,v1,d,e,rfl,St1,W,u,z,o⟩,m,Q⟩:=iY O
   (Kst:=λX w'=>∃Es CW v' Qa rs',X=G Qa (rs'++cs)/\Fb P EC kd k ds (Es::CW) (Qa::rs')/\au Od Z v' w'/\(∀r,Z r->r<v'.heap.size)/\v.heap.size<=v'.heap.size/\
    ∀(rf:Frame) (rs:Z_) (gs:Array m_) (w:o_) (sl:d_ (W_)) (t:Trace) (q:Nat->Nat) (n B:Nat) (cs:Z_),Fb P EC kd k ds (Es::CW) (rf::rs)->au Od Z v' w->(∀r,Z r->r<v'.heap.size)->gs[h]?=some (G rf (rs++cs))->Duo P Ad Still Mem Am B h j By n gs w t q->
   AQ P gs w sl t λBh w' t'=>∃q' n' B' b M a Qa rs',Bh[h]?=some (G Qa (rs'++cs))/\Fb P EC kd k ds (b::M) (Qa::rs')/\S b M a/\au Od Z a w'/\(∀r,Z r->r<a.heap.size)/\v'.heap.size<=a.heap.size/\B<=B'/\Duo P Ad Still Mem Am B' h j By n' Bh w' t' q')
   (n+sumTo gs.size q) n gs (G rf (rs++cs)) w sl t q B (w_ _) l rfl D (λw1 C=>by
    obtain⟨Es,CW,v',Qa,rs',w',es,o,St',J,K,y,R,hw⟩:=bg F hkd (w:=w1) f (T.off c C) c V
    refine⟨G Qa (rs'++cs),w',es,max B v'.heap.size,hw (h==0) cs,Nat.le_max_left ..,λx hx=>be1 hu Cc (Nat.le_max_right ..) (R x hx),y,?_,Es,CW,v',Qa,rs',rfl,St',J,λr A=>Nat.lt_of_lt_of_le (c r A) K,K,o⟩
    rw[<-J.size];exact Nat.le_max_right ..);have s:AQ P gs w sl t λBh w' t'=>Bh[h]?=some (G d (e++cs))/\au Od Z v1 w'/\∃q' n',Duo P Ad Still Mem Am I h j By n' Bh w' t' q':=⟨N,g,w1,U,t1,A,hs,h1,W,q1,n1,Q⟩
  refine s.bind λi w2 E t2 _ ⟨k1,k2,q2,n2,k3⟩=>?_
  exact(o d e i w2 E t2 q2 n2 I cs St1 k2 u k1 k3).mono λBh w' t' ⟨q',n',B',Es,CW,v',Qa,rs',j1,j2,j3,j4,j5,j6,j7,j8⟩=>⟨q',n',B',Es,CW,v',Qa,rs',j1,j2,j3,j4,j5,pV z j6,pV m j7,j8⟩
end
end Go.Fxa
namespace Go.Fxa
open Go.Conc
theorem au.kill {Od:Old} {Z Z':Nat->Prop} {v w:o_} (T:au Od Z v w) (k:∀r,Z r->Z' r) (j:∀r,Z' r->¬Od.dead r):∃v',au Od Z' v' w/\v'.heap.size=v.heap.size/\(∀r,¬Z' r->v'.heap[r]?=v.heap[r]?)/\v'.os=v.os/\v'.output=v.output:=by
 classical
 refine⟨{ v with heap:=Array.ofFn (n:=v.heap.size) λi=>if Z' i then DL else v.heap[i] },⟨?_,λr b a=>?_,λr b g=>?_,λr o d=>?_,T.os,T.output,λr a=>?_,T.kept,λr a c=>j r c a⟩,zF,λr b=>?_,rfl,rfl⟩
 .simpa using T.size
 .rw[<-T.same r (λh=>b (k r h)) a];by_cases h:r<v.heap.size<;>simp[h,b]
 .have:r<v.heap.size:=by simpa using g
  simp[this,b]
 .by_cases h:r<v.heap.size
  .by_cases f:Z' r
   .simp[h,f]at d;subst d;rfl
   .simp[h,f]at d;exact T.plain r o (by rw[v_ h,d])
  .simp[h]at d
 .have e:=T.Kt r a;have h:=(y_.1 e).1;have b:¬Z' r:=λc=>j r c a
  rw[v_ h]at e;simpa [h,b]using x_ e
 .by_cases h:r<v.heap.size<;>simp[h,b]
theorem Past.shun {Ad d:Loc->Prop} {B:Nat} {t:Trace} (h:Past Ad B t) (e:∀l,Ad l->d l):Past d B t:=
 ⟨h.clean,λi a b c=>(h.known i a b c).imp id λx=>⟨e _ x.1,x.2⟩,h.over,h.hears,h.seen⟩
end Go.Fxa
namespace Go.Fxa
open Go.Conc
open Go.ConcN (sumTo upd sumTo_upd upd_ne upd_same)
variable {cs:Z_} {Od:Old} {K J:o_->Prop} {k:Nat} {a a':m_}
structure Vr (P:l_) (L:h_->Prop) (p:h_->Oper->Bool) (N:Fence):Prop where
 ES:Qj P L p
 alive:N.alive=true
 depth:N.depth=none
 round:N.round=none
 fn:∀f,N.fn f->L f\/Ext P f
def fH (EC:h_) (kd:CallKind) (k:List Item) (ds:List Deferred) (cs:Z_) (Q:Exit->Act->o_->Prop) (g:m_) (v:o_):Prop:=
 ∃tmps τ d,(g=G (Frame.mk EC tmps k ds .run kd none) cs/\Q .normal ⟨tmps,[]⟩ (v.re τ d))\/(∃todo,g=G (Frame.mk EC tmps todo ds .returning kd none) cs/\Q .ret ⟨tmps,[]⟩ (v.re τ d))
section
variable {P:l_} {L:h_->Prop} {p:h_->Oper->Bool} {N:Fence} {Z:Nat->Prop} {Ad Still:Loc->Prop} {f EC:h_} {kd:CallKind} {k:List Item} {ds:List Deferred} {Q:Exit->Act->o_->Prop} {c:Code} {tmps:X_} {v:o_} {m:Nat}
theorem dw {fr o:Frame} {pre q:Z_} (s:AtEnd Q f fr pre v) (r:Fb P EC kd k ds (fr::pre) (o::q)):fH EC kd k ds cs Q (G o (q++cs)) v:=by
 obtain⟨rfl,t,τ,d,h⟩:=s;obtain⟨xs,fn,n,b,m,c,g,_,_,_⟩:=r;cases xs with
 |cons x xs=>simp at c
 |nil=>
  simp only[List.nil_append,List.cons.injEq,and_true]at c g
  obtain⟨g,rfl⟩:=g
  subst g
  obtain⟨rfl,i⟩|⟨j,rfl,i⟩:=h
  .simp only[Frame.mk.injEq]at c;obtain⟨_,rfl,e,_,rfl,_⟩:=c;have:b=[]:=by
    cases b with
    |nil=>rfl
    |cons a l=>simp at e
   subst this;exact⟨t,τ,d,.inl ⟨rfl,i⟩⟩
  .simp only[Frame.mk.injEq]at c;obtain⟨_,rfl,e,_,rfl,_⟩:=c;exact⟨t,τ,d,.inr ⟨_,rfl,i⟩⟩
theorem Sz (b:pY f=false) (d:∀es,seen P EC es=seen P f es) (c:Code) (tmps:X_):Fb P EC kd k ds [Frame.mk f tmps [.code c,Ny] [] .run .normal none] [Frame.mk EC tmps (.code c::k) ds .run kd none]:=
 ⟨[],f,tmps,[.code c],.run,rfl,rfl,d,b,λh=>(h rfl).elim⟩
theorem MJ (x:Vr P L p N) (R:Gp Ad Z) (D:aQ L N f) (O:∀es,seen P EC es=seen P f es) (A:(kd==CallKind.early)=false) (M:c.Bv (p f)=true) (I:∀e a w,Q e a w->(e=.normal\/e=.ret)/\a.defers=[])
  (H:∀τ d,c.wpIn N m P Q ⟨tmps,[]⟩ (v.re τ d)) {gs:Array m_} {w:o_} {sl:d_ (W_)} {t:Trace} {B:Nat} {cs:Z_} (C:cu Od P Ad Z B v gs w t) (F:gs[0]?=some (G (Frame.mk EC tmps (.code c::k) ds .run kd none) cs)):
  AQ P gs w sl t λz w' E=>∃g v' y,z[0]?=some g/\fH EC kd k ds cs Q g v'/\v.heap.size<=v'.heap.size/\B<=y/\cu Od P Ad Z y v' z w' E:=by
 have T:=C.choose_spec.1;have b:=bY x.ES x.alive x.depth x.round x.fn D M T.plain I H;refine(nJ x.ES R A b _ [] gs w sl t B cs (Sz D.2.2 O c tmps) C F).mono λz w' E ⟨s,r,v',u,q,y,h,i,j,l,n,o⟩=>?_
 exact⟨_,v',y,h,dw j i,l,n,o⟩
theorem μ {Mem Am:Nat->Prop} {h j:Nat} {S:Nat->m_->o_->Trace->Prop} (I:Vr P L p N) (hu:Gp Ad Z) (Cc:Gp Still Z) (O:GR P Z Ad Still (fun B t=>PX Ad Still Mem Am B h t) j S) (X:aQ L N f) (hq:∀es,seen P EC es=seen P f es) (U:(kd==CallKind.early)=false) (hc:c.Bv (p f)=true)
  (hQ:∀e a w,Q e a w->(e=.normal\/e=.ret)/\a.defers=[]) (H:∀τ d,c.wpIn N m P Q ⟨tmps,[]⟩ (v.re τ d))
  {gs:Array m_} {w:o_} {sl:d_ (W_)} {t:Trace} {q:Nat->Nat} {n B:Nat} {cs:Z_} (T:au Od Z v w) (hZ:∀r,Z r->r<v.heap.size) (h0:gs[h]?=some (G (Frame.mk EC tmps (.code c::k) ds .run kd none) cs)) (D:Duo P Ad Still Mem Am B h j S n gs w t q):
  AQ P gs w sl t λR w' Y=>∃W V M g v',R[h]?=some g/\fH EC kd k ds cs Q g v'/\au Od Z v' w'/\(∀r,Z r->r<v'.heap.size)/\v.heap.size<=v'.heap.size/\B<=M/\Duo P Ad Still Mem Am M h j S V R w' Y W:=by
 have b:=bY I.ES I.alive I.depth I.round I.fn X hc T.plain hQ H;refine(ak7 I.ES hu Cc O U b _ [] gs w sl t q n B cs (Sz X.2.2 hq c tmps) T hZ h0 D).mono λR w' Y ⟨W,V,M,E,C,v',F,A,i,l,o,s,u,x,y,z⟩=>?_
 exact⟨W,V,M,_,v',i,dw o l,s,u,x,y,z⟩
end
def Dv (I:o_->Prop):Prop:=∀v τ d,I v->I (v.re τ d)
theorem Dv.back {I:o_->Prop} (h:Dv I) {v:o_} {τ:Tape} {d:Nat} (b:I (v.re τ d)):I v:=by
 have:=h (v.re τ d) v.tape v.drawn b;exact this
def eF (Od:Old) (P:l_) (Z:Nat->Prop) (Ad Still:Loc->Prop) (Mem Am:Nat->Prop) (h j:Nat) (By:Nat->m_->o_->Trace->Prop) (C:m_->o_->Prop) (gs:Array m_) (w:o_) (t:Trace):Prop:=
 ∃q n B g v,gs[h]?=some g/\C g v/\au Od Z v w/\(∀r,Z r->r<v.heap.size)/\Duo P Ad Still Mem Am B h j By n gs w t q
section
variable {P:l_} {L:h_->Prop} {p:h_->Oper->Bool} {N:Fence} {Z:Nat->Prop} {Ad Still:Loc->Prop} {Mem Am:Nat->Prop} {h j:Nat} {By:Nat->m_->o_->Trace->Prop} {C C':m_->o_->Prop} {gs:Array m_} {w:o_} {sl:d_ (W_)} {t:Trace}
theorem eF.mono (H:eF Od P Z Ad Still Mem Am h j By C gs w t) (d:∀g v,C g v->C' g v):eF Od P Z Ad Still Mem Am h j By C' gs w t:=by
 obtain⟨q,n,B,g,v,a,b,c⟩:=H;exact⟨q,n,B,g,v,a,d g v b,c⟩
theorem eF.walk {S0:Loc->Prop} (F:∀n b w t,By n b w t->∀d,K (w.at d)) (E:∀w a,K w->S0 (.cell a)->a.block<w.heap.size) (D:∀l,S0 l->¬Ad l) (O:GR P Z Ad Still (fun B t=>PX Ad Still Mem Am B h t) j By)
  (H:eF Od P Z Ad Still Mem Am h j By (λg v=>g=a/\J v) gs w t) (G:RW P (h==0) K S0 k a a'):AQ P gs w sl t (eF Od P Z Ad Still Mem Am h j By (λg v=>g=a'/\J v)):=by
 obtain⟨q,n,B,g,v,f,⟨rfl,i⟩,m,c,o⟩:=H;exact(qW F E D O k G f o).mono λy A z ⟨x,u,e,p,r,_,s⟩=>⟨x,u,e,_,v,p,⟨rfl,i⟩,m.off c r,c,s⟩
theorem eF.TJ (A:∀n b w t,By n b w t->∀d,K (w.at d)) (O:GR P Z Ad Still (fun B t=>PX Ad Still Mem Am B h t) j By)
  (H:eF Od P Z Ad Still Mem Am h j By (λg v=>g=a/\J v) gs w t) (D:KR P K (h==0) k a a'):AQ P gs w sl t (eF Od P Z Ad Still Mem Am h j By (λg v=>g=a'/\J v)):=by
 obtain⟨q,n,B,g,v,f,⟨rfl,i⟩,l,c,m⟩:=H;exact(Hw A O k D f m).mono λx z y ⟨u,s,e,o,p,_,r⟩=>⟨u,s,e,_,v,o,⟨rfl,i⟩,l.off c p,c,r⟩
theorem eF.piece {f EC:h_} {kd:CallKind} {k:List Item} {ds:List Deferred} {Q:Exit->Act->o_->Prop} {c:Code} {tmps:X_} {m:Nat} (S:Vr P L p N) (X:Gp Ad Z) (R:Gp Still Z) (O:GR P Z Ad Still (fun B t=>PX Ad Still Mem Am B h t) j By) (V:aQ L N f) (W:∀es,seen P EC es=seen P f es) (M:(kd==CallKind.early)=false) (U:c.Bv (p f)=true)
  (T:∀e a w,Q e a w->(e=.normal\/e=.ret)/\a.defers=[]) (Y:∀v,J v->∀τ d,c.wpIn N m P Q ⟨tmps,[]⟩ (v.re τ d))
  (H:eF Od P Z Ad Still Mem Am h j By (λg v=>g=G (Frame.mk EC tmps (.code c::k) ds .run kd none) cs/\J v) gs w t):AQ P gs w sl t (eF Od P Z Ad Still Mem Am h j By (fH EC kd k ds cs Q)):=by
 obtain⟨q,n,B,g,v,i,⟨rfl,l⟩,o,r,s⟩:=H;exact(μ S X R O V W M U T (Y v l) o r i s).mono λF K I ⟨D,C,b,g,E,u,x,y,z,_,_,A⟩=>⟨D,C,b,g,E,u,x,y,z,A⟩
end
section
variable {P:l_} {Z:Nat->Prop} {Ad Still:Loc->Prop} {Mem:Nat->Prop} {h j:Nat} {gs:Array m_} {w:o_} {sl:d_ (W_)} {t:Trace} {K K1:o_->Prop} {TT:Trace->Prop} {cJ cH cN:Array CommCase} {Zn Z9 shN:CommShape} {kh kj c k:Nat} {v z zj:n_} {a gS:m_} {home:m_->Prop} {J:o_->Prop}
structure xY (P:l_) (Z:Nat->Prop) (Ad Still:Loc->Prop) (Mem:Nat->Prop) (h j:Nat) (K K1:o_->Prop) (TT:Trace->Prop) (cJ cH:Array CommCase) (kh kj c:Nat) (v z zj:n_):Prop where
 leans:Sl Z Still K1
 Px:∀w,K1 w->K w
 lasts:aP Ad Still j TT
 meets:XM Z cH cJ kh kj c v z zj
 zW:Mem h
 zV:Mem j
 opens:∀w,K1 w->∀(m:Nat) cc,m≠kh->cH[m]?=some cc->Gt w cc
 keeps:∀w d k,K1 w->K1 ((w.at d).setChan c 0 #[] false k k false)
theorem eF.give (M:xY P Z Ad Still Mem h j K K1 TT cJ cH kh kj c v z zj) (hoN:∀w,K1 w->∀cc∈cN,Gt w cc) (BF:a.status=.running) (IY:∀w,stepG P (h==0) a w=.comm a cH true Z9 w #[])
  (hwalk:G5 P (h==0) K Still cN shN home k (Conc.served a (commResult cH Z9 kh undef false)))
  (H:eF Od P Z Ad Still Mem (λg=>g=j) h j (OL P (j==0) K K1 TT Still cJ Zn (·=gS)) (λg v=>g=a/\J v) gs w t):
  AQ P gs w sl t (eF Od P Z Ad Still Mem (λg=>g=h) j h (OL P (h==0) K K1 TT Still cN shN home) (λg v'=>g=Conc.served gS (commResult cJ Zn kj v true)/\J v')):=by
 obtain⟨q,n,B,g,v0,m,⟨rfl,o⟩,T,A,D⟩:=H;obtain⟨b,U,p⟩:=D.idle;have C:K1 w:=p.1.1;refine(Yu (Am:=λg=>g=j) M.leans M.Px M.lasts M.meets M.zW M.zV rfl (es:=#[]) (n+sumTo gs.size q+1) n gs g w sl t q B zD m BF D (M.opens w C) (λd=>IY (w.at d)) zF).bind λQ Y S X R E=>?_
 obtain⟨O,y,d,e,m1,m2,m3,V,W,rfl,I,L,N,u,_⟩:=E;have s:Z c:=by
  obtain⟨F,z',x,r⟩:=M.meets.hrj _ (Array.mem_of_getElem? M.meets.hkj)
  have:c=F:=by simp[rcase]at x;exact x.1
  rw[this];exact r
 have off:CP Z w ((w.at d).setChan c 0 #[] false (e+1) (e+1) false):=MX s w d (e+1) false;have f:K1 ((w.at d).setChan c 0 #[] false (e+1) (e+1) false):=M.keeps w d (e+1) C;refine .now ⟨O,k+1,B,_,v0,m2,⟨by rw[m3],o⟩,T.off A off,A,⟨D.ne.symm,D.zero.symm,λg l=>(D.mem g l).symm,⟨_,m1,⟨f,u⟩,hoN _ f,.inr ⟨k,rfl,rfl,hwalk⟩⟩,λi g m o G=>I i g o m G,L,N.loosen (λg l=>(l.2 l.1).elim),?_⟩⟩;rw[Jv];exact D.size
end
end Go.Fxa
