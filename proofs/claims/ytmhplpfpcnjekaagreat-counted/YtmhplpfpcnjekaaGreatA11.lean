/- The child's walks, put togethe -/
import Derived.Test.YtmhplpfpcnjekaaGreatA10
namespace Go.Fxa
open Go.Conc
theorem RQ (x:Frame×Z_) (v:n_):Conc.served (BL x) v=BL (BG x v):=rfl
structure RG (K:o_->Prop) (Still:Loc->Prop) (b5 b2 b3 r q0 q1 q2 q3:Nat) (sv:n_) (n:Int):Prop where
 c5:∀w,K w->w.cell? (S_ b5)=some (pr r)
 s5:Still (.cell (S_ b5))
 c2:∀w,K w->w.cell? (S_ b2)=some sv
 s2:Still (.cell (S_ b2))
 c3:∀w,K w->w.cell? (S_ b3)=some (b_ n)
 s3:Still (.cell (S_ b3))
 r0:∀w,K w->w.cell? (S_ r)=some (DU q0)
 t0:Still (.cell (S_ r))
 r1:∀w,K w->w.cell? (T_ r 1)=some (DU q1)
 t1:Still (.cell (T_ r 1))
 r2:∀w,K w->w.cell? (T_ r 2)=some (DU q2)
 t2:Still (.cell (T_ r 2))
 r3:∀w,K w->w.cell? (T_ r 3)=some (DU q3)
 t3:Still (.cell (T_ r 3))
theorem UG {x:Frame×Z_}:∀{l:List (Nat×n_)},slotsOf x (l.map (·.1))=l.map (·.2)->AY (slot x) l=slot x
 |l,h=>Nb λp b=>by
  induction l with
  |nil=>cases b
  |cons a l c=>
   simp only[List.map_cons,slotsOf,List.cons.injEq]at h
   obtain rfl|b:=r_.1 b
   .exact h.1
   .exact c h.2 b
theorem at_told {x:Frame×Z_} {fn:h_} {todo:List Item} {Y:Z_} {l:List (Nat×n_)} (h:Dj x=(fn,todo,[],.run,.normal,none,Y)) (hs:slotsOf x (l.map (·.1))=l.map (·.2)) (hz:x.1.tmps.size=32):
  x=(Frame.mk fn (ry (AY (slot x) l)) todo [] .run .normal none,Y):=by
 rw[UG hs];exact xI h hz
section
variable {P:l_} {K:o_->Prop} {Still:Loc->Prop} {main:Bool} {b5 b2 b3 r q0 q1 q2 q3:Nat} {sv:n_} {n:Int}
theorem kE (F:Eg P b5 b2 b3 r q0 q1 q2 q3 sv n) (R:RG K Still b5 b2 b3 r q0 q1 q2 q3 sv n):
  ∃f,RW P main K Still 21 (BL (ch0 P b5 b2 b3)) (BL (LH P (AY f (sl4 r sv n 0)) (Un P b5 b2 b3 r sv n))):=by
 have h:RW P main K Still 21 (BL (ch0 P b5 b2 b3)) (BL (run P 9 (ch5 P b5 b2 b3 r sv n))):=((((((RW.AB (main:=main) (K:=K) (Still:=Still) F.f01).trans (RW.at F.f02 R.c5 R.s5)).trans (RW.AB F.f03)).trans (RW.at F.f04 R.c5 R.s5)).trans (RW.at F.f05 R.c2 R.s2)).trans (RW.at F.f06 R.c3 R.s3)).trans (RW.AB F.f07);have e:=at_told (l:=sl4 r sv n 0) F.f08 F.f09 F.f10;refine⟨slot (run P 9 (ch5 P b5 b2 b3 r sv n)),?_⟩;rw[e]at h;exact h
theorem qL (F:Eg P b5 b2 b3 r q0 q1 q2 q3 sv n) (f:Y_) (Y:Z_) {i:Int} (hi:i<n):
  ∃f',RW P main K Still 10 (BL (LH P (AY f (sl4 r sv n i)) Y)) (BL (Frame.mk 136 (ry (AY f' (sl4 r sv n i))) (.code (Vu P)::zD P) [] .run .normal none,Y)):=by
 have a:=F.l2 f Y i;rw[decide_eq_true hi]at a;have h:RW P main K Still 10 (BL (LH P (AY f (sl4 r sv n i)) Y)) (BL (lr P (AY f (sl4 r sv n i)) Y)):=((RW.AB (main:=main) (K:=K) (Still:=Still) (F.l1 f Y i)).trans (RW.ZM (iP a))).trans (RW.AB (F.l3 f Y i));have e:=at_told (l:=sl4 r sv n i) (F.l4 f Y i) (F.l5 f Y i) (F.l6 f Y i);refine⟨slot (lr P (AY f (sl4 r sv n i)) Y),?_⟩;rw[e]at h;exact h
theorem ab6 (F:Eg P b5 b2 b3 r q0 q1 q2 q3 sv n) (f:Y_) (Y:Z_) (i:Int) (x:n_):
  ∃f',RW P main K Still 28 (BL (RB P (AY f (sl6 r sv n i 0 x)) Y)) (BL (LH P (AY f' (sl4 r sv n (IntKind.i64.wrap (i+1)))) Y)):=by
 have h:=RW.AB (main:=main) (K:=K) (Still:=Still) (F.s01 f Y i x);have e:=at_told (l:=sl4 r sv n (IntKind.i64.wrap (i+1))) (F.s02 f Y i x) (F.s03 f Y i x) (F.s04 f Y i x);refine⟨slot (run P 28 (RB P (AY f (sl6 r sv n i 0 x)) Y)),?_⟩;rw[e]at h;exact h
theorem kD (F:Eg P b5 b2 b3 r q0 q1 q2 q3 sv n) (R:RG K Still b5 b2 b3 r q0 q1 q2 q3 sv n) (f:Y_) (Y:Z_) (i:Int) (x:n_):
  RW P main K Still 42 (BL (RB P (AY f (sl6 r sv n i 1 x)) Y)) (BL (k3 P q0 q3 (AY f (sl6 r sv n i 1 x)) Y)):=
 ((((RW.AB (F.s11 f Y i x)).trans (RW.at (F.s12 f Y i x) R.r0 R.t0)).trans (RW.AB (F.s13 f Y i x))).trans (RW.at (F.s14 f Y i x) R.r3 R.t3)).trans (RW.AB (F.s15 f Y i x))
theorem qJ (F:Eg P b5 b2 b3 r q0 q1 q2 q3 sv n) (R:RG K Still b5 b2 b3 r q0 q1 q2 q3 sv n) (f:Y_) (Y:Z_) (i:Int) (x:n_):
  GM P main K Still (Gv q1 q3) .select (λg=>g=BL (m3 P q0 q1 q3 x (AY f (sl6 r sv n i 1 x)) Y)) 24 (Conc.served (BL (k3 P q0 q3 (AY f (sl6 r sv n i 1 x)) Y)) (commResult (eH q0 q3 x) .select 0 undef false)):=by
 have h:=((((RW.AB (main:=main) (K:=K) (Still:=Still) (F.m11 f Y i x)).trans (RW.at (F.m12 f Y i x) R.r1 R.t1)).trans (RW.AB (F.m13 f Y i x))).trans (RW.at (F.m14 f Y i x) R.r3 R.t3)).trans (RW.AB (F.m15 f Y i x));exact RW.seat (k:=0) (home:=λg=>g=BL (m3 P q0 q1 q3 x (AY f (sl6 r sv n i 1 x)) Y)) (g':=BL (m3 P q0 q1 q3 x (AY f (sl6 r sv n i 1 x)) Y)) rfl ⟨_,#[],rfl,rfl,by simp,λw _=>IC (F.m16 f Y i x) w⟩ h
theorem ku (F:Eg P b5 b2 b3 r q0 q1 q2 q3 sv n) (f:Y_) (i:Int) (x:n_) {a b c d:n_}:
  Kr P (DC r #[a,b,c,d] 257) main 37 (Conc.served (BL (m3 P q0 q1 q3 x (AY f (sl6 r sv n i 1 x)) (Un P b5 b2 b3 r sv n))) (commResult (Gv q1 q3) .select 1 (.agg #[]) false)) (BL (dR P r (Ry P b5 b2 b3 r sv n))):=
 Gf (GX) (F.q1_ f i x) (by simp)
theorem xW (F:Eg P b5 b2 b3 r q0 q1 q2 q3 sv n) (R:RG K Still b5 b2 b3 r q0 q1 q2 q3 sv n) (f:Y_) (Y:Z_) (i:Int) (x:n_):
  RW P main K Still 31 (BL (RB P (AY f (sl6 r sv n i 2 x)) Y)) (BL (e3 P q2 q3 (AY f (sl6 r sv n i 2 x)) Y)):=
 ((((RW.AB (F.e11 f Y i x)).trans (RW.at (F.e12 f Y i x) R.r2 R.t2)).trans (RW.AB (F.e13 f Y i x))).trans (RW.at (F.e14 f Y i x) R.r3 R.t3)).trans (RW.AB (F.e15 f Y i x))
theorem bP (F:Eg P b5 b2 b3 r q0 q1 q2 q3 sv n) (f:Y_) (i:Int) (x:n_) {a b c d:n_}:
  Kr P (DC r #[a,b,c,d] 257) main 31 (Conc.served (BL (e3 P q2 q3 (AY f (sl6 r sv n i 2 x)) (Un P b5 b2 b3 r sv n))) (commResult (ZH q2 q3 2) .select 0 undef false)) (BL (dR P r (Ry P b5 b2 b3 r sv n))):=
 Gf (GX) (F.e17 f i x) (by simp)
theorem Vq (F:Eg P b5 b2 b3 r q0 q1 q2 q3 sv n) (R:RG K Still b5 b2 b3 r q0 q1 q2 q3 sv n) (f:Y_) (Y:Z_) {i:Int} (hi:¬i<n):
  RW P main K Still 30 (BL (LH P (AY f (sl4 r sv n i)) Y)) (BL (d3 P q2 q3 (AY f (sl4 r sv n i)) Y)):=by
 have a:=F.l2 f Y i;rw[decide_eq_false hi]at a;exact((((((RW.AB (F.l1 f Y i)).trans (RW.ZM (iP a))).trans (RW.AB (F.d11 f Y i))).trans (RW.at (F.d12 f Y i) R.r2 R.t2)).trans (RW.AB (F.d13 f Y i))).trans (RW.at (F.d14 f Y i) R.r3 R.t3)).trans (RW.AB (F.d15 f Y i))
theorem XT (F:Eg P b5 b2 b3 r q0 q1 q2 q3 sv n) (f:Y_) (i:Int) {a b c d:n_}:
  Kr P (DC r #[a,b,c,d] 257) main 31 (Conc.served (BL (d3 P q2 q3 (AY f (sl4 r sv n i)) (Un P b5 b2 b3 r sv n))) (commResult (ZH q2 q3 0) .select 0 undef false)) (BL (dR P r (Ry P b5 b2 b3 r sv n))):=
 Gf (GX) (F.d17 f i) (by simp)
end
end Go.Fxa
namespace Go.Fxa
open Go.Conc
open Go.ConcN (sumTo upd sumTo_upd upd_ne upd_same)
def MV:Item:=.code (.refuse "")
theorem Pz {id:Nat} {A B:List Item} (hA:exitTo id A=none):∀{fs k':List Item},exitTo id (fs++A)=some k'->∃MI,k'=MI++A/\exitTo id (fs++B)=some (MI++B)
 |[],k',h=>by rw[List.nil_append,hA]at h;cases h
 |d::fs,k',h=>by
  cases d with
  |inBlock c=>
   simp only[List.cons_append,exitTo]at h ⊢
   split at h
   .rename_i a;obtain rfl:=x_ h;exact⟨fs,rfl,by rw[if_pos a]⟩
   .rename_i a;obtain⟨MI,e,b⟩:=Pz hA h;exact⟨MI,e,by rw[if_neg a];exact b⟩
  |_=>
   simp only[List.cons_append,exitTo]at h ⊢
   exact Pz hA h
section
variable {P:l_} {L:h_->Prop} {p:h_->Oper->Bool} {Z:Nat->Prop}
theorem Y8 {fn Ep:h_} (hq:∀es,seen P Ep es=seen P fn es) {tmps:X_} {it:Item} {fs A B:List Item} {dl ds:List Deferred} {kl kd:CallKind} {pf:Oper->Bool} {b:Bool} (hkl:(kl==CallKind.early)=false) (hkd:(kd==CallKind.early)=false) (hA:∀id,exitTo id A=none) (Ir:it.EJ pf=true)
  (hdr:∀id ops,it≠.code (.region id ops true)) {w w':o_} {X:Z_} {g':m_} {es:Array Event}
  (hn:∀ops i rest o,it=.inRegion ops (i::rest)->ops[i]?=some o->Region.wanted o (yielded ops tmps)=true->∃n w1 Nw,(execOp (Frame.mk fn tmps (it::(fs++A)) dl .run kl none).eval o).runT P w #[]=(.ok n w1,Nw)/\EZ L b n)
  (h:stepG P true (G (Frame.mk fn tmps (it::(fs++A)) dl .run kl none) X) w=.go g' w' es):
  (∃Ff MI m df,(b=false->df=[])/\(m=.run\/m=.returning)/\g'=G (Frame.mk fn Ff (MI++A) (df++dl) m kl none) X/\∀main Y,stepG P main (G (Frame.mk Ep tmps (it::(fs++B)) ds .run kd none) Y) w=.go (G (Frame.mk Ep Ff (MI++B) (df++ds) m kd none) Y) w' es)\/
  (∃f args,(∃ops i rest,it=.inRegion ops (i::rest))/\g'=G (Frame.enter P f args .normal) (Frame.mk fn tmps (it::(fs++A)) dl .run kl none::X)/\
   ∀main Y,stepG P main (G (Frame.mk Ep tmps (it::(fs++B)) ds .run kd none) Y) w=.go (G (Frame.enter P f args .normal) (Frame.mk Ep tmps (it::(fs++B)) ds .run kd none::Y)) w' es):=by
 have e:∀{Ff:X_} {MI:List Item} {m:FrameMode},(m=.run\/m=.returning)->stepG P true (G (Frame.mk fn tmps (it::(fs++A)) dl .run kl none) X) w=.go (G (Frame.mk fn Ff (MI++A) dl m kl none) X) w #[]->
   (∀main Y,stepG P main (G (Frame.mk Ep tmps (it::(fs++B)) ds .run kd none) Y) w=.go (G (Frame.mk Ep Ff (MI++B) ds m kd none) Y) w #[])->
   (∃Ff MI m df,(b=false->df=[])/\(m=.run\/m=.returning)/\g'=G (Frame.mk fn Ff (MI++A) (df++dl) m kl none) X/\∀main Y,stepG P main (G (Frame.mk Ep tmps (it::(fs++B)) ds .run kd none) Y) w=.go (G (Frame.mk Ep Ff (MI++B) (df++ds) m kd none) Y) w' es):=by
  intro Ff MI m J e1 e2
  rw[e1]at h
  injection h with j k p
  subst j k p
  exact⟨Ff,MI,m,[],λ_=>rfl,J,rfl,e2⟩
 cases it with
 |inBlock id=>exact .inl (e (Ff:=tmps) (MI:=fs) (.inl rfl) (by simp[G,stepG,stepG.exec]) (λmain Y=>by simp[G,stepG,stepG.exec]))
 |inLoop c=>exact .inl (e (Ff:=tmps) (MI:=.code c::.inLoop c::fs) (.inl rfl) (by simp[G,stepG,stepG.exec]) (λmain Y=>by simp[G,stepG,stepG.exec]))
 |inScope c=>simp[Item.EJ]at Ir
 |inRangeFunc l=>simp[Item.EJ]at Ir
 |endRangeFunc l=>simp[Item.EJ]at Ir
 |beginRound=>simp[Item.EJ]at Ir
 |call d a b c=>simp[Item.EJ]at Ir
 |extern a b=>simp[Item.EJ]at Ir
 |code c=>
  cases c with
  |skip=>exact .inl (e (Ff:=tmps) (MI:=fs) (.inl rfl) (by simp[G,stepG,stepG.exec]) (λmain Y=>by simp[G,stepG,stepG.exec]))
  |label l=>exact .inl (e (Ff:=tmps) (MI:=fs) (.inl rfl) (by simp[G,stepG,stepG.exec]) (λmain Y=>by simp[G,stepG,stepG.exec]))
  |ret=>exact .inl (e (Ff:=tmps) (MI:=.code .ret::fs) (.inr rfl) (by simp[G,stepG,stepG.exec]) (λmain Y=>by simp[G,stepG,stepG.exec]))
  |rangeFunc f M a b=>simp[Item.EJ,Code.BC]at Ir
  |scope c=>simp[Item.EJ,Code.BC]at Ir
  |goto l=>simp[Item.EJ,Code.BC]at Ir
  |refuse s=>simp[G,stepG,stepG.exec]at h
  |seq a b=>exact .inl (e (Ff:=tmps) (MI:=.code a::.code b::fs) (.inl rfl) (by simp[G,stepG,stepG.exec]) (λmain Y=>by simp[G,stepG,stepG.exec]))
  |cond c a b=>
   cases hv:(Frame.mk fn tmps (.code (.cond c a b)::(fs++A)) dl .run kl none).eval c with
   |bool t=>
    have D:(Frame.mk Ep tmps (.code (.cond c a b)::(fs++B)) ds .run kd none).eval c=.bool t:=by rw[<-hv];cases c<;>rfl
    exact .inl (e (Ff:=tmps) (MI:=.code (if t then a else b)::fs) (.inl rfl) (by simp[G,stepG,stepG.exec,hv]) (λmain Y=>by simp[G,stepG,stepG.exec,D]))
   |_=>simp[G,stepG,stepG.exec,hv]at h
  |block id c=>exact .inl (e (Ff:=tmps) (MI:=.code c::.inBlock id::fs) (.inl rfl) (by simp[G,stepG,stepG.exec]) (λmain Y=>by simp[G,stepG,stepG.exec]))
  |loop c=>exact .inl (e (Ff:=tmps) (MI:=.code c::.inLoop c::fs) (.inl rfl) (by simp[G,stepG,stepG.exec]) (λmain Y=>by simp[G,stepG,stepG.exec]))
  |exit id=>
   cases hx:exitTo id (fs++A)with
   |none=>simp[G,stepG,stepG.exec,hx]at h
   |some K=>
    obtain⟨MI,rfl,H⟩:=Pz (B:=B) (hA id) hx
    exact .inl (e (Ff:=tmps) (MI:=MI) (.inl rfl) (by simp[G,stepG,stepG.exec,hx]) (λmain Y=>by simp[G,stepG,stepG.exec,H]))
  |region id ops u=>
   cases u with
   |true=>exact(hdr id ops rfl).elim
   |false=>exact .inl (e (Ff:=tmps) (MI:=.inRegion ops (List.range ops.size)::fs) (.inl rfl) (by simp[G,stepG,stepG.exec]) (λmain Y=>by simp[G,stepG,stepG.exec]))
 |inRegion ops l=>
  cases l with
  |nil=>exact .inl (e (Ff:=tmps) (MI:=fs) (.inl rfl) (by simp[G,stepG,stepG.exec]) (λmain Y=>by simp[G,stepG,stepG.exec]))
  |cons i rest=>
   by_cases r:((ops[i]?).map (Region.wanted · (yielded ops tmps))).getD false=true
   .cases ho:ops[i]? with
    |none=>rw[ho]at r;simp at r
    |some o=>
     rw[ho]at r
     simp only[Option.map_some,Option.getD_some]at r
     have F:(Frame.mk Ep tmps (.inRegion ops (i::rest)::(fs++B)) ds .run kd none).eval=(Frame.mk fn tmps (.inRegion ops (i::rest)::(fs++A)) dl .run kl none).eval:=funext λx=>by cases x<;>rfl
     have E:stepG P true (G (Frame.mk fn tmps (.inRegion ops (i::rest)::(fs++A)) dl .run kl none) X) w=
       stepG.apply P true (Frame.mk fn tmps (.inRegion ops (i::rest)::(fs++A)) dl .run kl none) X none (execOp (Frame.mk fn tmps (.inRegion ops (i::rest)::(fs++A)) dl .run kl none).eval o) w:=by
      simp[G,stepG,stepG.exec,stepG.oper,Frame.oper?,ho,r]
     have g:∀main Y,stepG P main (G (Frame.mk Ep tmps (.inRegion ops (i::rest)::(fs++B)) ds .run kd none) Y) w=
       stepG.apply P true (Frame.mk Ep tmps (.inRegion ops (i::rest)::(fs++B)) ds .run kd none) Y none (execOp (Frame.mk fn tmps (.inRegion ops (i::rest)::(fs++A)) dl .run kl none).eval o) w:=λmain Y=>by
      rw[<-F]
      simp[G,stepG,stepG.exec,stepG.oper,Frame.oper?,ho,r]
     rw[E]at h
     obtain⟨n,w1,Nw,q,v⟩:=hn ops i rest o rfl ho r
     have fin:∀x,(∃Ff MI,(Frame.mk fn tmps (.inRegion ops (i::rest)::(fs++A)) dl .run kl none).finish x=Frame.mk fn Ff (MI++A) dl .run kl none/\
       (Frame.mk Ep tmps (.inRegion ops (i::rest)::(fs++B)) ds .run kd none).finish x=Frame.mk Ep Ff (MI++B) ds .run kd none):=λx=>⟨_,.inRegion ops rest::fs,rfl,rfl⟩
     cases n<;>first|exact v.elim|skip
     .rename_i x;obtain⟨C,MI,e1,e2⟩:=fin x;simp only[stepG.apply,q,if_true,GStep.after,Array.append_empty,hkl,Bool.false_eq_true,if_false]at h;injection h with j k p;subst k p;refine .inl ⟨C,MI,.run,[],λ_=>rfl,.inl rfl,by rw[<-j,e1];rfl,λmain Y=>?_⟩;rw[g];simp only[stepG.apply,q,if_true,GStep.after,Array.append_empty,e2,hq,hkd,Bool.false_eq_true,if_false]
      rfl
     .obtain⟨C,MI,e1,e2⟩:=fin undef;simp only[stepG.apply,q,if_true,GStep.after,Array.append_empty,hkl,Bool.false_eq_true,if_false]at h;injection h with j k p;subst k p;refine .inl ⟨C,MI,.run,[],λ_=>rfl,.inl rfl,by rw[<-j,e1];rfl,λmain Y=>?_⟩;rw[g];simp only[stepG.apply,q,if_true,GStep.after,Array.append_empty,e2,hq,hkd,Bool.false_eq_true,if_false]
      rfl
     .rename_i f args;simp only[stepG.apply,q,if_true,GStep.after,Array.append_empty,hkl,Bool.false_eq_true,if_false]at h;injection h with j k p;subst k p;refine .inr ⟨f,args,⟨_,_,_,rfl⟩,by rw[<-j];rfl,λmain Y=>?_⟩;rw[g];simp only[stepG.apply,q,if_true,GStep.after,Array.append_empty,hq,hkd,Bool.false_eq_true,if_false]
      rfl
     .rename_i d;simp only[stepG.apply,q,if_true,GStep.after,Array.append_empty,hkl,Bool.false_eq_true,if_false]at h;injection h with j k p;subst k p;have e1:({ fn:=fn,tmps:=tmps,todo:=.inRegion ops (i::rest)::(fs++A),defers:=d::dl,mode:=.run,kind:=kl,roundOf:=none }:Frame).finish undef=Frame.mk fn (match (ops[i]?).bind (·.dst)with|some d=>tmps.setIfInBounds d undef|none=>tmps) ((.inRegion ops rest::fs)++A) ([d]++dl) .run kl none:=rfl;have e2:({ fn:=Ep,tmps:=tmps,todo:=.inRegion ops (i::rest)::(fs++B),defers:=d::ds,mode:=.run,kind:=kd,roundOf:=none }:Frame).finish undef=Frame.mk Ep (match (ops[i]?).bind (·.dst)with|some d=>tmps.setIfInBounds d undef|none=>tmps) ((.inRegion ops rest::fs)++B) ([d]++ds) .run kd none:=rfl;refine .inl ⟨_,_,.run,[d],λI=>(by have:=v.1;rw[I]at this;cases this),.inl rfl,by rw[<-j];exact congrArg (G · X) e1,λmain Y=>?_⟩;rw[g];simp only[stepG.apply,q,if_true,GStep.after,Array.append_empty,hq,hkd,Bool.false_eq_true,if_false];exact congrArg (λz=>GStep.go (G z Y) w1 (seen P fn Nw)) e2
   .have y:((ops[i]?).map (Region.wanted · (yielded ops tmps))).getD false=false:=(by simpa using r);have fin:∀x,(∃Ff MI,(Frame.mk fn tmps (.inRegion ops (i::rest)::(fs++A)) dl .run kl none).finish x=Frame.mk fn Ff (MI++A) dl .run kl none/\
      (Frame.mk Ep tmps (.inRegion ops (i::rest)::(fs++B)) ds .run kd none).finish x=Frame.mk Ep Ff (MI++B) ds .run kd none):=λx=>⟨_,.inRegion ops rest::fs,rfl,rfl⟩
    obtain⟨C,MI,e1,e2⟩:=fin undef;exact .inl (e (Ff:=C) (MI:=MI) (.inl rfl) (by rw[<-e1];simp[G,stepG,stepG.exec,y]) (λmain Y=>by rw[<-e2];simp[G,stepG,stepG.exec,y]))
theorem bi4 {Od:Old} (F:Fine P L p) {fn:h_} {tmps:X_} {ops:Array Oper} {i:Nat} {rest:List Nat} {k:List Item} {pre:Z_} {dl:List Deferred} {kl:CallKind} (hkl:(kl==CallKind.early)=false) {v w v':o_} {g':m_} {es:Array Event} {o:Oper} (T:Twin Od Z v w) (hZ:∀r,Z r->r<v.heap.size)
  (KT:∀j,j<v'.drawn-v.drawn->∀q,w.tape (w.drawn+j) q=v.tape (v.drawn+j) q) (hab:∀f,(Frame.mk fn tmps (.inRegion ops (i::rest)::k) dl .run kl none).about P v=some f->L f\/Ext P f) (Ir:(Item.inRegion ops (i::rest)).EJ (p fn)=true)
  (ho:ops[i]?=some o) (hw:Region.wanted o (yielded ops tmps)=true) (h:stepG P true (G (Frame.mk fn tmps (.inRegion ops (i::rest)::k) dl .run kl none) pre) v=.go g' v' es) (kQ:∀ch,g'.frame.mode≠.panicking ch):
  ∃n w1 Nw,(execOp (Frame.mk fn tmps (.inRegion ops (i::rest)::k) dl .run kl none).eval o).runT P w #[]=(.ok n w1,Nw)/\EZ L (kY fn) n:=by
 have a:p fn o=true:=by
  simp only[Item.EJ,Array.all_eq_true]at Ir
  obtain⟨t,rfl⟩:=y_.1 ho
  exact Ir i t
 rw[Nl ho]at hab;have b:=F.op fn o a _ v T.plain hab;have u:stepG P true (G (Frame.mk fn tmps (.inRegion ops (i::rest)::k) dl .run kl none) pre) v=
   stepG.apply P true (Frame.mk fn tmps (.inRegion ops (i::rest)::k) dl .run kl none) pre none (execOp (Frame.mk fn tmps (.inRegion ops (i::rest)::k) dl .run kl none).eval o) v:=by
  simp[G,stepG,stepG.exec,stepG.oper,Frame.oper?,ho,hw]
 rw[u]at h;cases IY:(execOp (Frame.mk fn tmps (.inRegion ops (i::rest)::k) dl .run kl none).eval o).runT P v #[]with
 |mk r Nw=>
  cases r with
  |ok n v1=>
   have m:EZ L (kY fn) n:=by
    obtain⟨_,_,z,_⟩:=SK (Od:=MP) (Z:=Z) b (v:=v) (w:=v.re v.tape v.drawn) (@Twin.mk MP _ _ _ rfl (λ_ _ _=>rfl) T.dead T.plain rfl rfl (λ_ h=>False.elim h) (λ_ h=>False.elim h) (λ_ h=>False.elim h)) hZ IY (λ_ _ _=>rfl)
    exact z
   have B:v'=v1:=by
    cases n<;>first|exact m.elim|skip
    all_goals
     simp only[stepG.apply,IY,if_true,GStep.after,Array.append_empty,hkl,Bool.false_eq_true,if_false]at h
     injection h with d e y
     exact e.symm
   subst B
   obtain⟨C,s,_,c,_⟩:=SK b T hZ IY KT
   exact⟨n,C,_,c,m⟩
  |halt A v1=>
   have l:=aj b T.plain IY
   exfalso
   cases A with
   |panic x=>
    simp only[stepG.apply,IY,if_true,GStep.after]at h
    injection h with d e y
    exact kQ _ (by rw[<-d];rfl)
   |stuck x=>simp only[stepG.apply,IY,if_true,GStep.after,reduceCtorEq]at h
   |unsupported x=>
    cases x with
    |initOrder g=>simp[Halt.Kv]at l
    |_=>simp only[stepG.apply,IY,if_true,GStep.after,reduceCtorEq]at h
   |_=>simp[Halt.Kv]at l
def EU (P:l_) (Ep:h_) (kd:CallKind) (k:List Item) (ds:List Deferred) (vs rs:Z_):Prop:=
 ∃xs fn tmps front m,vs=xs++[Frame.mk fn tmps (front++[MV]) [] m .normal none]/\rs=xs++[Frame.mk Ep tmps (front++k) ds m kd none]/\(∀es,seen P Ep es=seen P fn es)/\kY fn=false/\(xs≠[]->m=.run/\∃ops i rest fs,front=.inRegion ops (i::rest)::fs)
theorem Y6 {Od:Old} (F:Fine P L p) {Ep:h_} {kd:CallKind} (hkd:(kd==CallKind.early)=false) {k:List Item} {ds:List Deferred} {C:Frame->Z_->o_->Prop} {fr:Frame} {pre:Z_} {v w:o_} {rf:Frame} {rs:Z_} (St:EU P Ep kd k ds (fr::pre) (rf::rs))
  (T:Twin Od Z v w) (hZ:∀r,Z r->r<v.heap.size) (Ob:∀τ d,Good P L p fr pre (v.re τ d)/\∃Ei CQ v',Hm P fr pre (v.re τ d) Ei CQ v'/\C Ei CQ v'):
  ∃Ei CQ v' PE rs' w' es,C Ei CQ v'/\EU P Ep kd k ds (Ei::CQ) (PE::rs')/\Twin Od Z v' w'/\v.heap.size<=v'.heap.size/\(∀r,Z r->w'.heap[r]?=w.heap[r]?)/\(∀e∈es,EvT Z v'.heap.size e)/\
   ∀main cs,stepG P main (G rf (rs++cs)) w=.go (G PE (rs'++cs)) w' es:=by
 obtain⟨xs,fn,tmps,a,m,H,hr,Q,j,hx⟩:=St;by_cases hd:fr.mode=.run/\∃id g fs,fr.todo=.code (.region id g true)::fs
 ·
  obtain⟨hm,id,g,fs,M⟩:=hd;obtain⟨V,Ei,CQ,v',⟨es,BX,kQ⟩,J⟩:=Ob (λi q=>match q with
   |.order _ _=>w.tape w.drawn (.order rf.fn id)
   |_=>w.tape i q) w.drawn;obtain⟨t,U,z,d0,m0,I,r0⟩:=fr;obtain⟨_,h2,h2',h3,h4,_⟩:=V.ok;simp only at hm M h2 h2' h3 h4;subst hm M h4;have D:∀fnx tx kx dsx kdx main (Y:Z_) (u:o_),stepG P main (G (Frame.mk fnx tx (.code (.region id g true)::kx) dsx .run kdx none) Y) u=
    .go (G (Frame.mk fnx tx (.inRegion g (Region.schedule (P.follows .mixedOrders) g (u.tape u.drawn (.order fnx id)))::kx) dsx .run kdx none) Y) { u with drawn:=u.drawn+1 } #[]:=λfnx tx kx dsx kdx main Y u=>by
   simp[G,stepG,stepG.exec,choose,Sem.run,Question.forced,Question.cut]
  rw[D]at BX;injection BX with g1 g2 S;simp only[G,Goroutine.mk.injEq]at g1;obtain⟨g1,g1',_⟩:=g1;subst g1 g1' g2 S;simp only[World.re]at J;have N:∀τ,Twin Od Z { heap:=v.heap,tape:=τ,drawn:=w.drawn+1,os:=v.os,output:=v.output } { w with drawn:=w.drawn+1 }:=λτ=>⟨T.size,T.same,T.dead,T.plain,T.os,T.output,T.JV,T.kept,T.XZ⟩
  cases xs with
  |nil=>
   simp only[List.nil_append,List.cons.injEq]at H hr
   obtain⟨H,rfl⟩:=H
   obtain⟨rfl,rfl⟩:=hr
   simp only[Frame.mk.injEq]at H
   obtain⟨rfl,rfl,M,rfl,rfl,rfl,_⟩:=H
   cases a with
   |nil=>simp[MV]at M
   |cons it MI=>
    simp only[List.cons_append,List.cons.injEq]at M
    obtain⟨rfl,rfl⟩:=M
    exact⟨_,_,_,_,[],{ w with drawn:=w.drawn+1 },#[],J,⟨[],_,_,.inRegion g _::MI,.run,rfl,rfl,Q,j,λh=>(h rfl).elim⟩,N _,w_ _,λ_ _=>rfl,by simp,λmain cs=>D _ _ _ _ _ main _ w⟩
  |cons x xs=>
   simp only[List.cons_append,List.cons.injEq]at H hr
   obtain⟨rfl,rfl⟩:=H
   obtain⟨rfl,rfl⟩:=hr
   exact⟨_,_,_,_,_,{ w with drawn:=w.drawn+1 },#[],J,⟨_::xs,fn,tmps,a,m,rfl,rfl,Q,j,λ_=>hx (by simp)⟩,N _,w_ _,λ_ _=>rfl,by simp,λmain cs=>D _ _ _ _ _ main _ w⟩
 .obtain⟨V,Ei,CQ,v',⟨es,BX,kQ⟩,J⟩:=Ob w.tape w.drawn;have T1:Twin Od Z (v.re w.tape w.drawn) w:=T.Rz w.tape w.tape w.drawn w.drawn;obtain⟨bV,pre2,w',e,_,_,_,_,_,_,S,N,s,_,_,W,hw⟩:=O6 F (w:=w) V.ok V.below V.mode V.about T1 hZ BX kQ (λ_ _ _=>rfl);simp only[G,Goroutine.mk.injEq]at e;obtain⟨rfl,rfl,_⟩:=e;have E:=hw true [];rw[List.append_nil,List.append_nil]at E;obtain⟨t,U,z,d0,m0,I,r0⟩:=fr;obtain⟨hfn,h2,h2',h3,h4,h5⟩:=V.ok;simp only at hd h2 h2' h3 h4 h5 hfn;subst h4;have hke:(I==CallKind.early)=false:=by obtain rfl|rfl:=h3<;>rfl
  have y:=V.mode;have hbel:=V.below;have habout:=V.about;simp only at y;have Ο:∀it k',m0=.run->z=it::k'->∀g i l o,it=.inRegion g (i::l)->g[i]?=some o->Region.wanted o (yielded g U)=true->∃n w1 Nw,(execOp (Frame.mk t U (it::k') d0 .run I none).eval o).runT P w #[]=(.ok n w1,Nw)/\EZ L (kY t) n:=by
   rintro it k' rfl rfl g i l o rfl ho hw'
   exact bi4 F hke T1 hZ (λ_ _ _=>rfl) habout (h5 _ (List.mem_cons_self ..)) ho hw' BX kQ
  cases xs with
  |nil=>
   simp only[List.nil_append,List.cons.injEq]at H hr
   obtain⟨H,rfl⟩:=H
   obtain⟨rfl,rfl⟩:=hr
   simp only[Frame.mk.injEq,and_true]at H
   obtain⟨rfl,rfl,rfl,rfl,rfl,rfl⟩:=H
   obtain rfl:m0=.run:=y.elim id λx=>(x.2 rfl).elim
   cases a with
   |nil=>simp[G,stepG,stepG.exec,MV]at E
   |cons it fs=>
    obtain⟨t',MI,m',df,hdf,hm',e1,e2⟩|⟨f,args,⟨g,i,l,rfl⟩,e1,e2⟩:=Y8 (L:=L) (b:=kY t) (pf:=p t) (B:=k) (dl:=[]) (ds:=ds) (kl:=.normal) (kd:=kd) (Ep:=Ep) Q rfl hkd (A:=[MV]) (λ_=>rfl) (h5 it (by simp)) (λid g e=>hd ⟨rfl,id,g,_,by rw[e];rfl⟩) (Ο it (fs++[MV]) rfl rfl) E
    .obtain rfl:=hdf j;simp only[G,Goroutine.mk.injEq]at e1;obtain⟨rfl,rfl,_⟩:=e1;exact⟨_,_,v',_,[],w',es,J,⟨[],_,t',MI,m',rfl,rfl,Q,j,λh=>(h rfl).elim⟩,N,S,s,W,λmain cs=>e2 main _⟩
    .simp only[G,Goroutine.mk.injEq]at e1;obtain⟨rfl,rfl,_⟩:=e1;exact⟨_,_,v',_,[_],w',es,J,⟨[_],_,_,_,_,rfl,rfl,Q,j,λ_=>⟨rfl,g,i,l,fs,rfl⟩⟩,N,S,s,W,λmain cs=>e2 main _⟩
  |cons x xs=>
   simp only[List.cons_append,List.cons.injEq]at H hr
   obtain⟨rfl,rfl⟩:=H
   obtain⟨rfl,rfl⟩:=hr
   have Gw:=hx (by simp)
   obtain rfl|⟨rfl,_⟩:=y
   .cases z with
    |nil=>
     have D:∀main (Y:Z_) (u:o_),stepG P main (G (Frame.mk t U [] d0 .run I none) Y) u=.go (G (Frame.mk t U [] d0 .returning I none) Y) u #[]:=λmain Y u=>by simp[G,stepG,stepG.exec]
     rw[D]at E
     injection E with a1 a2 a3
     simp only[G,Goroutine.mk.injEq]at a1
     obtain⟨rfl,rfl,_⟩:=a1
     subst a2 a3
     exact⟨_,_,v',_,_,_,_,J,⟨_::xs,fn,tmps,a,m,rfl,rfl,Q,j,λ_=>Gw⟩,N,S,s,W,λmain cs=>D main _ _⟩
    |cons it fs=>
     have R:=Y8 (L:=L) (b:=kY t) (pf:=p t) (P:=P) (fn:=t) (Ep:=t) (tmps:=U) (it:=it) (fs:=fs) (A:=[]) (B:=[]) (dl:=d0) (ds:=d0) (kl:=I) (kd:=I) (X:=xs++[Frame.mk fn tmps (a++[MV]) [] m .normal none]) (w:=w) (w':=w') (es:=es) (λ_=>rfl) hke hke (λ_=>rfl) (h5 it (by simp)) (λid g e=>hd ⟨rfl,id,g,_,by rw[e]⟩)
      (by rw[List.append_nil];exact Ο it fs rfl rfl) (by rw[List.append_nil];exact E)
     simp only[List.append_nil]at R
     obtain⟨t',MI,m',df,hdf,hm',e1,e2⟩|⟨f,args,_,e1,e2⟩:=R
     .simp only[G,Goroutine.mk.injEq]at e1;obtain⟨rfl,rfl,_⟩:=e1;exact⟨_,_,v',_,_,w',es,J,⟨_::xs,fn,tmps,a,m,rfl,rfl,Q,j,λ_=>Gw⟩,N,S,s,W,λmain cs=>e2 main _⟩
     .simp only[G,Goroutine.mk.injEq]at e1;obtain⟨rfl,rfl,_⟩:=e1;exact⟨_,_,v',_,_,w',es,J,⟨_::_::xs,fn,tmps,a,m,rfl,rfl,Q,j,λ_=>Gw⟩,N,S,s,W,λmain cs=>e2 main _⟩
   .cases d0 with
    |cons d ds'=>
     obtain⟨f,cap,yz,hLf⟩:=h2' d (List.mem_cons_self ..)
     obtain⟨fnb,cb,JG,Hz,hb3,_⟩:=F.body f hLf
     obtain⟨tg,ar⟩:=d
     simp only at yz
     subst yz
     have hinv:∀u:o_,(invoke (.fn (.func f) cap) ar).runT P u #[]=(.ok (.enter f (ar++cap)) u,#[]):=λu=>by
      simp only[invoke,callFunc,program,bind,Sem.bind,Sem.runT,JG,Hz,hb3,pure]
      rfl
     have D:∀main (Y:Z_) (u:o_),stepG P main (G (Frame.mk t U z (⟨.fn (.func f) cap,ar⟩::ds') .returning I none) Y) u=
       .go (G (Frame.enter P f (ar++cap) .deferred) (Frame.mk t U z ds' .returning I none::Y)) u #[]:=λmain Y u=>by
      simp only[G,stepG,unwind,callDeferred,hinv,GStep.after]
      simp[seen]
     rw[D]at E
     injection E with a1 a2 a3
     simp only[G,Goroutine.mk.injEq]at a1
     obtain⟨rfl,rfl,_⟩:=a1
     subst a2 a3
     exact⟨_,_,v',_,_,_,_,J,⟨_::_::xs,fn,tmps,a,m,rfl,rfl,Q,j,λ_=>Gw⟩,N,S,s,W,λmain cs=>D main _ _⟩
    |nil=>
     obtain⟨fn0,hf0,_⟩:=hfn
     cases IY:(results fn0 U).runT P w #[]with
     |mk r Nw=>
      cases r with
      |halt hh w1=>
       exfalso
       cases xs<;>(simp only[G,stepG,unwind,hf0,IY,List.nil_append,List.cons_append]at E;cases hh<;>simp[GStep.after]at E)
      |ok x w1=>
       have D:∀main (c:Frame) (Y:Z_),I=.normal->stepG P main (G (Frame.mk t U z [] .returning I none) (c::Y)) w=.go (G (c.finish x) Y) w1 (seen P t Nw):=λmain c Y O=>by
        subst O
        simp only[G,stepG,unwind,hf0,IY,doReturn,GStep.after,Array.append_empty]
       have hs2:∀main (c:Frame) (Y:Z_),I=.deferred->(c.mode=.returning\/Na c)->stepG P main (G (Frame.mk t U z [] .returning I none) (c::Y)) w=.go (G c Y) w1 (seen P t Nw):=λmain c Y O K=>by
        subst O
        obtain K|⟨⟨pv,rc,ge⟩,b,e,e1,e2⟩:=K
        .simp only[G,stepG,unwind,hf0,IY,doReturn,GStep.after,Array.append_empty,K]
        .simp only at e1 e2;subst e1 e2;simp only[G,stepG,unwind,hf0,IY,doReturn,GStep.after,Array.append_empty,e]
       cases xs with
       |nil=>
        obtain⟨rfl,g,i,l,fs,rfl⟩:=Gw
        obtain⟨_,hcm,_⟩:=hbel
        have O:I=.normal:=by
         obtain⟨e,_⟩|⟨_,e|⟨_,_,e,_⟩⟩:=hcm
         .exact e
         .cases e
         .cases e
        rw[List.nil_append,D _ _ _ O]at E;injection E with a1 a2 a3;simp only[G,Goroutine.mk.injEq]at a1;obtain⟨rfl,rfl,_⟩:=a1;subst a2 a3;exact⟨_,_,v',_,_,_,_,J,⟨[],fn,_,.inRegion g l::fs,.run,rfl,rfl,Q,j,λh=>(h rfl).elim⟩,N,S,s,W,λmain cs=>D main _ _ O⟩
       |cons c xs=>
        obtain⟨_,hcm,_⟩:=hbel
        simp only at hcm
        obtain⟨O,_⟩|⟨O,K⟩:=hcm
        .rw[List.cons_append,D _ _ _ O]at E;injection E with a1 a2 a3;simp only[G,Goroutine.mk.injEq]at a1;obtain⟨rfl,rfl,_⟩:=a1;subst a2 a3;exact⟨_,_,v',_,_,_,_,J,⟨_::xs,fn,tmps,a,m,rfl,rfl,Q,j,λ_=>Gw⟩,N,S,s,W,λmain cs=>D main _ _ O⟩
        .rw[List.cons_append,hs2 _ _ _ O K]at E;injection E with a1 a2 a3;simp only[G,Goroutine.mk.injEq]at a1;obtain⟨rfl,rfl,_⟩:=a1;subst a2 a3;exact⟨_,_,v',_,_,_,_,J,⟨_::xs,fn,tmps,a,m,rfl,rfl,Q,j,λ_=>Gw⟩,N,S,s,W,λmain cs=>hs2 main _ _ O K⟩
end
def AtEnd (Q:Exit->Act->o_->Prop) (f:h_) (fr:Frame) (pre:Z_) (v:o_):Prop:=
 pre=[]/\∃tmps τ d,(fr=Frame.mk f tmps [MV] [] .run .normal none/\Q .normal ⟨tmps,[]⟩ (v.re τ d))\/(∃todo,fr=Frame.mk f tmps todo [] .returning .normal none/\Q .ret ⟨tmps,[]⟩ (v.re τ d))
def YU (L:h_->Prop) (N:Fence) (f:h_):Prop:=N.fn f/\L f/\kY f=false
section
variable {P:l_} {L:h_->Prop} {p:h_->Oper->Bool} {Z:Nat->Prop}
theorem kK {Q:Exit->Act->o_->Prop} {f:h_}:rY (AtEnd Q f):=by
 rintro g pre v w a b c ⟨e1,t,τ,d,e⟩;have:w.re τ d=v.re τ d:=by
  unfold World.re
  rw[a,b,c]
 exact⟨e1,t,τ,d,by rw[this];exact e⟩
theorem Zp (F:Fine P L p) {N:Fence} (hal:N.alive=true) (hdp:N.depth=none) (hro:N.round=none) (hfn:∀f,N.fn f->L f\/Ext P f) {f:h_} (hf:YU L N f) {n:Nat} {c:Code} (hc:c.BC (p f)=true) {tmps:X_} {v:o_}
  (hp:∀(r:Nat) (o:Obj),v.heap[r]?=some o->o.plain=true) {Q:Exit->Act->o_->Prop} (hQ:∀e a w,Q e a w->(e=.normal\/e=.ret)/\a.defers=[])
  (H:∀τ d,c.wpIn N n P Q ⟨tmps,[]⟩ (v.re τ d)):Fin P L p (AtEnd Q f) (Frame.mk f tmps [.code c,MV] [] .run .normal none) [] v:=by
 refine qV F kK λτ d=>?_
 obtain⟨e,t,h,l,b⟩:=H τ d (Frame.mk f tmps [] [] .run .normal none) [MV] [] hro.symm hf.1 (λ_ i=>by rw[hdp]at i;cases i);obtain⟨j,B,k,_,_⟩:=F.body f hf.2.1;have m:Fg P L p (Frame.mk f tmps [.code c,MV] [] .run .normal none):=⟨⟨j,k,F.init f hf.2.1⟩,λ_=>rfl,λd i=>(by cases i),.inl rfl,rfl,λC q=>by
  simp only[r_,List.not_mem_nil,or_false]at q
  obtain rfl|rfl:=q
  .exact hc
  .rfl⟩
 obtain⟨z,s⟩:=hQ e t h l;obtain⟨u,y⟩:=t;simp only at s;subst s;obtain rfl|rfl:=z
 .exact tV F hal hfn b rfl rfl (λx=>by simp[Frame.atR]) ⟨rfl,u,h.tape,h.drawn,.inl ⟨rfl,l⟩⟩ m ⟨hf.2.2,rfl⟩ (.inl rfl) hp
 .obtain⟨g,A⟩:=b.1 rfl;exact tV F hal hfn A rfl rfl (λx=>by simp) ⟨rfl,u,h.tape,h.drawn,.inr ⟨g,rfl,l⟩⟩ m ⟨hf.2.2,rfl⟩ (.inl rfl) hp
def Beside (Od:Old) (P:l_) (Ac:Loc->Prop) (Z:Nat->Prop) (B:Nat) (v:o_) (gs:Array m_) (w:o_) (t:Trace):Prop:=
 ∃q,Twin Od Z v w/\(∀r,Z r->r<v.heap.size)/\Leavers P t gs q/\Past Ac B t/\w.heap.size<=B
theorem jw {Od:Old} {Ac:Loc->Prop} (F:Fine P L p) (hu:F9 Ac Z) {Ep:h_} {kd:CallKind} (hkd:(kd==CallKind.early)=false) {k:List Item} {ds:List Deferred} {S:Frame->Z_->o_->Prop} {fr:Frame} {pre:Z_} {v:o_} (h:Fin P L p S fr pre v):
  ∀(rf:Frame) (rs:Z_) (gs:Array m_) (w:o_) (sl:d_ (W_)) (t:Trace) (B:Nat) (cs:Z_),EU P Ep kd k ds (fr::pre) (rf::rs)->Beside Od P Ac Z B v gs w t->gs[0]?=some (G rf (rs++cs))->
   AO P gs w sl t λBg w' t'=>∃Ei CQ v' PE rs' B',Bg[0]?=some (G PE (rs'++cs))/\EU P Ep kd k ds (Ei::CQ) (PE::rs')/\S Ei CQ v'/\v.heap.size<=v'.heap.size/\B<=B'/\Beside Od P Ac Z B' v' Bg w' t':=by
 refine h (fun fr pre v=>∀(rf:Frame) (rs:Z_) (gs:Array m_) (w:o_) (sl:d_ (W_)) (t:Trace) (B:Nat) (cs:Z_),EU P Ep kd k ds (fr::pre) (rf::rs)->Beside Od P Ac Z B v gs w t->gs[0]?=some (G rf (rs++cs))->
   AO P gs w sl t λBg w' t'=>∃Ei CQ v' PE rs' B',Bg[0]?=some (G PE (rs'++cs))/\EU P Ep kd k ds (Ei::CQ) (PE::rs')/\S Ei CQ v'/\v.heap.size<=v'.heap.size/\B<=B'/\Beside Od P Ac Z B' v' Bg w' t') ?_ ?_
 .intro fr pre v hS rf rs gs w sl t B cs f e j;exact .now ⟨fr,pre,v,rf,rs,B,j,f,hS,w_ _,w_ _,e⟩
 .intro fr pre v R rf rs gs w sl t B cs f e j;obtain⟨q,T,I,hL,hP,hB⟩:=e;obtain⟨N,g,a1,w1,Q,t1,q1,C,z,hs,h1,⟨O,Y,W,v1,b,c,rfl,St1,U,u,y,m⟩,o,s,l⟩:=VA (P:=P) (Ac:=Ac)
   (K:=λV w'=>∃Ei CQ v' PE rs',V=G PE (rs'++cs)/\EU P Ep kd k ds (Ei::CQ) (PE::rs')/\Twin Od Z v' w'/\(∀r,Z r->r<v'.heap.size)/\v.heap.size<=v'.heap.size/\
    ∀(rf:Frame) (rs:Z_) (gs:Array m_) (w:o_) (sl:d_ (W_)) (t:Trace) (B:Nat) (cs:Z_),EU P Ep kd k ds (Ei::CQ) (rf::rs)->Beside Od P Ac Z B v' gs w t->gs[0]?=some (G rf (rs++cs))->
   AO P gs w sl t λBg w' t'=>∃J E a PE rs' B',Bg[0]?=some (G PE (rs'++cs))/\EU P Ep kd k ds (J::E) (PE::rs')/\S J E a/\v'.heap.size<=a.heap.size/\B<=B'/\Beside Od P Ac Z B' a Bg w' t')
   (sumTo gs.size q) gs (G rf (rs++cs)) w sl t q B (w_ _) j rfl hL hP (λd=>by
    obtain⟨Ei,CQ,v',PE,rs',w',X,m,St',D,H,_,M,hw⟩:=Y6 F hkd (w:=w.at d) f (T.Rz v.tape w.tape v.drawn d) I R
    refine⟨G PE (rs'++cs),w',X,max B v'.heap.size,hw true cs,Nat.le_max_left ..,λx hx=>au hu (Nat.le_max_right ..) (M x hx),?_,Ei,CQ,v',PE,rs',rfl,St',D,λr z=>Nat.lt_of_lt_of_le (I r z) H,H,m⟩
    rw[<-D.size];exact Nat.le_max_right ..);have n:AO P gs w sl t λBg w' t'=>Bg[0]?=some (G b (c++cs))/\Beside Od P Ac Z C v1 Bg w' t':=⟨N,g,w1,Q,t1,z,hs,h1,q1,U,u,o,s,O⟩
  refine n.bind λi w2 A t2 _ ⟨k1,k2⟩=>?_
  exact(m b c i w2 A t2 C cs St1 k2 k1).mono λBg w' t' ⟨Ei,CQ,v',PE,rs',B',j1,j2,j3,j4,j5,j6⟩=>⟨Ei,CQ,v',PE,rs',B',j1,j2,j3,Nat.le_trans y j4,Nat.le_trans l j5,j6⟩
theorem Ϟ {Od:Old} {Ac Still:Loc->Prop} {Mem Ak:Nat->Prop} {h j:Nat} {By:Nat->m_->o_->Trace->Prop} (F:Fine P L p) (hu:F9 Ac Z) (BX:F9 Still Z) (O:Gx P Z Ac Still (fun B t=>PX Ac Still Mem Ak B h t) j By) {Ep:h_} {kd:CallKind} (hkd:(kd==CallKind.early)=false) {k:List Item} {ds:List Deferred}
  {S:Frame->Z_->o_->Prop} {fr:Frame} {pre:Z_} {v:o_} (H:Fin P L p S fr pre v):
  ∀(rf:Frame) (rs:Z_) (gs:Array m_) (w:o_) (sl:d_ (W_)) (t:Trace) (q:Nat->Nat) (n B:Nat) (cs:Z_),EU P Ep kd k ds (fr::pre) (rf::rs)->Twin Od Z v w->(∀r,Z r->r<v.heap.size)->gs[h]?=some (G rf (rs++cs))->Duo P Ac Still Mem Ak B h j By n gs w t q->
   AO P gs w sl t λBg w' t'=>∃q' n' B' Ei CQ v' PE rs',Bg[h]?=some (G PE (rs'++cs))/\EU P Ep kd k ds (Ei::CQ) (PE::rs')/\S Ei CQ v'/\Twin Od Z v' w'/\(∀r,Z r->r<v'.heap.size)/\v.heap.size<=v'.heap.size/\B<=B'/\Duo P Ac Still Mem Ak B' h j By n' Bg w' t' q':=by
 refine H (fun fr pre v=>∀(rf:Frame) (rs:Z_) (gs:Array m_) (w:o_) (sl:d_ (W_)) (t:Trace) (q:Nat->Nat) (n B:Nat) (cs:Z_),EU P Ep kd k ds (fr::pre) (rf::rs)->Twin Od Z v w->(∀r,Z r->r<v.heap.size)->gs[h]?=some (G rf (rs++cs))->Duo P Ac Still Mem Ak B h j By n gs w t q->
   AO P gs w sl t λBg w' t'=>∃q' n' B' Ei CQ v' PE rs',Bg[h]?=some (G PE (rs'++cs))/\EU P Ep kd k ds (Ei::CQ) (PE::rs')/\S Ei CQ v'/\Twin Od Z v' w'/\(∀r,Z r->r<v'.heap.size)/\v.heap.size<=v'.heap.size/\B<=B'/\Duo P Ac Still Mem Ak B' h j By n' Bg w' t' q') ?_ ?_
 .intro fr pre v hS rf rs gs w sl t q n B cs e T b i D;exact .now ⟨q,n,B,fr,pre,v,rf,rs,i,e,hS,T,b,w_ _,w_ _,D⟩
 .intro fr pre v V rf rs gs w sl t q n B cs e T b i D;obtain⟨N,f,a1,w1,U,t1,q1,n1,E,z,hs,h1,⟨fr1,Y,v1,c,d,rfl,St1,W,s,y,m⟩,l,Q⟩:=aZ O
   (yM:=λX w'=>∃Ei CQ v' PE rs',X=G PE (rs'++cs)/\EU P Ep kd k ds (Ei::CQ) (PE::rs')/\Twin Od Z v' w'/\(∀r,Z r->r<v'.heap.size)/\v.heap.size<=v'.heap.size/\
    ∀(rf:Frame) (rs:Z_) (gs:Array m_) (w:o_) (sl:d_ (W_)) (t:Trace) (q:Nat->Nat) (n B:Nat) (cs:Z_),EU P Ep kd k ds (Ei::CQ) (rf::rs)->Twin Od Z v' w->(∀r,Z r->r<v'.heap.size)->gs[h]?=some (G rf (rs++cs))->Duo P Ac Still Mem Ak B h j By n gs w t q->
   AO P gs w sl t λBg w' t'=>∃q' n' B' M J a PE rs',Bg[h]?=some (G PE (rs'++cs))/\EU P Ep kd k ds (M::J) (PE::rs')/\S M J a/\Twin Od Z a w'/\(∀r,Z r->r<a.heap.size)/\v'.heap.size<=a.heap.size/\B<=B'/\Duo P Ac Still Mem Ak B' h j By n' Bg w' t' q')
   (n+sumTo gs.size q) n gs (G rf (rs++cs)) w sl t q B (w_ _) i rfl D (λw1 A=>by
    obtain⟨Ei,CQ,v',PE,rs',w',es,m,St',I,K,u,R,hw⟩:=Y6 F hkd (w:=w1) e (T.off b A) b V
    refine⟨G PE (rs'++cs),w',es,max B v'.heap.size,hw (h==0) cs,Nat.le_max_left ..,λx hx=>ak1 hu BX (Nat.le_max_right ..) (R x hx),u,?_,Ei,CQ,v',PE,rs',rfl,St',I,λr z=>Nat.lt_of_lt_of_le (b r z) K,K,m⟩
    rw[<-I.size];exact Nat.le_max_right ..);have o:AO P gs w sl t λBg w' t'=>Bg[h]?=some (G c (d++cs))/\Twin Od Z v1 w'/\∃q' n',Duo P Ac Still Mem Ak E h j By n' Bg w' t' q':=⟨N,f,w1,U,t1,z,hs,h1,W,q1,n1,Q⟩
  refine o.bind λg w2 C t2 _ ⟨k1,k2,q2,n2,k3⟩=>?_
  exact(m c d g w2 C t2 q2 n2 E cs St1 k2 s k1 k3).mono λBg w' t' ⟨q',n',B',Ei,CQ,v',PE,rs',j1,j2,j3,j4,j5,j6,j7,j8⟩=>⟨q',n',B',Ei,CQ,v',PE,rs',j1,j2,j3,j4,j5,Nat.le_trans y j6,Nat.le_trans l j7,j8⟩
end
end Go.Fxa
namespace Go.Fxa
open Go.Conc
theorem Twin.kill {Od:Old} {Z Z':Nat->Prop} {v w:o_} (T:Twin Od Z v w) (hz:∀r,Z r->Z' r) (hno:∀r,Z' r->¬Od.dead r):∃v',Twin Od Z' v' w/\v'.heap.size=v.heap.size/\(∀r,¬Z' r->v'.heap[r]?=v.heap[r]?)/\v'.os=v.os/\v'.output=v.output:=by
 classical
 refine⟨{ v with heap:=Array.ofFn (n:=v.heap.size) λi=>if Z' i then DK else v.heap[i] },⟨?_,λr b a=>?_,λr b g=>?_,λr o d=>?_,T.os,T.output,λr a=>?_,T.kept,λr a c=>hno r c a⟩,by simp,λr b=>?_,rfl,rfl⟩
 .simpa using T.size
 .rw[<-T.same r (λh=>b (hz r h)) a];by_cases h:r<v.heap.size<;>simp[h,b]
 .have:r<v.heap.size:=by simpa using g
  simp[this,b]
 .by_cases h:r<v.heap.size
  .by_cases f:Z' r
   .simp[h,f]at d;subst d;rfl
   .simp[h,f]at d;exact T.plain r o (by rw[v_ h,d])
  .simp[h]at d
 .have e:=T.JV r a;have h:=(y_.1 e).1;have b:¬Z' r:=λc=>hno r c a
  rw[v_ h]at e;simpa [h,b]using x_ e
 .by_cases h:r<v.heap.size<;>simp[h,b]
theorem Past.shun {Ac Oy:Loc->Prop} {B:Nat} {t:Trace} (h:Past Ac B t) (hs:∀l,Ac l->Oy l):Past Oy B t:=
 ⟨h.clean,λi a b c=>(h.known i a b c).imp id λx=>⟨hs _ x.1,x.2⟩,h.over,h.hears,h.seen⟩
end Go.Fxa
namespace Go.Fxa
open Go.Conc
open Go.ConcN (sumTo upd sumTo_upd upd_ne upd_same)
structure UC (P:l_) (L:h_->Prop) (p:h_->Oper->Bool) (N:Fence):Prop where
 EJ:Fine P L p
 alive:N.alive=true
 depth:N.depth=none
 round:N.round=none
 fn:∀f,N.fn f->L f\/Ext P f
def Behind (Ep:h_) (kd:CallKind) (k:List Item) (ds:List Deferred) (cs:Z_) (Q:Exit->Act->o_->Prop) (g:m_) (v:o_):Prop:=
 ∃tmps τ d,(g=G (Frame.mk Ep tmps k ds .run kd none) cs/\Q .normal ⟨tmps,[]⟩ (v.re τ d))\/(∃todo,g=G (Frame.mk Ep tmps todo ds .returning kd none) cs/\Q .ret ⟨tmps,[]⟩ (v.re τ d))
section
variable {P:l_} {L:h_->Prop} {p:h_->Oper->Bool} {N:Fence} {Z:Nat->Prop} {Ac Still:Loc->Prop} {f Ep:h_} {kd:CallKind} {k:List Item} {ds:List Deferred} {Q:Exit->Act->o_->Prop} {c:Code} {tmps:X_} {v:o_} {m:Nat}
theorem Zy {fr rf:Frame} {pre rs cs:Z_} (hS:AtEnd Q f fr pre v) (St:EU P Ep kd k ds (fr::pre) (rf::rs)):Behind Ep kd k ds cs Q (G rf (rs++cs)) v:=by
 obtain⟨rfl,t,τ,d,h⟩:=hS;obtain⟨xs,fn,n,b,m,c,g,_,_,_⟩:=St;cases xs with
 |cons x xs=>simp at c
 |nil=>
  simp only[List.nil_append,List.cons.injEq,and_true]at c g
  obtain⟨g,rfl⟩:=g
  subst g
  obtain⟨rfl,i⟩|⟨j,rfl,i⟩:=h
  .simp only[Frame.mk.injEq]at c;obtain⟨_,rfl,e,_,rfl,_⟩:=c;have:b=[]:=by
    cases b with
    |nil=>rfl
    |cons a l=>simp at e
   subst this;exact⟨t,τ,d,.inl ⟨rfl,i⟩⟩
  .simp only[Frame.mk.injEq]at c;obtain⟨_,rfl,e,_,rfl,_⟩:=c;exact⟨t,τ,d,.inr ⟨_,rfl,i⟩⟩
theorem Ri (hf:kY f=false) (hq:∀es,seen P Ep es=seen P f es) (c:Code) (tmps:X_):EU P Ep kd k ds [Frame.mk f tmps [.code c,MV] [] .run .normal none] [Frame.mk Ep tmps (.code c::k) ds .run kd none]:=
 ⟨[],f,tmps,[.code c],.run,rfl,rfl,hq,hf,λh=>(h rfl).elim⟩
theorem LK {Od:Old} (FN:UC P L p N) (hu:F9 Ac Z) (hf:YU L N f) (hq:∀es,seen P Ep es=seen P f es) (hkd:(kd==CallKind.early)=false) (hc:c.BC (p f)=true) (hQ:∀e a w,Q e a w->(e=.normal\/e=.ret)/\a.defers=[])
  (H:∀τ d,c.wpIn N m P Q ⟨tmps,[]⟩ (v.re τ d)) {gs:Array m_} {w:o_} {sl:d_ (W_)} {t:Trace} {B:Nat} {cs:Z_} (Bs:Beside Od P Ac Z B v gs w t) (h0:gs[0]?=some (G (Frame.mk Ep tmps (.code c::k) ds .run kd none) cs)):
  AO P gs w sl t λBg w' t'=>∃g v' B',Bg[0]?=some g/\Behind Ep kd k ds cs Q g v'/\v.heap.size<=v'.heap.size/\B<=B'/\Beside Od P Ac Z B' v' Bg w' t':=by
 have T:=Bs.choose_spec.1;have b:=Zp FN.EJ FN.alive FN.depth FN.round FN.fn hf hc T.plain hQ H;refine(jw FN.EJ hu hkd b _ [] gs w sl t B cs (Ri hf.2.2 hq c tmps) Bs h0).mono λBg w' t' ⟨s,r,v',u,q,B',h,i,j,l,n,o⟩=>?_
 exact⟨_,v',B',h,Zy j i,l,n,o⟩
theorem wR {Od:Old} {Mem Ak:Nat->Prop} {h j:Nat} {By:Nat->m_->o_->Trace->Prop} (FN:UC P L p N) (hu:F9 Ac Z) (BX:F9 Still Z) (O:Gx P Z Ac Still (fun B t=>PX Ac Still Mem Ak B h t) j By) (hf:YU L N f) (hq:∀es,seen P Ep es=seen P f es) (hkd:(kd==CallKind.early)=false) (hc:c.BC (p f)=true)
  (hQ:∀e a w,Q e a w->(e=.normal\/e=.ret)/\a.defers=[]) (H:∀τ d,c.wpIn N m P Q ⟨tmps,[]⟩ (v.re τ d))
  {gs:Array m_} {w:o_} {sl:d_ (W_)} {t:Trace} {q:Nat->Nat} {n B:Nat} {cs:Z_} (T:Twin Od Z v w) (hZ:∀r,Z r->r<v.heap.size) (h0:gs[h]?=some (G (Frame.mk Ep tmps (.code c::k) ds .run kd none) cs)) (D:Duo P Ac Still Mem Ak B h j By n gs w t q):
  AO P gs w sl t λBg w' t'=>∃q' n' B' g v',Bg[h]?=some g/\Behind Ep kd k ds cs Q g v'/\Twin Od Z v' w'/\(∀r,Z r->r<v'.heap.size)/\v.heap.size<=v'.heap.size/\B<=B'/\Duo P Ac Still Mem Ak B' h j By n' Bg w' t' q':=by
 have b:=Zp FN.EJ FN.alive FN.depth FN.round FN.fn hf hc T.plain hQ H;refine(Ϟ FN.EJ hu BX O hkd b _ [] gs w sl t q n B cs (Ri hf.2.2 hq c tmps) T hZ h0 D).mono λBg w' t' ⟨q',n',B',E,C,v',F,A,i,l,o,s,u,x,y,z⟩=>?_
 exact⟨q',n',B',_,v',i,Zy o l,s,u,x,y,z⟩
end
def Dt (I:o_->Prop):Prop:=∀v τ d,I v->I (v.re τ d)
theorem Dt.back {I:o_->Prop} (h:Dt I) {v:o_} {τ:Tape} {d:Nat} (hv:I (v.re τ d)):I v:=by
 have:=h (v.re τ d) v.tape v.drawn hv;exact this
def Holds (Od:Old) (P:l_) (Z:Nat->Prop) (Ac Still:Loc->Prop) (Mem Ak:Nat->Prop) (h j:Nat) (By:Nat->m_->o_->Trace->Prop) (C:m_->o_->Prop) (gs:Array m_) (w:o_) (t:Trace):Prop:=
 ∃q n B g v,gs[h]?=some g/\C g v/\Twin Od Z v w/\(∀r,Z r->r<v.heap.size)/\Duo P Ac Still Mem Ak B h j By n gs w t q
section
variable {P:l_} {L:h_->Prop} {p:h_->Oper->Bool} {N:Fence} {Z:Nat->Prop} {Ac Still:Loc->Prop} {Mem Ak:Nat->Prop} {h j:Nat} {By:Nat->m_->o_->Trace->Prop} {C C':m_->o_->Prop} {gs:Array m_} {w:o_} {sl:d_ (W_)} {t:Trace}
theorem Holds.mono {Od:Old} (H:Holds Od P Z Ac Still Mem Ak h j By C gs w t) (hc:∀g v,C g v->C' g v):Holds Od P Z Ac Still Mem Ak h j By C' gs w t:=by
 obtain⟨q,n,B,g,v,a,b,c⟩:=H;exact⟨q,n,B,g,v,a,hc g v b,c⟩
theorem Holds.walk {Od:Old} {S0:Loc->Prop} {K:o_->Prop} {k:Nat} {a a':m_} {J:o_->Prop} (hJ:∀n b w t,By n b w t->∀d,K (w.at d)) (BX:∀w a,K w->S0 (.cell a)->a.block<w.heap.size) (hSS:∀l,S0 l->¬Ac l) (O:Gx P Z Ac Still (fun B t=>PX Ac Still Mem Ak B h t) j By)
  (H:Holds Od P Z Ac Still Mem Ak h j By (λg v=>g=a/\J v) gs w t) (hw:RW P (h==0) K S0 k a a'):AO P gs w sl t (Holds Od P Z Ac Still Mem Ak h j By (λg v=>g=a'/\J v)):=by
 obtain⟨q,n,B,g,v,f,⟨rfl,i⟩,m,c,o⟩:=H;exact(l7 hJ BX hSS O k hw f o).mono λy A z ⟨x,u,e,p,r,_,s⟩=>⟨x,u,e,_,v,p,⟨rfl,i⟩,m.off c r,c,s⟩
theorem Holds.Si {Od:Old} {K:o_->Prop} {k:Nat} {a a':m_} {J:o_->Prop} (hJ:∀n b w t,By n b w t->∀d,K (w.at d)) (O:Gx P Z Ac Still (fun B t=>PX Ac Still Mem Ak B h t) j By)
  (H:Holds Od P Z Ac Still Mem Ak h j By (λg v=>g=a/\J v) gs w t) (hw:Kr P K (h==0) k a a'):AO P gs w sl t (Holds Od P Z Ac Still Mem Ak h j By (λg v=>g=a'/\J v)):=by
 obtain⟨q,n,B,g,v,f,⟨rfl,i⟩,l,c,m⟩:=H;exact(G9 hJ O k hw f m).mono λx z y ⟨u,s,e,o,p,_,r⟩=>⟨u,s,e,_,v,o,⟨rfl,i⟩,l.off c p,c,r⟩
theorem Holds.piece {Od:Old} {f Ep:h_} {kd:CallKind} {k:List Item} {ds:List Deferred} {Q:Exit->Act->o_->Prop} {c:Code} {tmps:X_} {m:Nat} {cs:Z_} {J:o_->Prop} (FN:UC P L p N) (hu:F9 Ac Z) (BX:F9 Still Z) (O:Gx P Z Ac Still (fun B t=>PX Ac Still Mem Ak B h t) j By) (hf:YU L N f) (hq:∀es,seen P Ep es=seen P f es) (hkd:(kd==CallKind.early)=false) (hc:c.BC (p f)=true)
  (hQ:∀e a w,Q e a w->(e=.normal\/e=.ret)/\a.defers=[]) (hw:∀v,J v->∀τ d,c.wpIn N m P Q ⟨tmps,[]⟩ (v.re τ d))
  (H:Holds Od P Z Ac Still Mem Ak h j By (λg v=>g=G (Frame.mk Ep tmps (.code c::k) ds .run kd none) cs/\J v) gs w t):AO P gs w sl t (Holds Od P Z Ac Still Mem Ak h j By (Behind Ep kd k ds cs Q)):=by
 obtain⟨q,n,B,g,v,i,⟨rfl,l⟩,o,r,s⟩:=H;exact(wR FN hu BX O hf hq hkd hc hQ (hw v l) o r i s).mono λF K I ⟨D,C,b,g,E,u,x,y,z,_,_,A⟩=>⟨D,C,b,g,E,u,x,y,z,A⟩
end
end Go.Fxa
