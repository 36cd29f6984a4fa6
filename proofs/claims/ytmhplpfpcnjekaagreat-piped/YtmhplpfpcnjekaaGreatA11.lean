/- The child's walks, put togethe -/
import Derived.Test.YtmhplpfpcnjekaaGreatA10
namespace Go.Fxa
open Go.Conc
theorem Rq (x:Frame×Z_) (v:n_):Conc.served (BD x) v=BD (BB x v):=rfl
structure Rf (K:o_->Prop) (Still:Loc->Prop) (b5 b2 b3 r q0 q1 q2 q3:Nat) (sv:n_) (n:Int):Prop where
 c5:∀w,K w->w.cell? (S_ b5)=some (pr r)
 s5:Still (.cell (S_ b5))
 c2:∀w,K w->w.cell? (S_ b2)=some sv
 s2:Still (.cell (S_ b2))
 c3:∀w,K w->w.cell? (S_ b3)=some (b_ n)
 s3:Still (.cell (S_ b3))
 r0:∀w,K w->w.cell? (S_ r)=some (DI q0)
 t0:Still (.cell (S_ r))
 r1:∀w,K w->w.cell? (T_ r 1)=some (DI q1)
 t1:Still (.cell (T_ r 1))
 r2:∀w,K w->w.cell? (T_ r 2)=some (DI q2)
 t2:Still (.cell (T_ r 2))
 r3:∀w,K w->w.cell? (T_ r 3)=some (DI q3)
 t3:Still (.cell (T_ r 3))
theorem Ur {x:Frame×Z_}:∀{l:List (Nat×n_)},slotsOf x (l.map (·.1))=l.map (·.2)->AL (slot x) l=slot x
 |l,h=>MC λp b=>by
  induction l with
  |nil=>cases b
  |cons a l c=>
   simp only[List.map_cons,slotsOf,List.cons.injEq]at h
   obtain rfl|b:=r_.1 b
   .exact h.1
   .exact c h.2 b
theorem at_told {x:Frame×Z_} {fn:h_} {todo:List Item} {Y:Z_} {l:List (Nat×n_)} (h:CU x=(fn,todo,[],.run,.normal,none,Y)) (hs:slotsOf x (l.map (·.1))=l.map (·.2)) (hz:x.1.tmps.size=32):
  x=(Frame.mk fn (qy (AL (slot x) l)) todo [] .run .normal none,Y):=by
 rw[Ur hs];exact vP h hz
section
variable {P:l_} {K:o_->Prop} {Still:Loc->Prop} {main:Bool} {b5 b2 b3 r q0 q1 q2 q3:Nat} {sv:n_} {n:Int}
theorem iY (F:Eb P b5 b2 b3 r q0 q1 q2 q3 sv n) (R:Rf K Still b5 b2 b3 r q0 q1 q2 q3 sv n):
  ∃f,RW P main K Still 21 (BD (ch0 P b5 b2 b3)) (BD (LH P (AL f (sl4 r sv n 0)) (TQ P b5 b2 b3 r sv n))):=by
 have h:RW P main K Still 21 (BD (ch0 P b5 b2 b3)) (BD (run P 9 (ch5 P b5 b2 b3 r sv n))):=((((((RW.Ar (main:=main) (K:=K) (Still:=Still) F.f01).trans (RW.at F.f02 R.c5 R.s5)).trans (RW.Ar F.f03)).trans (RW.at F.f04 R.c5 R.s5)).trans (RW.at F.f05 R.c2 R.s2)).trans (RW.at F.f06 R.c3 R.s3)).trans (RW.Ar F.f07);have e:=at_told (l:=sl4 r sv n 0) F.f08 F.f09 F.f10;refine⟨slot (run P 9 (ch5 P b5 b2 b3 r sv n)),?_⟩;rw[e]at h;exact h
theorem pM (F:Eb P b5 b2 b3 r q0 q1 q2 q3 sv n) (f:Y_) (Y:Z_) {i:Int} (hi:i<n):
  ∃f',RW P main K Still 10 (BD (LH P (AL f (sl4 r sv n i)) Y)) (BD (Frame.mk 136 (qy (AL f' (sl4 r sv n i))) (.code (Vk P)::yz P) [] .run .normal none,Y)):=by
 have a:=F.l2 f Y i;rw[decide_eq_true hi]at a;have h:RW P main K Still 10 (BD (LH P (AL f (sl4 r sv n i)) Y)) (BD (lr P (AL f (sl4 r sv n i)) Y)):=((RW.Ar (main:=main) (K:=K) (Still:=Still) (F.l1 f Y i)).trans (RW.Zp (fD a))).trans (RW.Ar (F.l3 f Y i));have e:=at_told (l:=sl4 r sv n i) (F.l4 f Y i) (F.l5 f Y i) (F.l6 f Y i);refine⟨slot (lr P (AL f (sl4 r sv n i)) Y),?_⟩;rw[e]at h;exact h
theorem ϝ (F:Eb P b5 b2 b3 r q0 q1 q2 q3 sv n) (f:Y_) (Y:Z_) (i:Int) (x:n_):
  ∃f',RW P main K Still 28 (BD (RB P (AL f (sl6 r sv n i 0 x)) Y)) (BD (LH P (AL f' (sl4 r sv n (IntKind.i64.wrap (i+1)))) Y)):=by
 have h:=RW.Ar (main:=main) (K:=K) (Still:=Still) (F.s01 f Y i x);have e:=at_told (l:=sl4 r sv n (IntKind.i64.wrap (i+1))) (F.s02 f Y i x) (F.s03 f Y i x) (F.s04 f Y i x);refine⟨slot (run P 28 (RB P (AL f (sl6 r sv n i 0 x)) Y)),?_⟩;rw[e]at h;exact h
theorem iW (F:Eb P b5 b2 b3 r q0 q1 q2 q3 sv n) (R:Rf K Still b5 b2 b3 r q0 q1 q2 q3 sv n) (f:Y_) (Y:Z_) (i:Int) (x:n_):
  RW P main K Still 42 (BD (RB P (AL f (sl6 r sv n i 1 x)) Y)) (BD (k3 P q0 q3 (AL f (sl6 r sv n i 1 x)) Y)):=
 ((((RW.Ar (F.s11 f Y i x)).trans (RW.at (F.s12 f Y i x) R.r0 R.t0)).trans (RW.Ar (F.s13 f Y i x))).trans (RW.at (F.s14 f Y i x) R.r3 R.t3)).trans (RW.Ar (F.s15 f Y i x))
theorem pJ (F:Eb P b5 b2 b3 r q0 q1 q2 q3 sv n) (R:Rf K Still b5 b2 b3 r q0 q1 q2 q3 sv n) (f:Y_) (Y:Z_) (i:Int) (x:n_):
  Gs P main K Still (Gl q1 q3) .select (λg=>g=BD (m3 P q0 q1 q3 x (AL f (sl6 r sv n i 1 x)) Y)) 24 (Conc.served (BD (k3 P q0 q3 (AL f (sl6 r sv n i 1 x)) Y)) (commResult (bM q0 q3 x) .select 0 undef false)):=by
 have h:=((((RW.Ar (main:=main) (K:=K) (Still:=Still) (F.m11 f Y i x)).trans (RW.at (F.m12 f Y i x) R.r1 R.t1)).trans (RW.Ar (F.m13 f Y i x))).trans (RW.at (F.m14 f Y i x) R.r3 R.t3)).trans (RW.Ar (F.m15 f Y i x));exact RW.seat (k:=0) (home:=λg=>g=BD (m3 P q0 q1 q3 x (AL f (sl6 r sv n i 1 x)) Y)) (g':=BD (m3 P q0 q1 q3 x (AL f (sl6 r sv n i 1 x)) Y)) rfl ⟨_,#[],rfl,rfl,by simp,λw _=>IA (F.m16 f Y i x) w⟩ h
theorem iU (F:Eb P b5 b2 b3 r q0 q1 q2 q3 sv n) (f:Y_) (i:Int) (x:n_) {a b c d:n_}:
  J5 P (Dj r #[a,b,c,d] 257) main 37 (Conc.served (BD (m3 P q0 q1 q3 x (AL f (sl6 r sv n i 1 x)) (TQ P b5 b2 b3 r sv n))) (commResult (Gl q1 q3) .select 1 (.agg #[]) false)) (BD (dR P r (Q4 P b5 b2 b3 r sv n))):=
 FU (Gy) (F.q1_ f i x) (by simp)
theorem wF (F:Eb P b5 b2 b3 r q0 q1 q2 q3 sv n) (R:Rf K Still b5 b2 b3 r q0 q1 q2 q3 sv n) (f:Y_) (Y:Z_) (i:Int) (x:n_):
  RW P main K Still 31 (BD (RB P (AL f (sl6 r sv n i 2 x)) Y)) (BD (e3 P q2 q3 (AL f (sl6 r sv n i 2 x)) Y)):=
 ((((RW.Ar (F.e11 f Y i x)).trans (RW.at (F.e12 f Y i x) R.r2 R.t2)).trans (RW.Ar (F.e13 f Y i x))).trans (RW.at (F.e14 f Y i x) R.r3 R.t3)).trans (RW.Ar (F.e15 f Y i x))
theorem aN (F:Eb P b5 b2 b3 r q0 q1 q2 q3 sv n) (f:Y_) (i:Int) (x:n_) {a b c d:n_}:
  J5 P (Dj r #[a,b,c,d] 257) main 31 (Conc.served (BD (e3 P q2 q3 (AL f (sl6 r sv n i 2 x)) (TQ P b5 b2 b3 r sv n))) (commResult (Zh q2 q3 2) .select 0 undef false)) (BD (dR P r (Q4 P b5 b2 b3 r sv n))):=
 FU (Gy) (F.e17 f i x) (by simp)
theorem Vg (F:Eb P b5 b2 b3 r q0 q1 q2 q3 sv n) (R:Rf K Still b5 b2 b3 r q0 q1 q2 q3 sv n) (f:Y_) (Y:Z_) {i:Int} (hi:¬i<n):
  RW P main K Still 30 (BD (LH P (AL f (sl4 r sv n i)) Y)) (BD (d3 P q2 q3 (AL f (sl4 r sv n i)) Y)):=by
 have a:=F.l2 f Y i;rw[decide_eq_false hi]at a;exact((((((RW.Ar (F.l1 f Y i)).trans (RW.Zp (fD a))).trans (RW.Ar (F.d11 f Y i))).trans (RW.at (F.d12 f Y i) R.r2 R.t2)).trans (RW.Ar (F.d13 f Y i))).trans (RW.at (F.d14 f Y i) R.r3 R.t3)).trans (RW.Ar (F.d15 f Y i))
theorem XA (F:Eb P b5 b2 b3 r q0 q1 q2 q3 sv n) (f:Y_) (i:Int) {a b c d:n_}:
  J5 P (Dj r #[a,b,c,d] 257) main 31 (Conc.served (BD (d3 P q2 q3 (AL f (sl4 r sv n i)) (TQ P b5 b2 b3 r sv n))) (commResult (Zh q2 q3 0) .select 0 undef false)) (BD (dR P r (Q4 P b5 b2 b3 r sv n))):=
 FU (Gy) (F.d17 f i) (by simp)
end
end Go.Fxa
namespace Go.Fxa
open Go.Conc
open Go.ConcN (sumTo upd sumTo_upd upd_ne upd_same)
def Mc:Item:=.code (.refuse "")
theorem O0 {id:Nat} {A B:List Item} (hA:exitTo id A=none):∀{fs k':List Item},exitTo id (fs++A)=some k'->∃LK,k'=LK++A/\exitTo id (fs++B)=some (LK++B)
 |[],k',h=>by rw[List.nil_append,hA]at h;cases h
 |d::fs,k',h=>by
  cases d with
  |inBlock c=>
   simp only[List.cons_append,exitTo]at h ⊢
   split at h
   .rename_i a;obtain rfl:=x_ h;exact⟨fs,rfl,by rw[if_pos a]⟩
   .rename_i a;obtain⟨LK,e,b⟩:=O0 hA h;exact⟨LK,e,by rw[if_neg a];exact b⟩
  |_=>
   simp only[List.cons_append,exitTo]at h ⊢
   exact O0 hA h
section
variable {P:l_} {L:h_->Prop} {p:h_->Oper->Bool} {Z:Nat->Prop}
theorem YP {fn Ei:h_} (hq:∀es,seen P Ei es=seen P fn es) {tmps:X_} {it:Item} {fs A B:List Item} {dl ds:List Deferred} {kl kd:CallKind} {pf:Oper->Bool} {b:Bool} (hkl:(kl==CallKind.early)=false) (hkd:(kd==CallKind.early)=false) (hA:∀id,exitTo id A=none) (Ik:it.EC pf=true)
  (hdr:∀id ops,it≠.code (.region id ops true)) {w w':o_} {X:Z_} {g':m_} {es:Array Event}
  (hn:∀ops i rest o,it=.inRegion ops (i::rest)->ops[i]?=some o->Region.wanted o (yielded ops tmps)=true->∃n w1 MS,(execOp (Frame.mk fn tmps (it::(fs++A)) dl .run kl none).eval o).runT P w #[]=(.ok n w1,MS)/\ES L b n)
  (h:stepG P true (G (Frame.mk fn tmps (it::(fs++A)) dl .run kl none) X) w=.go g' w' es):
  (∃EY LK m df,(b=false->df=[])/\(m=.run\/m=.returning)/\g'=G (Frame.mk fn EY (LK++A) (df++dl) m kl none) X/\∀main Y,stepG P main (G (Frame.mk Ei tmps (it::(fs++B)) ds .run kd none) Y) w=.go (G (Frame.mk Ei EY (LK++B) (df++ds) m kd none) Y) w' es)\/
  (∃f args,(∃ops i rest,it=.inRegion ops (i::rest))/\g'=G (Frame.enter P f args .normal) (Frame.mk fn tmps (it::(fs++A)) dl .run kl none::X)/\
   ∀main Y,stepG P main (G (Frame.mk Ei tmps (it::(fs++B)) ds .run kd none) Y) w=.go (G (Frame.enter P f args .normal) (Frame.mk Ei tmps (it::(fs++B)) ds .run kd none::Y)) w' es):=by
 have e:∀{EY:X_} {LK:List Item} {m:FrameMode},(m=.run\/m=.returning)->stepG P true (G (Frame.mk fn tmps (it::(fs++A)) dl .run kl none) X) w=.go (G (Frame.mk fn EY (LK++A) dl m kl none) X) w #[]->
   (∀main Y,stepG P main (G (Frame.mk Ei tmps (it::(fs++B)) ds .run kd none) Y) w=.go (G (Frame.mk Ei EY (LK++B) ds m kd none) Y) w #[])->
   (∃EY LK m df,(b=false->df=[])/\(m=.run\/m=.returning)/\g'=G (Frame.mk fn EY (LK++A) (df++dl) m kl none) X/\∀main Y,stepG P main (G (Frame.mk Ei tmps (it::(fs++B)) ds .run kd none) Y) w=.go (G (Frame.mk Ei EY (LK++B) (df++ds) m kd none) Y) w' es):=by
  intro EY LK m J e1 e2
  rw[e1]at h
  injection h with j k p
  subst j k p
  exact⟨EY,LK,m,[],λ_=>rfl,J,rfl,e2⟩
 cases it with
 |inBlock id=>exact .inl (e (EY:=tmps) (LK:=fs) (.inl rfl) (by simp[G,stepG,stepG.exec]) (λmain Y=>by simp[G,stepG,stepG.exec]))
 |inLoop c=>exact .inl (e (EY:=tmps) (LK:=.code c::.inLoop c::fs) (.inl rfl) (by simp[G,stepG,stepG.exec]) (λmain Y=>by simp[G,stepG,stepG.exec]))
 |inScope c=>simp[Item.EC]at Ik
 |inRangeFunc l=>simp[Item.EC]at Ik
 |endRangeFunc l=>simp[Item.EC]at Ik
 |beginRound=>simp[Item.EC]at Ik
 |call d a b c=>simp[Item.EC]at Ik
 |extern a b=>simp[Item.EC]at Ik
 |code c=>
  cases c with
  |skip=>exact .inl (e (EY:=tmps) (LK:=fs) (.inl rfl) (by simp[G,stepG,stepG.exec]) (λmain Y=>by simp[G,stepG,stepG.exec]))
  |label l=>exact .inl (e (EY:=tmps) (LK:=fs) (.inl rfl) (by simp[G,stepG,stepG.exec]) (λmain Y=>by simp[G,stepG,stepG.exec]))
  |ret=>exact .inl (e (EY:=tmps) (LK:=.code .ret::fs) (.inr rfl) (by simp[G,stepG,stepG.exec]) (λmain Y=>by simp[G,stepG,stepG.exec]))
  |rangeFunc f M a b=>simp[Item.EC,Code.Bf]at Ik
  |scope c=>simp[Item.EC,Code.Bf]at Ik
  |goto l=>simp[Item.EC,Code.Bf]at Ik
  |refuse s=>simp[G,stepG,stepG.exec]at h
  |seq a b=>exact .inl (e (EY:=tmps) (LK:=.code a::.code b::fs) (.inl rfl) (by simp[G,stepG,stepG.exec]) (λmain Y=>by simp[G,stepG,stepG.exec]))
  |cond c a b=>
   cases hv:(Frame.mk fn tmps (.code (.cond c a b)::(fs++A)) dl .run kl none).eval c with
   |bool t=>
    have D:(Frame.mk Ei tmps (.code (.cond c a b)::(fs++B)) ds .run kd none).eval c=.bool t:=by rw[<-hv];cases c<;>rfl
    exact .inl (e (EY:=tmps) (LK:=.code (if t then a else b)::fs) (.inl rfl) (by simp[G,stepG,stepG.exec,hv]) (λmain Y=>by simp[G,stepG,stepG.exec,D]))
   |_=>simp[G,stepG,stepG.exec,hv]at h
  |block id c=>exact .inl (e (EY:=tmps) (LK:=.code c::.inBlock id::fs) (.inl rfl) (by simp[G,stepG,stepG.exec]) (λmain Y=>by simp[G,stepG,stepG.exec]))
  |loop c=>exact .inl (e (EY:=tmps) (LK:=.code c::.inLoop c::fs) (.inl rfl) (by simp[G,stepG,stepG.exec]) (λmain Y=>by simp[G,stepG,stepG.exec]))
  |exit id=>
   cases hx:exitTo id (fs++A)with
   |none=>simp[G,stepG,stepG.exec,hx]at h
   |some K=>
    obtain⟨LK,rfl,F⟩:=O0 (B:=B) (hA id) hx
    exact .inl (e (EY:=tmps) (LK:=LK) (.inl rfl) (by simp[G,stepG,stepG.exec,hx]) (λmain Y=>by simp[G,stepG,stepG.exec,F]))
  |region id ops u=>
   cases u with
   |true=>exact(hdr id ops rfl).elim
   |false=>exact .inl (e (EY:=tmps) (LK:=.inRegion ops (List.range ops.size)::fs) (.inl rfl) (by simp[G,stepG,stepG.exec]) (λmain Y=>by simp[G,stepG,stepG.exec]))
 |inRegion ops l=>
  cases l with
  |nil=>exact .inl (e (EY:=tmps) (LK:=fs) (.inl rfl) (by simp[G,stepG,stepG.exec]) (λmain Y=>by simp[G,stepG,stepG.exec]))
  |cons i rest=>
   by_cases r:((ops[i]?).map (Region.wanted · (yielded ops tmps))).getD false=true
   .cases ho:ops[i]? with
    |none=>rw[ho]at r;simp at r
    |some o=>
     rw[ho]at r
     simp only[Option.map_some,Option.getD_some]at r
     have E:(Frame.mk Ei tmps (.inRegion ops (i::rest)::(fs++B)) ds .run kd none).eval=(Frame.mk fn tmps (.inRegion ops (i::rest)::(fs++A)) dl .run kl none).eval:=funext λx=>by cases x<;>rfl
     have H:stepG P true (G (Frame.mk fn tmps (.inRegion ops (i::rest)::(fs++A)) dl .run kl none) X) w=
       stepG.apply P true (Frame.mk fn tmps (.inRegion ops (i::rest)::(fs++A)) dl .run kl none) X none (execOp (Frame.mk fn tmps (.inRegion ops (i::rest)::(fs++A)) dl .run kl none).eval o) w:=by
      simp[G,stepG,stepG.exec,stepG.oper,Frame.oper?,ho,r]
     have g:∀main Y,stepG P main (G (Frame.mk Ei tmps (.inRegion ops (i::rest)::(fs++B)) ds .run kd none) Y) w=
       stepG.apply P true (Frame.mk Ei tmps (.inRegion ops (i::rest)::(fs++B)) ds .run kd none) Y none (execOp (Frame.mk fn tmps (.inRegion ops (i::rest)::(fs++A)) dl .run kl none).eval o) w:=λmain Y=>by
      rw[<-E]
      simp[G,stepG,stepG.exec,stepG.oper,Frame.oper?,ho,r]
     rw[H]at h
     obtain⟨n,w1,MS,q,v⟩:=hn ops i rest o rfl ho r
     have fin:∀x,(∃EY LK,(Frame.mk fn tmps (.inRegion ops (i::rest)::(fs++A)) dl .run kl none).finish x=Frame.mk fn EY (LK++A) dl .run kl none/\
       (Frame.mk Ei tmps (.inRegion ops (i::rest)::(fs++B)) ds .run kd none).finish x=Frame.mk Ei EY (LK++B) ds .run kd none):=λx=>⟨_,.inRegion ops rest::fs,rfl,rfl⟩
     cases n<;>first|exact v.elim|skip
     .rename_i x;obtain⟨C,LK,e1,e2⟩:=fin x;simp only[stepG.apply,q,if_true,GStep.after,Array.append_empty,hkl,Bool.false_eq_true,if_false]at h;injection h with j k p;subst k p;refine .inl ⟨C,LK,.run,[],λ_=>rfl,.inl rfl,by rw[<-j,e1];rfl,λmain Y=>?_⟩;rw[g];simp only[stepG.apply,q,if_true,GStep.after,Array.append_empty,e2,hq,hkd,Bool.false_eq_true,if_false]
      rfl
     .obtain⟨C,LK,e1,e2⟩:=fin undef;simp only[stepG.apply,q,if_true,GStep.after,Array.append_empty,hkl,Bool.false_eq_true,if_false]at h;injection h with j k p;subst k p;refine .inl ⟨C,LK,.run,[],λ_=>rfl,.inl rfl,by rw[<-j,e1];rfl,λmain Y=>?_⟩;rw[g];simp only[stepG.apply,q,if_true,GStep.after,Array.append_empty,e2,hq,hkd,Bool.false_eq_true,if_false]
      rfl
     .rename_i f args;simp only[stepG.apply,q,if_true,GStep.after,Array.append_empty,hkl,Bool.false_eq_true,if_false]at h;injection h with j k p;subst k p;refine .inr ⟨f,args,⟨_,_,_,rfl⟩,by rw[<-j];rfl,λmain Y=>?_⟩;rw[g];simp only[stepG.apply,q,if_true,GStep.after,Array.append_empty,hq,hkd,Bool.false_eq_true,if_false]
      rfl
     .rename_i d;simp only[stepG.apply,q,if_true,GStep.after,Array.append_empty,hkl,Bool.false_eq_true,if_false]at h;injection h with j k p;subst k p;have e1:({ fn:=fn,tmps:=tmps,todo:=.inRegion ops (i::rest)::(fs++A),defers:=d::dl,mode:=.run,kind:=kl,roundOf:=none }:Frame).finish undef=Frame.mk fn (match (ops[i]?).bind (·.dst)with|some d=>tmps.setIfInBounds d undef|none=>tmps) ((.inRegion ops rest::fs)++A) ([d]++dl) .run kl none:=rfl;have e2:({ fn:=Ei,tmps:=tmps,todo:=.inRegion ops (i::rest)::(fs++B),defers:=d::ds,mode:=.run,kind:=kd,roundOf:=none }:Frame).finish undef=Frame.mk Ei (match (ops[i]?).bind (·.dst)with|some d=>tmps.setIfInBounds d undef|none=>tmps) ((.inRegion ops rest::fs)++B) ([d]++ds) .run kd none:=rfl;refine .inl ⟨_,_,.run,[d],λI=>(by have:=v.1;rw[I]at this;cases this),.inl rfl,by rw[<-j];exact congrArg (G · X) e1,λmain Y=>?_⟩;rw[g];simp only[stepG.apply,q,if_true,GStep.after,Array.append_empty,hq,hkd,Bool.false_eq_true,if_false];exact congrArg (λz=>GStep.go (G z Y) w1 (seen P fn MS)) e2
   .have y:((ops[i]?).map (Region.wanted · (yielded ops tmps))).getD false=false:=(by simpa using r);have fin:∀x,(∃EY LK,(Frame.mk fn tmps (.inRegion ops (i::rest)::(fs++A)) dl .run kl none).finish x=Frame.mk fn EY (LK++A) dl .run kl none/\
      (Frame.mk Ei tmps (.inRegion ops (i::rest)::(fs++B)) ds .run kd none).finish x=Frame.mk Ei EY (LK++B) ds .run kd none):=λx=>⟨_,.inRegion ops rest::fs,rfl,rfl⟩
    obtain⟨C,LK,e1,e2⟩:=fin undef;exact .inl (e (EY:=C) (LK:=LK) (.inl rfl) (by rw[<-e1];simp[G,stepG,stepG.exec,y]) (λmain Y=>by rw[<-e2];simp[G,stepG,stepG.exec,y]))
theorem bd9 {Od:Old} (F:Fine P L p) {fn:h_} {tmps:X_} {ops:Array Oper} {i:Nat} {rest:List Nat} {k:List Item} {pre:Z_} {dl:List Deferred} {kl:CallKind} (hkl:(kl==CallKind.early)=false) {v w v':o_} {g':m_} {es:Array Event} {o:Oper} (T:Twin Od Z v w) (hZ:∀r,Z r->r<v.heap.size)
  (Ky:∀j,j<v'.drawn-v.drawn->∀q,w.tape (w.drawn+j) q=v.tape (v.drawn+j) q) (hab:∀f,(Frame.mk fn tmps (.inRegion ops (i::rest)::k) dl .run kl none).about P v=some f->L f\/Ext P f) (Ik:(Item.inRegion ops (i::rest)).EC (p fn)=true)
  (ho:ops[i]?=some o) (hw:Region.wanted o (yielded ops tmps)=true) (h:stepG P true (G (Frame.mk fn tmps (.inRegion ops (i::rest)::k) dl .run kl none) pre) v=.go g' v' es) (jh:∀ch,g'.frame.mode≠.panicking ch):
  ∃n w1 MS,(execOp (Frame.mk fn tmps (.inRegion ops (i::rest)::k) dl .run kl none).eval o).runT P w #[]=(.ok n w1,MS)/\ES L (jE fn) n:=by
 have a:p fn o=true:=by
  simp only[Item.EC,Array.all_eq_true]at Ik
  obtain⟨t,rfl⟩:=y_.1 ho
  exact Ik i t
 rw[MJ ho]at hab;have b:=F.op fn o a _ v T.plain hab;have u:stepG P true (G (Frame.mk fn tmps (.inRegion ops (i::rest)::k) dl .run kl none) pre) v=
   stepG.apply P true (Frame.mk fn tmps (.inRegion ops (i::rest)::k) dl .run kl none) pre none (execOp (Frame.mk fn tmps (.inRegion ops (i::rest)::k) dl .run kl none).eval o) v:=by
  simp[G,stepG,stepG.exec,stepG.oper,Frame.oper?,ho,hw]
 rw[u]at h;cases He:(execOp (Frame.mk fn tmps (.inRegion ops (i::rest)::k) dl .run kl none).eval o).runT P v #[]with
 |mk r MS=>
  cases r with
  |ok n v1=>
   have m:ES L (jE fn) n:=by
    obtain⟨_,_,z,_⟩:=RV (Od:=LU) (Z:=Z) b (v:=v) (w:=v.re v.tape v.drawn) (@Twin.mk LU _ _ _ rfl (λ_ _ _=>rfl) T.dead T.plain rfl rfl (λ_ h=>False.elim h) (λ_ h=>False.elim h) (λ_ h=>False.elim h)) hZ He (λ_ _ _=>rfl)
    exact z
   have B:v'=v1:=by
    cases n<;>first|exact m.elim|skip
    all_goals
     simp only[stepG.apply,He,if_true,GStep.after,Array.append_empty,hkl,Bool.false_eq_true,if_false]at h
     injection h with d e y
     exact e.symm
   subst B
   obtain⟨C,s,_,c,_⟩:=RV b T hZ He Ky
   exact⟨n,C,_,c,m⟩
  |halt A v1=>
   have l:=ZM b T.plain He
   exfalso
   cases A with
   |panic x=>
    simp only[stepG.apply,He,if_true,GStep.after]at h
    injection h with d e y
    exact jh _ (by rw[<-d];rfl)
   |stuck x=>simp only[stepG.apply,He,if_true,GStep.after,reduceCtorEq]at h
   |unsupported x=>
    cases x with
    |initOrder g=>simp[Halt.J8]at l
    |_=>simp only[stepG.apply,He,if_true,GStep.after,reduceCtorEq]at h
   |_=>simp[Halt.J8]at l
def EO (P:l_) (Ei:h_) (kd:CallKind) (k:List Item) (ds:List Deferred) (vs rs:Z_):Prop:=
 ∃xs fn tmps front m,vs=xs++[Frame.mk fn tmps (front++[Mc]) [] m .normal none]/\rs=xs++[Frame.mk Ei tmps (front++k) ds m kd none]/\(∀es,seen P Ei es=seen P fn es)/\jE fn=false/\(xs≠[]->m=.run/\∃ops i rest fs,front=.inRegion ops (i::rest)::fs)
theorem YN {Od:Old} (F:Fine P L p) {Ei:h_} {kd:CallKind} (hkd:(kd==CallKind.early)=false) {k:List Item} {ds:List Deferred} {C:Frame->Z_->o_->Prop} {fr:Frame} {pre:Z_} {v w:o_} {rf:Frame} {rs:Z_} (St:EO P Ei kd k ds (fr::pre) (rf::rs))
  (T:Twin Od Z v w) (hZ:∀r,Z r->r<v.heap.size) (NG:∀τ d,Good P L p fr pre (v.re τ d)/\∃Ed CJ v',GR P fr pre (v.re τ d) Ed CJ v'/\C Ed CJ v'):
  ∃Ed CJ v' O3 rs' w' es,C Ed CJ v'/\EO P Ei kd k ds (Ed::CJ) (O3::rs')/\Twin Od Z v' w'/\v.heap.size<=v'.heap.size/\(∀r,Z r->w'.heap[r]?=w.heap[r]?)/\(∀e∈es,Ϭ Z v'.heap.size e)/\
   ∀main cs,stepG P main (G rf (rs++cs)) w=.go (G O3 (rs'++cs)) w' es:=by
 obtain⟨xs,fn,tmps,a,m,H,hr,Q,j,hx⟩:=St;by_cases hd:fr.mode=.run/\∃id g fs,fr.todo=.code (.region id g true)::fs
 ·
  obtain⟨hm,id,g,fs,M⟩:=hd;obtain⟨V,Ed,CJ,v',⟨es,BI,jh⟩,J⟩:=NG (λi q=>match q with
   |.order _ _=>w.tape w.drawn (.order rf.fn id)
   |_=>w.tape i q) w.drawn;obtain⟨t,U,z,d0,m0,I,r0⟩:=fr;obtain⟨_,h2,h2',h3,h4,_⟩:=V.ok;simp only at hm M h2 h2' h3 h4;subst hm M h4;have D:∀fnx tx kx dsx kdx main (Y:Z_) (u:o_),stepG P main (G (Frame.mk fnx tx (.code (.region id g true)::kx) dsx .run kdx none) Y) u=
    .go (G (Frame.mk fnx tx (.inRegion g (Region.schedule (P.follows .mixedOrders) g (u.tape u.drawn (.order fnx id)))::kx) dsx .run kdx none) Y) { u with drawn:=u.drawn+1 } #[]:=λfnx tx kx dsx kdx main Y u=>by
   simp[G,stepG,stepG.exec,choose,Sem.run,Question.forced,Question.cut]
  rw[D]at BI;injection BI with g1 g2 S;simp only[G,Goroutine.mk.injEq]at g1;obtain⟨g1,g1',_⟩:=g1;subst g1 g1' g2 S;simp only[World.re]at J;have N:∀τ,Twin Od Z { heap:=v.heap,tape:=τ,drawn:=w.drawn+1,os:=v.os,output:=v.output } { w with drawn:=w.drawn+1 }:=λτ=>⟨T.size,T.same,T.dead,T.plain,T.os,T.output,T.JQ,T.kept,T.XG⟩
  cases xs with
  |nil=>
   simp only[List.nil_append,List.cons.injEq]at H hr
   obtain⟨H,rfl⟩:=H
   obtain⟨rfl,rfl⟩:=hr
   simp only[Frame.mk.injEq]at H
   obtain⟨rfl,rfl,M,rfl,rfl,rfl,_⟩:=H
   cases a with
   |nil=>simp[Mc]at M
   |cons it LK=>
    simp only[List.cons_append,List.cons.injEq]at M
    obtain⟨rfl,rfl⟩:=M
    exact⟨_,_,_,_,[],{ w with drawn:=w.drawn+1 },#[],J,⟨[],_,_,.inRegion g _::LK,.run,rfl,rfl,Q,j,λh=>(h rfl).elim⟩,N _,w_ _,λ_ _=>rfl,by simp,λmain cs=>D _ _ _ _ _ main _ w⟩
  |cons x xs=>
   simp only[List.cons_append,List.cons.injEq]at H hr
   obtain⟨rfl,rfl⟩:=H
   obtain⟨rfl,rfl⟩:=hr
   exact⟨_,_,_,_,_,{ w with drawn:=w.drawn+1 },#[],J,⟨_::xs,fn,tmps,a,m,rfl,rfl,Q,j,λ_=>hx (by simp)⟩,N _,w_ _,λ_ _=>rfl,by simp,λmain cs=>D _ _ _ _ _ main _ w⟩
 .obtain⟨V,Ed,CJ,v',⟨es,BI,jh⟩,J⟩:=NG w.tape w.drawn;have T1:Twin Od Z (v.re w.tape w.drawn) w:=T.V8 w.tape w.tape w.drawn w.drawn;obtain⟨aT,pre2,w',e,_,_,_,_,_,_,S,N,s,_,_,W,hw⟩:=OL F (w:=w) V.ok V.below V.mode V.about T1 hZ BI jh (λ_ _ _=>rfl);simp only[G,Goroutine.mk.injEq]at e;obtain⟨rfl,rfl,_⟩:=e;have E:=hw true [];rw[List.append_nil,List.append_nil]at E;obtain⟨t,U,z,d0,m0,I,r0⟩:=fr;obtain⟨hfn,h2,h2',h3,h4,h5⟩:=V.ok;simp only at hd h2 h2' h3 h4 h5 hfn;subst h4;have hke:(I==CallKind.early)=false:=by obtain rfl|rfl:=h3<;>rfl
  have y:=V.mode;have hbel:=V.below;have habout:=V.about;simp only at y;have zx:∀it k',m0=.run->z=it::k'->∀g i l o,it=.inRegion g (i::l)->g[i]?=some o->Region.wanted o (yielded g U)=true->∃n w1 MS,(execOp (Frame.mk t U (it::k') d0 .run I none).eval o).runT P w #[]=(.ok n w1,MS)/\ES L (jE t) n:=by
   rintro it k' rfl rfl g i l o rfl ho hw'
   exact bd9 F hke T1 hZ (λ_ _ _=>rfl) habout (h5 _ (List.mem_cons_self ..)) ho hw' BI jh
  cases xs with
  |nil=>
   simp only[List.nil_append,List.cons.injEq]at H hr
   obtain⟨H,rfl⟩:=H
   obtain⟨rfl,rfl⟩:=hr
   simp only[Frame.mk.injEq,and_true]at H
   obtain⟨rfl,rfl,rfl,rfl,rfl,rfl⟩:=H
   obtain rfl:m0=.run:=y.elim id λx=>(x.2 rfl).elim
   cases a with
   |nil=>simp[G,stepG,stepG.exec,Mc]at E
   |cons it fs=>
    obtain⟨t',LK,m',df,hdf,hm',e1,e2⟩|⟨f,args,⟨g,i,l,rfl⟩,e1,e2⟩:=YP (L:=L) (b:=jE t) (pf:=p t) (B:=k) (dl:=[]) (ds:=ds) (kl:=.normal) (kd:=kd) (Ei:=Ei) Q rfl hkd (A:=[Mc]) (λ_=>rfl) (h5 it (by simp)) (λid g e=>hd ⟨rfl,id,g,_,by rw[e];rfl⟩) (zx it (fs++[Mc]) rfl rfl) E
    .obtain rfl:=hdf j;simp only[G,Goroutine.mk.injEq]at e1;obtain⟨rfl,rfl,_⟩:=e1;exact⟨_,_,v',_,[],w',es,J,⟨[],_,t',LK,m',rfl,rfl,Q,j,λh=>(h rfl).elim⟩,N,S,s,W,λmain cs=>e2 main _⟩
    .simp only[G,Goroutine.mk.injEq]at e1;obtain⟨rfl,rfl,_⟩:=e1;exact⟨_,_,v',_,[_],w',es,J,⟨[_],_,_,_,_,rfl,rfl,Q,j,λ_=>⟨rfl,g,i,l,fs,rfl⟩⟩,N,S,s,W,λmain cs=>e2 main _⟩
  |cons x xs=>
   simp only[List.cons_append,List.cons.injEq]at H hr
   obtain⟨rfl,rfl⟩:=H
   obtain⟨rfl,rfl⟩:=hr
   have Gn:=hx (by simp)
   obtain rfl|⟨rfl,_⟩:=y
   .cases z with
    |nil=>
     have D:∀main (Y:Z_) (u:o_),stepG P main (G (Frame.mk t U [] d0 .run I none) Y) u=.go (G (Frame.mk t U [] d0 .returning I none) Y) u #[]:=λmain Y u=>by simp[G,stepG,stepG.exec]
     rw[D]at E
     injection E with a1 a2 a3
     simp only[G,Goroutine.mk.injEq]at a1
     obtain⟨rfl,rfl,_⟩:=a1
     subst a2 a3
     exact⟨_,_,v',_,_,_,_,J,⟨_::xs,fn,tmps,a,m,rfl,rfl,Q,j,λ_=>Gn⟩,N,S,s,W,λmain cs=>D main _ _⟩
    |cons it fs=>
     have R:=YP (L:=L) (b:=jE t) (pf:=p t) (P:=P) (fn:=t) (Ei:=t) (tmps:=U) (it:=it) (fs:=fs) (A:=[]) (B:=[]) (dl:=d0) (ds:=d0) (kl:=I) (kd:=I) (X:=xs++[Frame.mk fn tmps (a++[Mc]) [] m .normal none]) (w:=w) (w':=w') (es:=es) (λ_=>rfl) hke hke (λ_=>rfl) (h5 it (by simp)) (λid g e=>hd ⟨rfl,id,g,_,by rw[e]⟩)
      (by rw[List.append_nil];exact zx it fs rfl rfl) (by rw[List.append_nil];exact E)
     simp only[List.append_nil]at R
     obtain⟨t',LK,m',df,hdf,hm',e1,e2⟩|⟨f,args,_,e1,e2⟩:=R
     .simp only[G,Goroutine.mk.injEq]at e1;obtain⟨rfl,rfl,_⟩:=e1;exact⟨_,_,v',_,_,w',es,J,⟨_::xs,fn,tmps,a,m,rfl,rfl,Q,j,λ_=>Gn⟩,N,S,s,W,λmain cs=>e2 main _⟩
     .simp only[G,Goroutine.mk.injEq]at e1;obtain⟨rfl,rfl,_⟩:=e1;exact⟨_,_,v',_,_,w',es,J,⟨_::_::xs,fn,tmps,a,m,rfl,rfl,Q,j,λ_=>Gn⟩,N,S,s,W,λmain cs=>e2 main _⟩
   .cases d0 with
    |cons d ds'=>
     obtain⟨f,cap,xm,ϵ⟩:=h2' d (List.mem_cons_self ..)
     obtain⟨fnb,cb,J6,LJ,hb3,_⟩:=F.body f ϵ
     obtain⟨tg,ar⟩:=d
     simp only at xm
     subst xm
     have hinv:∀u:o_,(invoke (.fn (.func f) cap) ar).runT P u #[]=(.ok (.enter f (ar++cap)) u,#[]):=λu=>by
      simp only[invoke,callFunc,program,bind,Sem.bind,Sem.runT,J6,LJ,hb3,pure]
      rfl
     have D:∀main (Y:Z_) (u:o_),stepG P main (G (Frame.mk t U z (⟨.fn (.func f) cap,ar⟩::ds') .returning I none) Y) u=
       .go (G (Frame.enter P f (ar++cap) .deferred) (Frame.mk t U z ds' .returning I none::Y)) u #[]:=λmain Y u=>by
      simp only[G,stepG,unwind,callDeferred,hinv,GStep.after]
      simp[seen]
     rw[D]at E
     injection E with a1 a2 a3
     simp only[G,Goroutine.mk.injEq]at a1
     obtain⟨rfl,rfl,_⟩:=a1
     subst a2 a3
     exact⟨_,_,v',_,_,_,_,J,⟨_::_::xs,fn,tmps,a,m,rfl,rfl,Q,j,λ_=>Gn⟩,N,S,s,W,λmain cs=>D main _ _⟩
    |nil=>
     obtain⟨fn0,hf0,_⟩:=hfn
     cases He:(results fn0 U).runT P w #[]with
     |mk r MS=>
      cases r with
      |halt hh w1=>
       exfalso
       cases xs<;>(simp only[G,stepG,unwind,hf0,He,List.nil_append,List.cons_append]at E;cases hh<;>simp[GStep.after]at E)
      |ok x w1=>
       have D:∀main (c:Frame) (Y:Z_),I=.normal->stepG P main (G (Frame.mk t U z [] .returning I none) (c::Y)) w=.go (G (c.finish x) Y) w1 (seen P t MS):=λmain c Y O=>by
        subst O
        simp only[G,stepG,unwind,hf0,He,doReturn,GStep.after,Array.append_empty]
       have hs2:∀main (c:Frame) (Y:Z_),I=.deferred->(c.mode=.returning\/Me c)->stepG P main (G (Frame.mk t U z [] .returning I none) (c::Y)) w=.go (G c Y) w1 (seen P t MS):=λmain c Y O K=>by
        subst O
        obtain K|⟨⟨pv,rc,ge⟩,b,e,e1,e2⟩:=K
        .simp only[G,stepG,unwind,hf0,He,doReturn,GStep.after,Array.append_empty,K]
        .simp only at e1 e2;subst e1 e2;simp only[G,stepG,unwind,hf0,He,doReturn,GStep.after,Array.append_empty,e]
       cases xs with
       |nil=>
        obtain⟨rfl,g,i,l,fs,rfl⟩:=Gn
        obtain⟨_,hcm,_⟩:=hbel
        have O:I=.normal:=by
         obtain⟨e,_⟩|⟨_,e|⟨_,_,e,_⟩⟩:=hcm
         .exact e
         .cases e
         .cases e
        rw[List.nil_append,D _ _ _ O]at E;injection E with a1 a2 a3;simp only[G,Goroutine.mk.injEq]at a1;obtain⟨rfl,rfl,_⟩:=a1;subst a2 a3;exact⟨_,_,v',_,_,_,_,J,⟨[],fn,_,.inRegion g l::fs,.run,rfl,rfl,Q,j,λh=>(h rfl).elim⟩,N,S,s,W,λmain cs=>D main _ _ O⟩
       |cons c xs=>
        obtain⟨_,hcm,_⟩:=hbel
        simp only at hcm
        obtain⟨O,_⟩|⟨O,K⟩:=hcm
        .rw[List.cons_append,D _ _ _ O]at E;injection E with a1 a2 a3;simp only[G,Goroutine.mk.injEq]at a1;obtain⟨rfl,rfl,_⟩:=a1;subst a2 a3;exact⟨_,_,v',_,_,_,_,J,⟨_::xs,fn,tmps,a,m,rfl,rfl,Q,j,λ_=>Gn⟩,N,S,s,W,λmain cs=>D main _ _ O⟩
        .rw[List.cons_append,hs2 _ _ _ O K]at E;injection E with a1 a2 a3;simp only[G,Goroutine.mk.injEq]at a1;obtain⟨rfl,rfl,_⟩:=a1;subst a2 a3;exact⟨_,_,v',_,_,_,_,J,⟨_::xs,fn,tmps,a,m,rfl,rfl,Q,j,λ_=>Gn⟩,N,S,s,W,λmain cs=>hs2 main _ _ O K⟩
end
def AtEnd (Q:Exit->Act->o_->Prop) (f:h_) (fr:Frame) (pre:Z_) (v:o_):Prop:=
 pre=[]/\∃tmps τ d,(fr=Frame.mk f tmps [Mc] [] .run .normal none/\Q .normal ⟨tmps,[]⟩ (v.re τ d))\/(∃todo,fr=Frame.mk f tmps todo [] .returning .normal none/\Q .ret ⟨tmps,[]⟩ (v.re τ d))
def YE (L:h_->Prop) (N:Fence) (f:h_):Prop:=N.fn f/\L f/\jE f=false
section
variable {P:l_} {L:h_->Prop} {p:h_->Oper->Bool} {Z:Nat->Prop}
theorem je {Q:Exit->Act->o_->Prop} {f:h_}:qY (AtEnd Q f):=by
 rintro g pre v w a b c ⟨e1,t,τ,d,e⟩;have:w.re τ d=v.re τ d:=by
  unfold World.re
  rw[a,b,c]
 exact⟨e1,t,τ,d,by rw[this];exact e⟩
theorem Y2 (F:Fine P L p) {N:Fence} (hal:N.alive=true) (hdp:N.depth=none) (hro:N.round=none) (hfn:∀f,N.fn f->L f\/Ext P f) {f:h_} (hf:YE L N f) {n:Nat} {c:Code} (hc:c.Bf (p f)=true) {tmps:X_} {v:o_}
  (hp:∀(r:Nat) (o:Obj),v.heap[r]?=some o->o.plain=true) {Q:Exit->Act->o_->Prop} (hQ:∀e a w,Q e a w->(e=.normal\/e=.ret)/\a.defers=[])
  (H:∀τ d,c.wpIn N n P Q ⟨tmps,[]⟩ (v.re τ d)):Fin P L p (AtEnd Q f) (Frame.mk f tmps [.code c,Mc] [] .run .normal none) [] v:=by
 refine qh F je λτ d=>?_
 obtain⟨e,t,h,l,b⟩:=H τ d (Frame.mk f tmps [] [] .run .normal none) [Mc] [] hro.symm hf.1 (λ_ i=>by rw[hdp]at i;cases i);obtain⟨j,B,k,_,_⟩:=F.body f hf.2.1;have m:E5 P L p (Frame.mk f tmps [.code c,Mc] [] .run .normal none):=⟨⟨j,k,F.init f hf.2.1⟩,λ_=>rfl,λd i=>(by cases i),.inl rfl,rfl,λC q=>by
  simp only[r_,List.not_mem_nil,or_false]at q
  obtain rfl|rfl:=q
  .exact hc
  .rfl⟩
 obtain⟨z,s⟩:=hQ e t h l;obtain⟨u,y⟩:=t;simp only at s;subst s;obtain rfl|rfl:=z
 .exact rY F hal hfn b rfl rfl (λx=>by simp[Frame.atR]) ⟨rfl,u,h.tape,h.drawn,.inl ⟨rfl,l⟩⟩ m ⟨hf.2.2,rfl⟩ (.inl rfl) hp
 .obtain⟨g,A⟩:=b.1 rfl;exact rY F hal hfn A rfl rfl (λx=>by simp) ⟨rfl,u,h.tape,h.drawn,.inr ⟨g,rfl,l⟩⟩ m ⟨hf.2.2,rfl⟩ (.inl rfl) hp
def Beside (Od:Old) (P:l_) (Ac:Loc->Prop) (Z:Nat->Prop) (B:Nat) (v:o_) (gs:Array m_) (w:o_) (t:Trace):Prop:=
 ∃q,Twin Od Z v w/\(∀r,Z r->r<v.heap.size)/\Leavers P t gs q/\Past Ac B t/\w.heap.size<=B
theorem gZ {Od:Old} {Ac:Loc->Prop} (F:Fine P L p) (hu:FT Ac Z) {Ei:h_} {kd:CallKind} (hkd:(kd==CallKind.early)=false) {k:List Item} {ds:List Deferred} {S:Frame->Z_->o_->Prop} {fr:Frame} {pre:Z_} {v:o_} (h:Fin P L p S fr pre v):
  ∀(rf:Frame) (rs:Z_) (gs:Array m_) (w:o_) (sl:d_ (W_)) (t:Trace) (B:Nat) (cs:Z_),EO P Ei kd k ds (fr::pre) (rf::rs)->Beside Od P Ac Z B v gs w t->gs[0]?=some (G rf (rs++cs))->
   AA P gs w sl t λA7 w' t'=>∃Ed CJ v' O3 rs' B',A7[0]?=some (G O3 (rs'++cs))/\EO P Ei kd k ds (Ed::CJ) (O3::rs')/\S Ed CJ v'/\v.heap.size<=v'.heap.size/\B<=B'/\Beside Od P Ac Z B' v' A7 w' t':=by
 refine h (fun fr pre v=>∀(rf:Frame) (rs:Z_) (gs:Array m_) (w:o_) (sl:d_ (W_)) (t:Trace) (B:Nat) (cs:Z_),EO P Ei kd k ds (fr::pre) (rf::rs)->Beside Od P Ac Z B v gs w t->gs[0]?=some (G rf (rs++cs))->
   AA P gs w sl t λA7 w' t'=>∃Ed CJ v' O3 rs' B',A7[0]?=some (G O3 (rs'++cs))/\EO P Ei kd k ds (Ed::CJ) (O3::rs')/\S Ed CJ v'/\v.heap.size<=v'.heap.size/\B<=B'/\Beside Od P Ac Z B' v' A7 w' t') ?_ ?_
 .intro fr pre v hS rf rs gs w sl t B cs f e j;exact .now ⟨fr,pre,v,rf,rs,B,j,f,hS,w_ _,w_ _,e⟩
 .intro fr pre v Q rf rs gs w sl t B cs f e j;obtain⟨q,T,H,hL,hP,hB⟩:=e;obtain⟨N,g,a1,w1,O,t1,q1,A,y,hs,Y,⟨M,X,V,v1,b,c,rfl,St1,R,s,u,m⟩,n,o,l⟩:=Vp (P:=P) (Ac:=Ac)
   (K:=λU w'=>∃Ed CJ v' O3 rs',U=G O3 (rs'++cs)/\EO P Ei kd k ds (Ed::CJ) (O3::rs')/\Twin Od Z v' w'/\(∀r,Z r->r<v'.heap.size)/\v.heap.size<=v'.heap.size/\
    ∀(rf:Frame) (rs:Z_) (gs:Array m_) (w:o_) (sl:d_ (W_)) (t:Trace) (B:Nat) (cs:Z_),EO P Ei kd k ds (Ed::CJ) (rf::rs)->Beside Od P Ac Z B v' gs w t->gs[0]?=some (G rf (rs++cs))->
   AA P gs w sl t λA7 w' t'=>∃I D a O3 rs' B',A7[0]?=some (G O3 (rs'++cs))/\EO P Ei kd k ds (I::D) (O3::rs')/\S I D a/\v'.heap.size<=a.heap.size/\B<=B'/\Beside Od P Ac Z B' a A7 w' t')
   (sumTo gs.size q) gs (G rf (rs++cs)) w sl t q B (w_ _) j rfl hL hP (λd=>by
    obtain⟨Ed,CJ,v',O3,rs',w',W,m,St',C,E,_,J,hw⟩:=YN F hkd (w:=w.at d) f (T.V8 v.tape w.tape v.drawn d) H Q
    refine⟨G O3 (rs'++cs),w',W,max B v'.heap.size,hw true cs,Nat.le_max_left ..,λx hx=>ZO hu (Nat.le_max_right ..) (J x hx),?_,Ed,CJ,v',O3,rs',rfl,St',C,λr y=>Nat.lt_of_lt_of_le (H r y) E,E,m⟩
    rw[<-C.size];exact Nat.le_max_right ..);have ϧ:AA P gs w sl t λA7 w' t'=>A7[0]?=some (G b (c++cs))/\Beside Od P Ac Z A v1 A7 w' t':=⟨N,g,w1,O,t1,y,hs,Y,q1,R,s,n,o,M⟩
  refine ϧ.bind λi w2 z t2 _ ⟨k1,k2⟩=>?_
  exact(m b c i w2 z t2 A cs St1 k2 k1).mono λA7 w' t' ⟨Ed,CJ,v',O3,rs',B',j1,j2,j3,j4,j5,j6⟩=>⟨Ed,CJ,v',O3,rs',B',j1,j2,j3,Nat.le_trans u j4,Nat.le_trans l j5,j6⟩
theorem Τ {Od:Old} {Ac Still:Loc->Prop} {Mem Ai:Nat->Prop} {h j:Nat} {By:Nat->m_->o_->Trace->Prop} (F:Fine P L p) (hu:FT Ac Z) (BI:FT Still Z) (O:Gp P Z Ac Still (fun B t=>PX Ac Still Mem Ai B h t) j By) {Ei:h_} {kd:CallKind} (hkd:(kd==CallKind.early)=false) {k:List Item} {ds:List Deferred}
  {S:Frame->Z_->o_->Prop} {fr:Frame} {pre:Z_} {v:o_} (H:Fin P L p S fr pre v):
  ∀(rf:Frame) (rs:Z_) (gs:Array m_) (w:o_) (sl:d_ (W_)) (t:Trace) (q:Nat->Nat) (n B:Nat) (cs:Z_),EO P Ei kd k ds (fr::pre) (rf::rs)->Twin Od Z v w->(∀r,Z r->r<v.heap.size)->gs[h]?=some (G rf (rs++cs))->Duo P Ac Still Mem Ai B h j By n gs w t q->
   AA P gs w sl t λA7 w' t'=>∃q' n' B' Ed CJ v' O3 rs',A7[h]?=some (G O3 (rs'++cs))/\EO P Ei kd k ds (Ed::CJ) (O3::rs')/\S Ed CJ v'/\Twin Od Z v' w'/\(∀r,Z r->r<v'.heap.size)/\v.heap.size<=v'.heap.size/\B<=B'/\Duo P Ac Still Mem Ai B' h j By n' A7 w' t' q':=by
 refine H (fun fr pre v=>∀(rf:Frame) (rs:Z_) (gs:Array m_) (w:o_) (sl:d_ (W_)) (t:Trace) (q:Nat->Nat) (n B:Nat) (cs:Z_),EO P Ei kd k ds (fr::pre) (rf::rs)->Twin Od Z v w->(∀r,Z r->r<v.heap.size)->gs[h]?=some (G rf (rs++cs))->Duo P Ac Still Mem Ai B h j By n gs w t q->
   AA P gs w sl t λA7 w' t'=>∃q' n' B' Ed CJ v' O3 rs',A7[h]?=some (G O3 (rs'++cs))/\EO P Ei kd k ds (Ed::CJ) (O3::rs')/\S Ed CJ v'/\Twin Od Z v' w'/\(∀r,Z r->r<v'.heap.size)/\v.heap.size<=v'.heap.size/\B<=B'/\Duo P Ac Still Mem Ai B' h j By n' A7 w' t' q') ?_ ?_
 .intro fr pre v hS rf rs gs w sl t q n B cs e T b i D;exact .now ⟨q,n,B,fr,pre,v,rf,rs,i,e,hS,T,b,w_ _,w_ _,D⟩
 .intro fr pre v U rf rs gs w sl t q n B cs e T b i D;obtain⟨N,f,a1,w1,R,t1,q1,n1,C,y,hs,h1,⟨fr1,X,v1,c,d,rfl,St1,V,o,u,m⟩,l,M⟩:=ay O
   (xK:=λW w'=>∃Ed CJ v' O3 rs',W=G O3 (rs'++cs)/\EO P Ei kd k ds (Ed::CJ) (O3::rs')/\Twin Od Z v' w'/\(∀r,Z r->r<v'.heap.size)/\v.heap.size<=v'.heap.size/\
    ∀(rf:Frame) (rs:Z_) (gs:Array m_) (w:o_) (sl:d_ (W_)) (t:Trace) (q:Nat->Nat) (n B:Nat) (cs:Z_),EO P Ei kd k ds (Ed::CJ) (rf::rs)->Twin Od Z v' w->(∀r,Z r->r<v'.heap.size)->gs[h]?=some (G rf (rs++cs))->Duo P Ac Still Mem Ai B h j By n gs w t q->
   AA P gs w sl t λA7 w' t'=>∃q' n' B' K I a O3 rs',A7[h]?=some (G O3 (rs'++cs))/\EO P Ei kd k ds (K::I) (O3::rs')/\S K I a/\Twin Od Z a w'/\(∀r,Z r->r<a.heap.size)/\v'.heap.size<=a.heap.size/\B<=B'/\Duo P Ac Still Mem Ai B' h j By n' A7 w' t' q')
   (n+sumTo gs.size q) n gs (G rf (rs++cs)) w sl t q B (w_ _) i rfl D (λw1 z=>by
    obtain⟨Ed,CJ,v',O3,rs',w',Y,m,St',E,J,s,Q,hw⟩:=YN F hkd (w:=w1) e (T.off b z) b U
    refine⟨G O3 (rs'++cs),w',Y,max B v'.heap.size,hw (h==0) cs,Nat.le_max_left ..,λx hx=>ai8 hu BI (Nat.le_max_right ..) (Q x hx),s,?_,Ed,CJ,v',O3,rs',rfl,St',E,λr y=>Nat.lt_of_lt_of_le (b r y) J,J,m⟩
    rw[<-E.size];exact Nat.le_max_right ..);have ϧ:AA P gs w sl t λA7 w' t'=>A7[h]?=some (G c (d++cs))/\Twin Od Z v1 w'/\∃q' n',Duo P Ac Still Mem Ai C h j By n' A7 w' t' q':=⟨N,f,w1,R,t1,y,hs,h1,V,q1,n1,M⟩
  refine ϧ.bind λg w2 A t2 _ ⟨k1,k2,q2,n2,k3⟩=>?_
  exact(m c d g w2 A t2 q2 n2 C cs St1 k2 o k1 k3).mono λA7 w' t' ⟨q',n',B',Ed,CJ,v',O3,rs',j1,j2,j3,j4,j5,j6,j7,j8⟩=>⟨q',n',B',Ed,CJ,v',O3,rs',j1,j2,j3,j4,j5,Nat.le_trans u j6,Nat.le_trans l j7,j8⟩
end
end Go.Fxa
namespace Go.Fxa
open Go.Conc
theorem Twin.kill {Od:Old} {Z Z':Nat->Prop} {v w:o_} (T:Twin Od Z v w) (hz:∀r,Z r->Z' r) (hno:∀r,Z' r->¬Od.dead r):∃v',Twin Od Z' v' w/\v'.heap.size=v.heap.size/\(∀r,¬Z' r->v'.heap[r]?=v.heap[r]?)/\v'.os=v.os/\v'.output=v.output:=by
 classical
 refine⟨{ v with heap:=Array.ofFn (n:=v.heap.size) λi=>if Z' i then Dw else v.heap[i] },⟨?_,λr b a=>?_,λr b g=>?_,λr o d=>?_,T.os,T.output,λr a=>?_,T.kept,λr a c=>hno r c a⟩,by simp,λr b=>?_,rfl,rfl⟩
 .simpa using T.size
 .rw[<-T.same r (λh=>b (hz r h)) a];by_cases h:r<v.heap.size<;>simp[h,b]
 .have:r<v.heap.size:=by simpa using g
  simp[this,b]
 .by_cases h:r<v.heap.size
  .by_cases f:Z' r
   .simp[h,f]at d;subst d;rfl
   .simp[h,f]at d;exact T.plain r o (by rw[v_ h,d])
  .simp[h]at d
 .have e:=T.JQ r a;have h:=(y_.1 e).1;have b:¬Z' r:=λc=>hno r c a
  rw[v_ h]at e;simpa [h,b]using x_ e
 .by_cases h:r<v.heap.size<;>simp[h,b]
theorem Past.shun {Ac Oc:Loc->Prop} {B:Nat} {t:Trace} (h:Past Ac B t) (hs:∀l,Ac l->Oc l):Past Oc B t:=
 ⟨h.clean,λi a b c=>(h.known i a b c).imp id λx=>⟨hs _ x.1,x.2⟩,h.over,h.hears,h.seen⟩
end Go.Fxa
namespace Go.Fxa
open Go.Conc
open Go.ConcN (sumTo upd sumTo_upd upd_ne upd_same)
structure Ul (P:l_) (L:h_->Prop) (p:h_->Oper->Bool) (N:Fence):Prop where
 EC:Fine P L p
 alive:N.alive=true
 depth:N.depth=none
 round:N.round=none
 fn:∀f,N.fn f->L f\/Ext P f
def Behind (Ei:h_) (kd:CallKind) (k:List Item) (ds:List Deferred) (cs:Z_) (Q:Exit->Act->o_->Prop) (g:m_) (v:o_):Prop:=
 ∃tmps τ d,(g=G (Frame.mk Ei tmps k ds .run kd none) cs/\Q .normal ⟨tmps,[]⟩ (v.re τ d))\/(∃todo,g=G (Frame.mk Ei tmps todo ds .returning kd none) cs/\Q .ret ⟨tmps,[]⟩ (v.re τ d))
section
variable {P:l_} {L:h_->Prop} {p:h_->Oper->Bool} {N:Fence} {Z:Nat->Prop} {Ac Still:Loc->Prop} {f Ei:h_} {kd:CallKind} {k:List Item} {ds:List Deferred} {Q:Exit->Act->o_->Prop} {c:Code} {tmps:X_} {v:o_} {m:Nat}
theorem Za {fr rf:Frame} {pre rs cs:Z_} (hS:AtEnd Q f fr pre v) (St:EO P Ei kd k ds (fr::pre) (rf::rs)):Behind Ei kd k ds cs Q (G rf (rs++cs)) v:=by
 obtain⟨rfl,t,τ,d,h⟩:=hS;obtain⟨xs,fn,n,b,m,c,g,_,_,_⟩:=St;cases xs with
 |cons x xs=>simp at c
 |nil=>
  simp only[List.nil_append,List.cons.injEq,and_true]at c g
  obtain⟨g,rfl⟩:=g
  subst g
  obtain⟨rfl,i⟩|⟨j,rfl,i⟩:=h
  .simp only[Frame.mk.injEq]at c;obtain⟨_,rfl,e,_,rfl,_⟩:=c;have:b=[]:=by
    cases b with
    |nil=>rfl
    |cons a l=>simp at e
   subst this;exact⟨t,τ,d,.inl ⟨rfl,i⟩⟩
  .simp only[Frame.mk.injEq]at c;obtain⟨_,rfl,e,_,rfl,_⟩:=c;exact⟨t,τ,d,.inr ⟨_,rfl,i⟩⟩
theorem QU (hf:jE f=false) (hq:∀es,seen P Ei es=seen P f es) (c:Code) (tmps:X_):EO P Ei kd k ds [Frame.mk f tmps [.code c,Mc] [] .run .normal none] [Frame.mk Ei tmps (.code c::k) ds .run kd none]:=
 ⟨[],f,tmps,[.code c],.run,rfl,rfl,hq,hf,λh=>(h rfl).elim⟩
theorem KU {Od:Old} (FN:Ul P L p N) (hu:FT Ac Z) (hf:YE L N f) (hq:∀es,seen P Ei es=seen P f es) (hkd:(kd==CallKind.early)=false) (hc:c.Bf (p f)=true) (hQ:∀e a w,Q e a w->(e=.normal\/e=.ret)/\a.defers=[])
  (H:∀τ d,c.wpIn N m P Q ⟨tmps,[]⟩ (v.re τ d)) {gs:Array m_} {w:o_} {sl:d_ (W_)} {t:Trace} {B:Nat} {cs:Z_} (Bs:Beside Od P Ac Z B v gs w t) (h0:gs[0]?=some (G (Frame.mk Ei tmps (.code c::k) ds .run kd none) cs)):
  AA P gs w sl t λA7 w' t'=>∃g v' B',A7[0]?=some g/\Behind Ei kd k ds cs Q g v'/\v.heap.size<=v'.heap.size/\B<=B'/\Beside Od P Ac Z B' v' A7 w' t':=by
 have T:=Bs.choose_spec.1;have b:=Y2 FN.EC FN.alive FN.depth FN.round FN.fn hf hc T.plain hQ H;refine(gZ FN.EC hu hkd b _ [] gs w sl t B cs (QU hf.2.2 hq c tmps) Bs h0).mono λA7 w' t' ⟨s,r,v',u,q,B',h,i,j,l,n,o⟩=>?_
 exact⟨_,v',B',h,Za j i,l,n,o⟩
theorem uY {Od:Old} {Mem Ai:Nat->Prop} {h j:Nat} {By:Nat->m_->o_->Trace->Prop} (FN:Ul P L p N) (hu:FT Ac Z) (BI:FT Still Z) (O:Gp P Z Ac Still (fun B t=>PX Ac Still Mem Ai B h t) j By) (hf:YE L N f) (hq:∀es,seen P Ei es=seen P f es) (hkd:(kd==CallKind.early)=false) (hc:c.Bf (p f)=true)
  (hQ:∀e a w,Q e a w->(e=.normal\/e=.ret)/\a.defers=[]) (H:∀τ d,c.wpIn N m P Q ⟨tmps,[]⟩ (v.re τ d))
  {gs:Array m_} {w:o_} {sl:d_ (W_)} {t:Trace} {q:Nat->Nat} {n B:Nat} {cs:Z_} (T:Twin Od Z v w) (hZ:∀r,Z r->r<v.heap.size) (h0:gs[h]?=some (G (Frame.mk Ei tmps (.code c::k) ds .run kd none) cs)) (D:Duo P Ac Still Mem Ai B h j By n gs w t q):
  AA P gs w sl t λA7 w' t'=>∃q' n' B' g v',A7[h]?=some g/\Behind Ei kd k ds cs Q g v'/\Twin Od Z v' w'/\(∀r,Z r->r<v'.heap.size)/\v.heap.size<=v'.heap.size/\B<=B'/\Duo P Ac Still Mem Ai B' h j By n' A7 w' t' q':=by
 have b:=Y2 FN.EC FN.alive FN.depth FN.round FN.fn hf hc T.plain hQ H;refine(Τ FN.EC hu BI O hkd b _ [] gs w sl t q n B cs (QU hf.2.2 hq c tmps) T hZ h0 D).mono λA7 w' t' ⟨q',n',B',E,C,v',F,A,i,l,o,s,u,x,y,z⟩=>?_
 exact⟨q',n',B',_,v',i,Za o l,s,u,x,y,z⟩
end
def CY (I:o_->Prop):Prop:=∀v τ d,I v->I (v.re τ d)
theorem CY.back {I:o_->Prop} (h:CY I) {v:o_} {τ:Tape} {d:Nat} (hv:I (v.re τ d)):I v:=by
 have:=h (v.re τ d) v.tape v.drawn hv;exact this
def Holds (Od:Old) (P:l_) (Z:Nat->Prop) (Ac Still:Loc->Prop) (Mem Ai:Nat->Prop) (h j:Nat) (By:Nat->m_->o_->Trace->Prop) (C:m_->o_->Prop) (gs:Array m_) (w:o_) (t:Trace):Prop:=
 ∃q n B g v,gs[h]?=some g/\C g v/\Twin Od Z v w/\(∀r,Z r->r<v.heap.size)/\Duo P Ac Still Mem Ai B h j By n gs w t q
section
variable {P:l_} {L:h_->Prop} {p:h_->Oper->Bool} {N:Fence} {Z:Nat->Prop} {Ac Still:Loc->Prop} {Mem Ai:Nat->Prop} {h j:Nat} {By:Nat->m_->o_->Trace->Prop} {C C':m_->o_->Prop} {gs:Array m_} {w:o_} {sl:d_ (W_)} {t:Trace}
theorem Holds.mono {Od:Old} (H:Holds Od P Z Ac Still Mem Ai h j By C gs w t) (hc:∀g v,C g v->C' g v):Holds Od P Z Ac Still Mem Ai h j By C' gs w t:=by
 obtain⟨q,n,B,g,v,a,b,c⟩:=H;exact⟨q,n,B,g,v,a,hc g v b,c⟩
theorem Holds.walk {Od:Old} {S0:Loc->Prop} {K:o_->Prop} {k:Nat} {a a':m_} {J:o_->Prop} (hJ:∀n b w t,By n b w t->∀d,K (w.at d)) (BI:∀w a,K w->S0 (.cell a)->a.block<w.heap.size) (hSS:∀l,S0 l->¬Ac l) (O:Gp P Z Ac Still (fun B t=>PX Ac Still Mem Ai B h t) j By)
  (H:Holds Od P Z Ac Still Mem Ai h j By (λg v=>g=a/\J v) gs w t) (hw:RW P (h==0) K S0 k a a'):AA P gs w sl t (Holds Od P Z Ac Still Mem Ai h j By (λg v=>g=a'/\J v)):=by
 obtain⟨q,n,B,g,v,f,⟨rfl,i⟩,m,c,o⟩:=H;exact(kD hJ BI hSS O k hw f o).mono λy A z ⟨x,u,e,p,r,_,s⟩=>⟨x,u,e,_,v,p,⟨rfl,i⟩,m.off c r,c,s⟩
theorem Holds.RH {Od:Old} {K:o_->Prop} {k:Nat} {a a':m_} {J:o_->Prop} (hJ:∀n b w t,By n b w t->∀d,K (w.at d)) (O:Gp P Z Ac Still (fun B t=>PX Ac Still Mem Ai B h t) j By)
  (H:Holds Od P Z Ac Still Mem Ai h j By (λg v=>g=a/\J v) gs w t) (hw:J5 P K (h==0) k a a'):AA P gs w sl t (Holds Od P Z Ac Still Mem Ai h j By (λg v=>g=a'/\J v)):=by
 obtain⟨q,n,B,g,v,f,⟨rfl,i⟩,l,c,m⟩:=H;exact(GM hJ O k hw f m).mono λx z y ⟨u,s,e,o,p,_,r⟩=>⟨u,s,e,_,v,o,⟨rfl,i⟩,l.off c p,c,r⟩
theorem Holds.piece {Od:Old} {f Ei:h_} {kd:CallKind} {k:List Item} {ds:List Deferred} {Q:Exit->Act->o_->Prop} {c:Code} {tmps:X_} {m:Nat} {cs:Z_} {J:o_->Prop} (FN:Ul P L p N) (hu:FT Ac Z) (BI:FT Still Z) (O:Gp P Z Ac Still (fun B t=>PX Ac Still Mem Ai B h t) j By) (hf:YE L N f) (hq:∀es,seen P Ei es=seen P f es) (hkd:(kd==CallKind.early)=false) (hc:c.Bf (p f)=true)
  (hQ:∀e a w,Q e a w->(e=.normal\/e=.ret)/\a.defers=[]) (hw:∀v,J v->∀τ d,c.wpIn N m P Q ⟨tmps,[]⟩ (v.re τ d))
  (H:Holds Od P Z Ac Still Mem Ai h j By (λg v=>g=G (Frame.mk Ei tmps (.code c::k) ds .run kd none) cs/\J v) gs w t):AA P gs w sl t (Holds Od P Z Ac Still Mem Ai h j By (Behind Ei kd k ds cs Q)):=by
 obtain⟨q,n,B,g,v,i,⟨rfl,l⟩,o,r,s⟩:=H;exact(uY FN hu BI O hf hq hkd hc hQ (hw v l) o r i s).mono λF K I ⟨D,C,b,g,E,u,x,y,z,_,_,A⟩=>⟨D,C,b,g,E,u,x,y,z,A⟩
end
end Go.Fxa
