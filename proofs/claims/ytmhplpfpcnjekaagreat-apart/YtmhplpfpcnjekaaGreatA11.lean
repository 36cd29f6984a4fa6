/- The child's walks, put togethe -/
import Derived.Test.YtmhplpfpcnjekaaGreatA10
namespace Go.Fxa
open Go.Conc
theorem OE (x:Frame×Z_) (v:Value):Conc.served (Bv x) v=Bv (Bj x v):=rfl
structure Ow (K:World->Prop) (Still:Loc->Prop) (b5 b2 b3 r q0 q1 q2 q3:Nat) (sv:Value) (n:Int):Prop where
 c5:∀w,K w->w.cell? (S_ b5)=some (pr r)
 s5:Still (.cell (S_ b5))
 c2:∀w,K w->w.cell? (S_ b2)=some sv
 s2:Still (.cell (S_ b2))
 c3:∀w,K w->w.cell? (S_ b3)=some (.int .i64 n)
 s3:Still (.cell (S_ b3))
 r0:∀w,K w->w.cell? (S_ r)=some (CK q0)
 t0:Still (.cell (S_ r))
 r1:∀w,K w->w.cell? (T_ r 1)=some (CK q1)
 t1:Still (.cell (T_ r 1))
 r2:∀w,K w->w.cell? (T_ r 2)=some (CK q2)
 t2:Still (.cell (T_ r 2))
 r3:∀w,K w->w.cell? (T_ r 3)=some (CK q3)
 t3:Still (.cell (T_ r 3))
theorem Qo {x:Frame×Z_}:∀{l:List (Nat×Value)},slotsOf x (l.map (·.1))=l.map (·.2)->AR (slot x) l=slot x
 | l,h=>JM fun p hp=>by
  induction l with
  | nil=>cases hp
  | cons a l ih=>
   simp only[List.map_cons,slotsOf,List.cons.injEq]at h
   rcases List.mem_cons.1 hp with rfl|hp
   ·exact h.1
   ·exact ih h.2 hp
theorem at_told {x:Frame×Z_} {fn:FuncId} {todo:List Item} {Y:Z_} {l:List (Nat×Value)} (h:Ch x=(fn,todo,[],.run,.normal,none,Y)) (hs:slotsOf x (l.map (·.1))=l.map (·.2)) (hz:x.1.tmps.size=32):
  x=(Frame.mk fn (fH (AR (slot x) l)) todo [] .run .normal none,Y):=by
 rw[Qo hs];exact kJ h hz
section
variable {P:Program} {K:World->Prop} {Still:Loc->Prop} {main:Bool} {b5 b2 b3 r q0 q1 q2 q3:Nat} {sv:Value} {n:Int}
theorem Y1 (F:Dh P b5 b2 b3 r q0 q1 q2 q3 sv n) (R:Ow K Still b5 b2 b3 r q0 q1 q2 q3 sv n):
  ∃f,RW P main K Still 21 (Bv (ch0 P b5 b2 b3)) (Bv (LH P (AR f (JY r sv n 0)) (Qa P b5 b2 b3 r sv n))):=by
 have h:RW P main K Still 21 (Bv (ch0 P b5 b2 b3)) (Bv (run P 9 (zg P b5 b2 b3 r sv n))):=((((((RW.Av (main:=main) (K:=K) (Still:=Still) F.f01).trans (RW.at F.f02 R.c5 R.s5)).trans (RW.Av F.f03)).trans (RW.at F.f04 R.c5 R.s5)).trans (RW.at F.f05 R.c2 R.s2)).trans (RW.at F.f06 R.c3 R.s3)).trans (RW.Av F.f07);have e:=at_told (l:=JY r sv n 0) F.f08 F.f09 F.f10;refine⟨slot (run P 9 (zg P b5 b2 b3 r sv n)),?_⟩;rw[e]at h;exact h
theorem eH (F:Dh P b5 b2 b3 r q0 q1 q2 q3 sv n) (f:Y_) (Y:Z_) {i:Int} (hi:i<n):
  ∃f',RW P main K Still 10 (Bv (LH P (AR f (JY r sv n i)) Y)) (Bv (Frame.mk 136 (fH (AR f' (JY r sv n i))) (.code (Q3 P)::nD P) [] .run .normal none,Y)):=by
 have hc:=F.l2 f Y i;rw[decide_eq_true hi]at hc;have h:RW P main K Still 10 (Bv (LH P (AR f (JY r sv n i)) Y)) (Bv (lr P (AR f (JY r sv n i)) Y)):=((RW.Av (main:=main) (K:=K) (Still:=Still) (F.l1 f Y i)).trans (RW.Vu (Ye hc))).trans (RW.Av (F.l3 f Y i));have e:=at_told (l:=JY r sv n i) (F.l4 f Y i) (F.l5 f Y i) (F.l6 f Y i);refine⟨slot (lr P (AR f (JY r sv n i)) Y),?_⟩;rw[e]at h;exact h
theorem rz (F:Dh P b5 b2 b3 r q0 q1 q2 q3 sv n) (f:Y_) (Y:Z_) (i:Int) (x:Value):
  ∃f',RW P main K Still 28 (Bv (RB P (AR f (DT r sv n i 0 x)) Y)) (Bv (LH P (AR f' (JY r sv n (IntKind.i64.wrap (i+1)))) Y)):=by
 have h:=RW.Av (main:=main) (K:=K) (Still:=Still) (F.s01 f Y i x);have e:=at_told (l:=JY r sv n (IntKind.i64.wrap (i+1))) (F.s02 f Y i x) (F.s03 f Y i x) (F.s04 f Y i x);refine⟨slot (run P 28 (RB P (AR f (DT r sv n i 0 x)) Y)),?_⟩;rw[e]at h;exact h
theorem Y0 (F:Dh P b5 b2 b3 r q0 q1 q2 q3 sv n) (R:Ow K Still b5 b2 b3 r q0 q1 q2 q3 sv n) (f:Y_) (Y:Z_) (i:Int) (x:Value):
  RW P main K Still 42 (Bv (RB P (AR f (DT r sv n i 1 x)) Y)) (Bv (k3 P q0 q3 (AR f (DT r sv n i 1 x)) Y)):=
 ((((RW.Av (F.s11 f Y i x)).trans (RW.at (F.s12 f Y i x) R.r0 R.t0)).trans (RW.Av (F.s13 f Y i x))).trans (RW.at (F.s14 f Y i x) R.r3 R.t3)).trans (RW.Av (F.s15 f Y i x))
theorem eF (F:Dh P b5 b2 b3 r q0 q1 q2 q3 sv n) (R:Ow K Still b5 b2 b3 r q0 q1 q2 q3 sv n) (f:Y_) (Y:Z_) (i:Int) (x:Value):
  Fu P main K Still (Fh q1 q3) .select (fun g=>g=Bv (m3 P q0 q1 q3 x (AR f (DT r sv n i 1 x)) Y)) 24 (Conc.served (Bv (k3 P q0 q3 (AR f (DT r sv n i 1 x)) Y)) (commResult (Xk q0 q3 x) .select 0 undef false)):=by
 have h:=((((RW.Av (main:=main) (K:=K) (Still:=Still) (F.m11 f Y i x)).trans (RW.at (F.m12 f Y i x) R.r1 R.t1)).trans (RW.Av (F.m13 f Y i x))).trans (RW.at (F.m14 f Y i x) R.r3 R.t3)).trans (RW.Av (F.m15 f Y i x));exact RW.seat (k:=0) (home:=fun g=>g=Bv (m3 P q0 q1 q3 x (AR f (DT r sv n i 1 x)) Y)) (g':=Bv (m3 P q0 q1 q3 x (AR f (DT r sv n i 1 x)) Y)) rfl ⟨_,#[],rfl,rfl,by simp,fun w _=>Gj (F.m16 f Y i x) w⟩ h
theorem YY (F:Dh P b5 b2 b3 r q0 q1 q2 q3 sv n) (f:Y_) (i:Int) (x:Value) {a b c d:Value}:
  IJ P (Cv r #[a,b,c,d] 257) main 37 (Conc.served (Bv (m3 P q0 q1 q3 x (AR f (DT r sv n i 1 x)) (Qa P b5 b2 b3 r sv n))) (commResult (Fh q1 q3) .select 1 (.agg #[]) false)) (Bv (dR P r (Oq P b5 b2 b3 r sv n))):=
 ER (Fy) (F.q1_ f i x) (by simp)
theorem kW (F:Dh P b5 b2 b3 r q0 q1 q2 q3 sv n) (R:Ow K Still b5 b2 b3 r q0 q1 q2 q3 sv n) (f:Y_) (Y:Z_) (i:Int) (x:Value):
  RW P main K Still 31 (Bv (RB P (AR f (DT r sv n i 2 x)) Y)) (Bv (e3 P q2 q3 (AR f (DT r sv n i 2 x)) Y)):=
 ((((RW.Av (F.e11 f Y i x)).trans (RW.at (F.e12 f Y i x) R.r2 R.t2)).trans (RW.Av (F.e13 f Y i x))).trans (RW.at (F.e14 f Y i x) R.r3 R.t3)).trans (RW.Av (F.e15 f Y i x))
theorem Ww (F:Dh P b5 b2 b3 r q0 q1 q2 q3 sv n) (f:Y_) (i:Int) (x:Value) {a b c d:Value}:
  IJ P (Cv r #[a,b,c,d] 257) main 31 (Conc.served (Bv (e3 P q2 q3 (AR f (DT r sv n i 2 x)) (Qa P b5 b2 b3 r sv n))) (commResult (Vo q2 q3 2) .select 0 undef false)) (Bv (dR P r (Oq P b5 b2 b3 r sv n))):=
 ER (Fy) (F.e17 f i x) (by simp)
theorem QV (F:Dh P b5 b2 b3 r q0 q1 q2 q3 sv n) (R:Ow K Still b5 b2 b3 r q0 q1 q2 q3 sv n) (f:Y_) (Y:Z_) {i:Int} (hi:¬i<n):
  RW P main K Still 30 (Bv (LH P (AR f (JY r sv n i)) Y)) (Bv (d3 P q2 q3 (AR f (JY r sv n i)) Y)):=by
 have hc:=F.l2 f Y i;rw[decide_eq_false hi]at hc;exact((((((RW.Av (F.l1 f Y i)).trans (RW.Vu (Ye hc))).trans (RW.Av (F.d11 f Y i))).trans (RW.at (F.d12 f Y i) R.r2 R.t2)).trans (RW.Av (F.d13 f Y i))).trans (RW.at (F.d14 f Y i) R.r3 R.t3)).trans (RW.Av (F.d15 f Y i))
theorem TB (F:Dh P b5 b2 b3 r q0 q1 q2 q3 sv n) (f:Y_) (i:Int) {a b c d:Value}:
  IJ P (Cv r #[a,b,c,d] 257) main 31 (Conc.served (Bv (d3 P q2 q3 (AR f (JY r sv n i)) (Qa P b5 b2 b3 r sv n))) (commResult (Vo q2 q3 0) .select 0 undef false)) (Bv (dR P r (Oq P b5 b2 b3 r sv n))):=
 ER (Fy) (F.d17 f i) (by simp)
end
end Go.Fxa
namespace Go.Fxa
open Go.Conc
open Go.ConcN (sumTo upd sumTo_upd upd_ne upd_same)
def JJ:Item:=.code (.refuse "")
theorem LW {id:Nat} {A B:List Item} (hA:exitTo id A=none):∀{fs k':List Item},exitTo id (fs++A)=some k'->∃Jy,k'=Jy++A/\exitTo id (fs++B)=some (Jy++B)
 | [],k',h=>by rw[List.nil_append,hA]at h;cases h
 | it::fs,k',h=>by
  cases it with
  | inBlock id'=>
   simp only[List.cons_append,exitTo]at h ⊢
   split at h
   ·rename_i hc;obtain rfl:=Option.some.inj h;exact⟨fs,rfl,by rw[if_pos hc]⟩
   ·rename_i hc;obtain⟨Jy,e,h'⟩:=LW hA h;exact⟨Jy,e,by rw[if_neg hc];exact h'⟩
  | _=>
   simp only[List.cons_append,exitTo]at h ⊢
   exact LW hA h
section
variable {P:Program} {L:FuncId->Prop} {p:FuncId->Oper->Bool} {Z:Nat->Prop}
theorem UU {fn Dq:FuncId} (hq:∀es,seen P Dq es=seen P fn es) {tmps:X_} {it:Item} {fs A B:List Item} {dl ds:List Deferred} {kl kd:CallKind} {pf:Oper->Bool} {b:Bool} (hkl:(kl==CallKind.early)=false) (hkd:(kd==CallKind.early)=false) (hA:∀id,exitTo id A=none) (Gb:it.DJ pf=true)
  (hdr:∀id ops,it≠.code (.region id ops true)) {w w':World} {X:Z_} {g':Goroutine} {es:Array Event}
  (hn:∀ops i rest o,it=.inRegion ops (i::rest)->ops[i]?=some o->Region.wanted o (yielded ops tmps)=true->∃n w1 JX,(execOp (Frame.mk fn tmps (it::(fs++A)) dl .run kl none).eval o).runT P w #[]=(.ok n w1,JX)/\Ec L b n)
  (h:stepG P true (G (Frame.mk fn tmps (it::(fs++A)) dl .run kl none) X) w=.go g' w' es):
  (∃Eh Jy m df,(b=false->df=[])/\(m=.run\/m=.returning)/\g'=G (Frame.mk fn Eh (Jy++A) (df++dl) m kl none) X/\∀main Y,stepG P main (G (Frame.mk Dq tmps (it::(fs++B)) ds .run kd none) Y) w=.go (G (Frame.mk Dq Eh (Jy++B) (df++ds) m kd none) Y) w' es)\/
  (∃f args,(∃ops i rest,it=.inRegion ops (i::rest))/\g'=G (Frame.enter P f args .normal) (Frame.mk fn tmps (it::(fs++A)) dl .run kl none::X)/\
   ∀main Y,stepG P main (G (Frame.mk Dq tmps (it::(fs++B)) ds .run kd none) Y) w=.go (G (Frame.enter P f args .normal) (Frame.mk Dq tmps (it::(fs++B)) ds .run kd none::Y)) w' es):=by
 have quiet:∀{Eh:X_} {Jy:List Item} {m:FrameMode},(m=.run\/m=.returning)->stepG P true (G (Frame.mk fn tmps (it::(fs++A)) dl .run kl none) X) w=.go (G (Frame.mk fn Eh (Jy++A) dl m kl none) X) w #[]->
   (∀main Y,stepG P main (G (Frame.mk Dq tmps (it::(fs++B)) ds .run kd none) Y) w=.go (G (Frame.mk Dq Eh (Jy++B) ds m kd none) Y) w #[])->
   (∃Eh Jy m df,(b=false->df=[])/\(m=.run\/m=.returning)/\g'=G (Frame.mk fn Eh (Jy++A) (df++dl) m kl none) X/\∀main Y,stepG P main (G (Frame.mk Dq tmps (it::(fs++B)) ds .run kd none) Y) w=.go (G (Frame.mk Dq Eh (Jy++B) (df++ds) m kd none) Y) w' es):=by
  intro Eh Jy m hm e1 e2
  rw[e1]at h
  injection h with g1 g2 g3
  subst g1 g2 g3
  exact⟨Eh,Jy,m,[],fun _=>rfl,hm,rfl,e2⟩
 cases it with
 | inBlock id=>exact .inl (quiet (Eh:=tmps) (Jy:=fs) (.inl rfl) (by simp[G,stepG,stepG.exec]) (fun main Y=>by simp[G,stepG,stepG.exec]))
 | inLoop c=>exact .inl (quiet (Eh:=tmps) (Jy:=.code c::.inLoop c::fs) (.inl rfl) (by simp[G,stepG,stepG.exec]) (fun main Y=>by simp[G,stepG,stepG.exec]))
 | inScope c=>simp[Item.DJ]at Gb
 | inRangeFunc l=>simp[Item.DJ]at Gb
 | endRangeFunc l=>simp[Item.DJ]at Gb
 | beginRound=>simp[Item.DJ]at Gb
 | call d a b c=>simp[Item.DJ]at Gb
 | extern a b=>simp[Item.DJ]at Gb
 | code c=>
  cases c with
  | skip=>exact .inl (quiet (Eh:=tmps) (Jy:=fs) (.inl rfl) (by simp[G,stepG,stepG.exec]) (fun main Y=>by simp[G,stepG,stepG.exec]))
  | label l=>exact .inl (quiet (Eh:=tmps) (Jy:=fs) (.inl rfl) (by simp[G,stepG,stepG.exec]) (fun main Y=>by simp[G,stepG,stepG.exec]))
  | ret=>exact .inl (quiet (Eh:=tmps) (Jy:=.code .ret::fs) (.inr rfl) (by simp[G,stepG,stepG.exec]) (fun main Y=>by simp[G,stepG,stepG.exec]))
  | rangeFunc f ps a b=>simp[Item.DJ,Code.A9]at Gb
  | scope c=>simp[Item.DJ,Code.A9]at Gb
  | goto l=>simp[Item.DJ,Code.A9]at Gb
  | refuse s=>simp[G,stepG,stepG.exec]at h
  | seq a b=>exact .inl (quiet (Eh:=tmps) (Jy:=.code a::.code b::fs) (.inl rfl) (by simp[G,stepG,stepG.exec]) (fun main Y=>by simp[G,stepG,stepG.exec]))
  | cond c a b=>
   cases hv:(Frame.mk fn tmps (.code (.cond c a b)::(fs++A)) dl .run kl none).eval c with
   | bool t=>
    have hv':(Frame.mk Dq tmps (.code (.cond c a b)::(fs++B)) ds .run kd none).eval c=.bool t:=by rw[<-hv];cases c<;>rfl
    exact .inl (quiet (Eh:=tmps) (Jy:=.code (if t then a else b)::fs) (.inl rfl) (by simp[G,stepG,stepG.exec,hv]) (fun main Y=>by simp[G,stepG,stepG.exec,hv']))
   | _=>simp[G,stepG,stepG.exec,hv]at h
  | block id c=>exact .inl (quiet (Eh:=tmps) (Jy:=.code c::.inBlock id::fs) (.inl rfl) (by simp[G,stepG,stepG.exec]) (fun main Y=>by simp[G,stepG,stepG.exec]))
  | loop c=>exact .inl (quiet (Eh:=tmps) (Jy:=.code c::.inLoop c::fs) (.inl rfl) (by simp[G,stepG,stepG.exec]) (fun main Y=>by simp[G,stepG,stepG.exec]))
  | exit id=>
   cases hx:exitTo id (fs++A)with
   | none=>simp[G,stepG,stepG.exec,hx]at h
   | some k'=>
    obtain⟨Jy,rfl,Fj⟩:=LW (B:=B) (hA id) hx
    exact .inl (quiet (Eh:=tmps) (Jy:=Jy) (.inl rfl) (by simp[G,stepG,stepG.exec,hx]) (fun main Y=>by simp[G,stepG,stepG.exec,Fj]))
  | region id ops draw=>
   cases draw with
   | true=>exact(hdr id ops rfl).elim
   | false=>exact .inl (quiet (Eh:=tmps) (Jy:=.inRegion ops (List.range ops.size)::fs) (.inl rfl) (by simp[G,stepG,stepG.exec]) (fun main Y=>by simp[G,stepG,stepG.exec]))
 | inRegion ops l=>
  cases l with
  | nil=>exact .inl (quiet (Eh:=tmps) (Jy:=fs) (.inl rfl) (by simp[G,stepG,stepG.exec]) (fun main Y=>by simp[G,stepG,stepG.exec]))
  | cons i rest=>
   by_cases hw:((ops[i]?).map (Region.wanted · (yielded ops tmps))).getD false=true
   ·cases ho:ops[i]? with
    | none=>rw[ho]at hw;simp at hw
    | some o=>
     rw[ho]at hw
     simp only[Option.map_some,Option.getD_some]at hw
     have EY:(Frame.mk Dq tmps (.inRegion ops (i::rest)::(fs++B)) ds .run kd none).eval=(Frame.mk fn tmps (.inRegion ops (i::rest)::(fs++A)) dl .run kl none).eval:=funext fun x=>by cases x<;>rfl
     have Fq:stepG P true (G (Frame.mk fn tmps (.inRegion ops (i::rest)::(fs++A)) dl .run kl none) X) w=
       stepG.apply P true (Frame.mk fn tmps (.inRegion ops (i::rest)::(fs++A)) dl .run kl none) X none (execOp (Frame.mk fn tmps (.inRegion ops (i::rest)::(fs++A)) dl .run kl none).eval o) w:=by
      simp[G,stepG,stepG.exec,stepG.oper,Frame.oper?,ho,hw]
     have tJ:∀main Y,stepG P main (G (Frame.mk Dq tmps (.inRegion ops (i::rest)::(fs++B)) ds .run kd none) Y) w=
       stepG.apply P true (Frame.mk Dq tmps (.inRegion ops (i::rest)::(fs++B)) ds .run kd none) Y none (execOp (Frame.mk fn tmps (.inRegion ops (i::rest)::(fs++A)) dl .run kl none).eval o) w:=fun main Y=>by
      rw[<-EY]
      simp[G,stepG,stepG.exec,stepG.oper,Frame.oper?,ho,hw]
     rw[Fq]at h
     obtain⟨n,w1,JX,Gy,hn'⟩:=hn ops i rest o rfl ho hw
     have fin:∀x,(∃Eh Jy,(Frame.mk fn tmps (.inRegion ops (i::rest)::(fs++A)) dl .run kl none).finish x=Frame.mk fn Eh (Jy++A) dl .run kl none/\
       (Frame.mk Dq tmps (.inRegion ops (i::rest)::(fs++B)) ds .run kd none).finish x=Frame.mk Dq Eh (Jy++B) ds .run kd none):=fun x=>⟨_,.inRegion ops rest::fs,rfl,rfl⟩
     cases n<;>first|exact hn'.elim|skip
     ·rename_i x;obtain⟨t',Jy,e1,e2⟩:=fin x;simp only[stepG.apply,Gy,if_true,GStep.after,Array.append_empty,hkl,Bool.false_eq_true,if_false]at h;injection h with g1 g2 g3;subst g2 g3;refine .inl ⟨t',Jy,.run,[],fun _=>rfl,.inl rfl,by rw[<-g1,e1];rfl,fun main Y=>?_⟩;rw[tJ];simp only[stepG.apply,Gy,if_true,GStep.after,Array.append_empty,e2,hq,hkd,Bool.false_eq_true,if_false]
      rfl
     ·obtain⟨t',Jy,e1,e2⟩:=fin undef;simp only[stepG.apply,Gy,if_true,GStep.after,Array.append_empty,hkl,Bool.false_eq_true,if_false]at h;injection h with g1 g2 g3;subst g2 g3;refine .inl ⟨t',Jy,.run,[],fun _=>rfl,.inl rfl,by rw[<-g1,e1];rfl,fun main Y=>?_⟩;rw[tJ];simp only[stepG.apply,Gy,if_true,GStep.after,Array.append_empty,e2,hq,hkd,Bool.false_eq_true,if_false]
      rfl
     ·rename_i f args;simp only[stepG.apply,Gy,if_true,GStep.after,Array.append_empty,hkl,Bool.false_eq_true,if_false]at h;injection h with g1 g2 g3;subst g2 g3;refine .inr ⟨f,args,⟨_,_,_,rfl⟩,by rw[<-g1];rfl,fun main Y=>?_⟩;rw[tJ];simp only[stepG.apply,Gy,if_true,GStep.after,Array.append_empty,hq,hkd,Bool.false_eq_true,if_false]
      rfl
     ·rename_i d;simp only[stepG.apply,Gy,if_true,GStep.after,Array.append_empty,hkl,Bool.false_eq_true,if_false]at h;injection h with g1 g2 g3;subst g2 g3;have e1:({ fn:=fn,tmps:=tmps,todo:=.inRegion ops (i::rest)::(fs++A),defers:=d::dl,mode:=.run,kind:=kl,roundOf:=none }:Frame).finish undef=Frame.mk fn (match (ops[i]?).bind (·.dst)with|some d=>tmps.setIfInBounds d undef|none=>tmps) ((.inRegion ops rest::fs)++A) ([d]++dl) .run kl none:=rfl;have e2:({ fn:=Dq,tmps:=tmps,todo:=.inRegion ops (i::rest)::(fs++B),defers:=d::ds,mode:=.run,kind:=kd,roundOf:=none }:Frame).finish undef=Frame.mk Dq (match (ops[i]?).bind (·.dst)with|some d=>tmps.setIfInBounds d undef|none=>tmps) ((.inRegion ops rest::fs)++B) ([d]++ds) .run kd none:=rfl;refine .inl ⟨_,_,.run,[d],fun hb=>(by have:=hn'.1;rw[hb]at this;cases this),.inl rfl,by rw[<-g1];exact congrArg (G · X) e1,fun main Y=>?_⟩;rw[tJ];simp only[stepG.apply,Gy,if_true,GStep.after,Array.append_empty,hq,hkd,Bool.false_eq_true,if_false];exact congrArg (fun z=>GStep.go (G z Y) w1 (seen P fn JX)) e2
   ·have hw':((ops[i]?).map (Region.wanted · (yielded ops tmps))).getD false=false:=(by simpa using hw);have fin:∀x,(∃Eh Jy,(Frame.mk fn tmps (.inRegion ops (i::rest)::(fs++A)) dl .run kl none).finish x=Frame.mk fn Eh (Jy++A) dl .run kl none/\
      (Frame.mk Dq tmps (.inRegion ops (i::rest)::(fs++B)) ds .run kd none).finish x=Frame.mk Dq Eh (Jy++B) ds .run kd none):=fun x=>⟨_,.inRegion ops rest::fs,rfl,rfl⟩
    obtain⟨t',Jy,e1,e2⟩:=fin undef;exact .inl (quiet (Eh:=t') (Jy:=Jy) (.inl rfl) (by rw[<-e1];simp[G,stepG,stepG.exec,hw']) (fun main Y=>by rw[<-e2];simp[G,stepG,stepG.exec,hw']))
theorem am7 {Od:Old} (F:Mi P L p) {fn:FuncId} {tmps:X_} {ops:Array Oper} {i:Nat} {rest:List Nat} {k:List Item} {pre:Z_} {dl:List Deferred} {kl:CallKind} (hkl:(kl==CallKind.early)=false) {v w v':World} {g':Goroutine} {es:Array Event} {o:Oper} (T:Twin Od Z v w) (hZ:∀r,Z r->r<v.heap.size)
  (I6:∀j,j<v'.drawn-v.drawn->∀q,w.tape (w.drawn+j) q=v.tape (v.drawn+j) q) (hab:∀f,(Frame.mk fn tmps (.inRegion ops (i::rest)::k) dl .run kl none).about P v=some f->L f\/Ext P f) (Gb:(Item.inRegion ops (i::rest)).DJ (p fn)=true)
  (ho:ops[i]?=some o) (hw:Region.wanted o (yielded ops tmps)=true) (h:stepG P true (G (Frame.mk fn tmps (.inRegion ops (i::rest)::k) dl .run kl none) pre) v=.go g' v' es) (Zd:∀ch,g'.frame.mode≠.panicking ch):
  ∃n w1 JX,(execOp (Frame.mk fn tmps (.inRegion ops (i::rest)::k) dl .run kl none).eval o).runT P w #[]=(.ok n w1,JX)/\Ec L (Zo fn) n:=by
 have hpo:p fn o=true:=by
  simp only[Item.DJ,Array.all_eq_true]at Gb
  obtain⟨BC,rfl⟩:=Array.getElem?_eq_some_iff.1 ho
  exact Gb i BC
 rw[JQ ho]at hab;have ht:=F.op fn o hpo _ v T.plain hab;have Fq:stepG P true (G (Frame.mk fn tmps (.inRegion ops (i::rest)::k) dl .run kl none) pre) v=
   stepG.apply P true (Frame.mk fn tmps (.inRegion ops (i::rest)::k) dl .run kl none) pre none (execOp (Frame.mk fn tmps (.inRegion ops (i::rest)::k) dl .run kl none).eval o) v:=by
  simp[G,stepG,stepG.exec,stepG.oper,Frame.oper?,ho,hw]
 rw[Fq]at h;cases Gy:(execOp (Frame.mk fn tmps (.inRegion ops (i::rest)::k) dl .run kl none).eval o).runT P v #[]with
 | mk r JX=>
  cases r with
  | ok n v1=>
   have hn:Ec L (Zo fn) n:=by
    obtain⟨_,_,hK,_⟩:=OZ (Od:=JG) (Z:=Z) ht (v:=v) (w:=v.re v.tape v.drawn) (@Twin.mk JG _ _ _ rfl (fun _ _ _=>rfl) T.dead T.plain rfl rfl (fun _ h=>False.elim h) (fun _ h=>False.elim h) (fun _ h=>False.elim h)) hZ Gy (fun _ _ _=>rfl)
    exact hK
   have hv:v'=v1:=by
    cases n<;>first|exact hn.elim|skip
    all_goals
     simp only[stepG.apply,Gy,if_true,GStep.after,Array.append_empty,hkl,Bool.false_eq_true,if_false]at h
     injection h with g1 g2 g3
     exact g2.symm
   subst hv
   obtain⟨w',more,_,hw',_⟩:=OZ ht T hZ Gy I6
   exact⟨n,w',_,hw',hn⟩
  | halt hh v1=>
   have hd:=VP ht T.plain Gy
   exfalso
   cases hh with
   | panic x=>
    simp only[stepG.apply,Gy,if_true,GStep.after]at h
    injection h with g1 g2 g3
    exact Zd _ (by rw[<-g1];rfl)
   | stuck x=>simp only[stepG.apply,Gy,if_true,GStep.after,reduceCtorEq]at h
   | unsupported x=>
    cases x with
    | initOrder g=>simp[Halt.IM]at hd
    | _=>simp only[stepG.apply,Gy,if_true,GStep.after,reduceCtorEq]at h
   | _=>simp[Halt.IM]at hd
def DY (P:Program) (Dq:FuncId) (kd:CallKind) (k:List Item) (ds:List Deferred) (vs rs:Z_):Prop:=
 ∃xs fn tmps front m,vs=xs++[Frame.mk fn tmps (front++[JJ]) [] m .normal none]/\rs=xs++[Frame.mk Dq tmps (front++k) ds m kd none]/\(∀es,seen P Dq es=seen P fn es)/\Zo fn=false/\(xs≠[]->m=.run/\∃ops i rest fs,front=.inRegion ops (i::rest)::fs)
theorem UR {Od:Old} (F:Mi P L p) {Dq:FuncId} {kd:CallKind} (hkd:(kd==CallKind.early)=false) {k:List Item} {ds:List Deferred} {C:Frame->Z_->World->Prop} {fr:Frame} {pre:Z_} {v w:World} {rf:Frame} {rs:Z_} (St:DY P Dq kd k ds (fr::pre) (rf::rs))
  (T:Twin Od Z v w) (hZ:∀r,Z r->r<v.heap.size) (GG:∀τ d,Good P L p fr pre (v.re τ d)/\∃Di BV v',FL P fr pre (v.re τ d) Di BV v'/\C Di BV v'):
  ∃Di BV v' LY rs' w' es,C Di BV v'/\DY P Dq kd k ds (Di::BV) (LY::rs')/\Twin Od Z v' w'/\v.heap.size<=v'.heap.size/\(∀r,Z r->w'.heap[r]?=w.heap[r]?)/\(∀e∈es,rT Z v'.heap.size e)/\
   ∀main cs,stepG P main (G rf (rs++cs)) w=.go (G LY (rs'++cs)) w' es:=by
 obtain⟨xs,fn,tmps,front,m,hv,hr,hq,hdn,hx⟩:=St;by_cases hd:fr.mode=.run/\∃id ops fs,fr.todo=.code (.region id ops true)::fs
 ·
  obtain⟨hm,id,ops,fs,htd⟩:=hd;obtain⟨hg,Di,BV,v',⟨es,BH,Zd⟩,hC⟩:=GG (fun i q=>match q with
   | .order _ _=>w.tape w.drawn (.order rf.fn id)
   | _=>w.tape i q) w.drawn;obtain⟨f0,t0,yK,d0,m0,k0,r0⟩:=fr;obtain⟨_,h2,h2',h3,h4,_⟩:=hg.ok;simp only at hm htd h2 h2' h3 h4;subst hm htd h4;have hs:∀fnx tx kx dsx kdx main (Y:Z_) (u:World),stepG P main (G (Frame.mk fnx tx (.code (.region id ops true)::kx) dsx .run kdx none) Y) u=
    .go (G (Frame.mk fnx tx (.inRegion ops (Region.schedule (P.follows .mixedOrders) ops (u.tape u.drawn (.order fnx id)))::kx) dsx .run kdx none) Y) { u with drawn:=u.drawn+1 } #[]:=fun fnx tx kx dsx kdx main Y u=>by
   simp[G,stepG,stepG.exec,choose,Sem.run,Question.forced,Question.cut]
  rw[hs]at BH;injection BH with g1 g2 g3;simp only[G,Goroutine.mk.injEq]at g1;obtain⟨g1,g1',_⟩:=g1;subst g1 g1' g2 g3;simp only[World.re]at hC;have T':∀τ,Twin Od Z { heap:=v.heap,tape:=τ,drawn:=w.drawn+1,os:=v.os,output:=v.output } { w with drawn:=w.drawn+1 }:=fun τ=>⟨T.size,T.same,T.dead,T.plain,T.os,T.output,T.Io,T.kept,T.TG⟩
  cases xs with
  | nil=>
   simp only[List.nil_append,List.cons.injEq]at hv hr
   obtain⟨hv,rfl⟩:=hv
   obtain⟨rfl,rfl⟩:=hr
   simp only[Frame.mk.injEq]at hv
   obtain⟨rfl,rfl,htd,rfl,rfl,rfl,_⟩:=hv
   cases front with
   | nil=>simp[JJ]at htd
   | cons it Jy=>
    simp only[List.cons_append,List.cons.injEq]at htd
    obtain⟨rfl,rfl⟩:=htd
    exact⟨_,_,_,_,[],{ w with drawn:=w.drawn+1 },#[],hC,⟨[],_,_,.inRegion ops _::Jy,.run,rfl,rfl,hq,hdn,fun h=>(h rfl).elim⟩,T' _,Nat.le_refl _,fun _ _=>rfl,by simp,fun main cs=>hs _ _ _ _ _ main _ w⟩
  | cons x xs=>
   simp only[List.cons_append,List.cons.injEq]at hv hr
   obtain⟨rfl,rfl⟩:=hv
   obtain⟨rfl,rfl⟩:=hr
   exact⟨_,_,_,_,_,{ w with drawn:=w.drawn+1 },#[],hC,⟨_::xs,fn,tmps,front,m,rfl,rfl,hq,hdn,fun _=>hx (by simp)⟩,T' _,Nat.le_refl _,fun _ _=>rfl,by simp,fun main cs=>hs _ _ _ _ _ main _ w⟩
 ·obtain⟨hg,Di,BV,v',⟨es,BH,Zd⟩,hC⟩:=GG w.tape w.drawn;have T1:Twin Od Z (v.re w.tape w.drawn) w:=T.Ot w.tape w.tape w.drawn w.drawn;obtain⟨WB,mh,w',e,_,_,_,_,_,_,g3,T',hkz,_,_,EY,hw⟩:=Lx F (w:=w) hg.ok hg.below hg.mode hg.about T1 hZ BH Zd (fun _ _ _=>rfl);simp only[G,Goroutine.mk.injEq]at e;obtain⟨rfl,rfl,_⟩:=e;have E:=hw true [];rw[List.append_nil,List.append_nil]at E;obtain⟨f0,t0,yK,d0,m0,k0,r0⟩:=fr;obtain⟨hfn,h2,h2',h3,h4,h5⟩:=hg.ok;simp only at hd h2 h2' h3 h4 h5 hfn;subst h4;have hke:(k0==CallKind.early)=false:=by rcases h3 with rfl|rfl<;>rfl
  have hmode:=hg.mode;have hbel:=hg.below;have habout:=hg.about;simp only at hmode;have oG:∀it k',m0=.run->yK=it::k'->∀ops i rest o,it=.inRegion ops (i::rest)->ops[i]?=some o->Region.wanted o (yielded ops t0)=true->∃n w1 JX,(execOp (Frame.mk f0 t0 (it::k') d0 .run k0 none).eval o).runT P w #[]=(.ok n w1,JX)/\Ec L (Zo f0) n:=by
   rintro it k' rfl rfl ops i rest o rfl ho hw'
   exact am7 F hke T1 hZ (fun _ _ _=>rfl) habout (h5 _ (List.mem_cons_self ..)) ho hw' BH Zd
  cases xs with
  | nil=>
   simp only[List.nil_append,List.cons.injEq]at hv hr
   obtain⟨hv,rfl⟩:=hv
   obtain⟨rfl,rfl⟩:=hr
   simp only[Frame.mk.injEq,and_true]at hv
   obtain⟨rfl,rfl,rfl,rfl,rfl,rfl⟩:=hv
   obtain rfl:m0=.run:=hmode.elim id fun x=>(x.2 rfl).elim
   cases front with
   | nil=>simp[G,stepG,stepG.exec,JJ]at E
   | cons it fs=>
    rcases UU (L:=L) (b:=Zo f0) (pf:=p f0) (B:=k) (dl:=[]) (ds:=ds) (kl:=.normal) (kd:=kd) (Dq:=Dq) hq rfl hkd (A:=[JJ]) (fun _=>rfl) (h5 it (by simp)) (fun id ops e=>hd ⟨rfl,id,ops,_,by rw[e];rfl⟩) (oG it (fs++[JJ]) rfl rfl) E with⟨t',Jy,m',df,hdf,hm',e1,e2⟩|⟨f,args,⟨ops,i,rest,rfl⟩,e1,e2⟩
    ·obtain rfl:=hdf hdn;simp only[G,Goroutine.mk.injEq]at e1;obtain⟨rfl,rfl,_⟩:=e1;exact⟨_,_,v',_,[],w',es,hC,⟨[],_,t',Jy,m',rfl,rfl,hq,hdn,fun h=>(h rfl).elim⟩,T',g3,hkz,EY,fun main cs=>e2 main _⟩
    ·simp only[G,Goroutine.mk.injEq]at e1;obtain⟨rfl,rfl,_⟩:=e1;exact⟨_,_,v',_,[_],w',es,hC,⟨[_],_,_,_,_,rfl,rfl,hq,hdn,fun _=>⟨rfl,ops,i,rest,fs,rfl⟩⟩,T',g3,hkz,EY,fun main cs=>e2 main _⟩
  | cons x xs=>
   simp only[List.cons_append,List.cons.injEq]at hv hr
   obtain⟨rfl,rfl⟩:=hv
   obtain⟨rfl,rfl⟩:=hr
   have Fj:=hx (by simp)
   rcases hmode with rfl|⟨rfl,_⟩
   ·cases yK with
    | nil=>
     have hs:∀main (Y:Z_) (u:World),stepG P main (G (Frame.mk f0 t0 [] d0 .run k0 none) Y) u=.go (G (Frame.mk f0 t0 [] d0 .returning k0 none) Y) u #[]:=fun main Y u=>by simp[G,stepG,stepG.exec]
     rw[hs]at E
     injection E with a1 a2 a3
     simp only[G,Goroutine.mk.injEq]at a1
     obtain⟨rfl,rfl,_⟩:=a1
     subst a2 a3
     exact⟨_,_,v',_,_,_,_,hC,⟨_::xs,fn,tmps,front,m,rfl,rfl,hq,hdn,fun _=>Fj⟩,T',g3,hkz,EY,fun main cs=>hs main _ _⟩
    | cons it fs=>
     have R:=UU (L:=L) (b:=Zo f0) (pf:=p f0) (P:=P) (fn:=f0) (Dq:=f0) (tmps:=t0) (it:=it) (fs:=fs) (A:=[]) (B:=[]) (dl:=d0) (ds:=d0) (kl:=k0) (kd:=k0) (X:=xs++[Frame.mk fn tmps (front++[JJ]) [] m .normal none]) (w:=w) (w':=w') (es:=es) (fun _=>rfl) hke hke (fun _=>rfl) (h5 it (by simp)) (fun id ops e=>hd ⟨rfl,id,ops,_,by rw[e]⟩)
      (by rw[List.append_nil];exact oG it fs rfl rfl) (by rw[List.append_nil];exact E)
     simp only[List.append_nil]at R
     rcases R with⟨t',Jy,m',df,hdf,hm',e1,e2⟩|⟨f,args,_,e1,e2⟩
     ·simp only[G,Goroutine.mk.injEq]at e1;obtain⟨rfl,rfl,_⟩:=e1;exact⟨_,_,v',_,_,w',es,hC,⟨_::xs,fn,tmps,front,m,rfl,rfl,hq,hdn,fun _=>Fj⟩,T',g3,hkz,EY,fun main cs=>e2 main _⟩
     ·simp only[G,Goroutine.mk.injEq]at e1;obtain⟨rfl,rfl,_⟩:=e1;exact⟨_,_,v',_,_,w',es,hC,⟨_::_::xs,fn,tmps,front,m,rfl,rfl,hq,hdn,fun _=>Fj⟩,T',g3,hkz,EY,fun main cs=>e2 main _⟩
   ·cases d0 with
    | cons d ds'=>
     obtain⟨f,cap,lL,su⟩:=h2' d (List.mem_cons_self ..)
     obtain⟨yZ,cb,Jv,FZ,hb3,_⟩:=F.body f su
     obtain⟨tg,ar⟩:=d
     simp only at lL
     subst lL
     have hinv:∀u:World,(invoke (.fn (.func f) cap) ar).runT P u #[]=(.ok (.enter f (ar++cap)) u,#[]):=fun u=>by
      simp only[invoke,callFunc,program,bind,Sem.bind,Sem.runT,Jv,FZ,hb3,pure]
      rfl
     have hs:∀main (Y:Z_) (u:World),stepG P main (G (Frame.mk f0 t0 yK (⟨.fn (.func f) cap,ar⟩::ds') .returning k0 none) Y) u=
       .go (G (Frame.enter P f (ar++cap) .deferred) (Frame.mk f0 t0 yK ds' .returning k0 none::Y)) u #[]:=fun main Y u=>by
      simp only[G,stepG,unwind,callDeferred,hinv,GStep.after]
      simp[seen]
     rw[hs]at E
     injection E with a1 a2 a3
     simp only[G,Goroutine.mk.injEq]at a1
     obtain⟨rfl,rfl,_⟩:=a1
     subst a2 a3
     exact⟨_,_,v',_,_,_,_,hC,⟨_::_::xs,fn,tmps,front,m,rfl,rfl,hq,hdn,fun _=>Fj⟩,T',g3,hkz,EY,fun main cs=>hs main _ _⟩
    | nil=>
     obtain⟨fn0,hf0,_⟩:=hfn
     cases Gy:(results fn0 t0).runT P w #[]with
     | mk r JX=>
      cases r with
      | halt hh w1=>
       exfalso
       cases xs<;>(simp only[G,stepG,unwind,hf0,Gy,List.nil_append,List.cons_append]at E;cases hh<;>simp[GStep.after]at E)
      | ok x w1=>
       have hs:∀main (c:Frame) (Y:Z_),k0=.normal->stepG P main (G (Frame.mk f0 t0 yK [] .returning k0 none) (c::Y)) w=.go (G (c.finish x) Y) w1 (seen P f0 JX):=fun main c Y hk=>by
        subst hk
        simp only[G,stepG,unwind,hf0,Gy,doReturn,GStep.after,Array.append_empty]
       have hs2:∀main (c:Frame) (Y:Z_),k0=.deferred->(c.mode=.returning\/JL c)->stepG P main (G (Frame.mk f0 t0 yK [] .returning k0 none) (c::Y)) w=.go (G c Y) w1 (seen P f0 JX):=fun main c Y hk hcr=>by
        subst hk
        rcases hcr with hcr|⟨⟨pv,rc,ge⟩,b,e,e1,e2⟩
        ·simp only[G,stepG,unwind,hf0,Gy,doReturn,GStep.after,Array.append_empty,hcr]
        ·simp only at e1 e2;subst e1 e2;simp only[G,stepG,unwind,hf0,Gy,doReturn,GStep.after,Array.append_empty,e]
       cases xs with
       | nil=>
        obtain⟨rfl,ops,i,rest,fs,rfl⟩:=Fj
        obtain⟨_,hcm,_⟩:=hbel
        have hk:k0=.normal:=by
         rcases hcm with⟨e,_⟩|⟨_,e|⟨_,_,e,_⟩⟩
         ·exact e
         ·cases e
         ·cases e
        rw[List.nil_append,hs _ _ _ hk]at E;injection E with a1 a2 a3;simp only[G,Goroutine.mk.injEq]at a1;obtain⟨rfl,rfl,_⟩:=a1;subst a2 a3;exact⟨_,_,v',_,_,_,_,hC,⟨[],fn,_,.inRegion ops rest::fs,.run,rfl,rfl,hq,hdn,fun h=>(h rfl).elim⟩,T',g3,hkz,EY,fun main cs=>hs main _ _ hk⟩
       | cons c xs=>
        obtain⟨_,hcm,_⟩:=hbel
        simp only at hcm
        rcases hcm with⟨hk,_⟩|⟨hk,hcr⟩
        ·rw[List.cons_append,hs _ _ _ hk]at E;injection E with a1 a2 a3;simp only[G,Goroutine.mk.injEq]at a1;obtain⟨rfl,rfl,_⟩:=a1;subst a2 a3;exact⟨_,_,v',_,_,_,_,hC,⟨_::xs,fn,tmps,front,m,rfl,rfl,hq,hdn,fun _=>Fj⟩,T',g3,hkz,EY,fun main cs=>hs main _ _ hk⟩
        ·rw[List.cons_append,hs2 _ _ _ hk hcr]at E;injection E with a1 a2 a3;simp only[G,Goroutine.mk.injEq]at a1;obtain⟨rfl,rfl,_⟩:=a1;subst a2 a3;exact⟨_,_,v',_,_,_,_,hC,⟨_::xs,fn,tmps,front,m,rfl,rfl,hq,hdn,fun _=>Fj⟩,T',g3,hkz,EY,fun main cs=>hs2 main _ _ hk hcr⟩
end
def AtEnd (Q:Exit->Act->World->Prop) (f:FuncId) (fr:Frame) (pre:Z_) (v:World):Prop:=
 pre=[]/\∃tmps τ d,(fr=Frame.mk f tmps [JJ] [] .run .normal none/\Q .normal ⟨tmps,[]⟩ (v.re τ d))\/(∃todo,fr=Frame.mk f tmps todo [] .returning .normal none/\Q .ret ⟨tmps,[]⟩ (v.re τ d))
def UI (L:FuncId->Prop) (N:Fence) (f:FuncId):Prop:=N.fn f/\L f/\Zo f=false
section
variable {P:Program} {L:FuncId->Prop} {p:FuncId->Oper->Bool} {Z:Nat->Prop}
theorem Y7 {Q:Exit->Act->World->Prop} {f:FuncId}:gy (AtEnd Q f):=by
 rintro fr pre v w h1 h2 h3 ⟨e1,t,τ,d,hx⟩;have:w.re τ d=v.re τ d:=by
  unfold World.re
  rw[h1,h2,h3]
 exact⟨e1,t,τ,d,by rw[this];exact hx⟩
theorem Va (F:Mi P L p) {N:Fence} (hal:N.alive=true) (hdp:N.depth=none) (hro:N.round=none) (hfn:∀f,N.fn f->L f\/Ext P f) {f:FuncId} (hf:UI L N f) {n:Nat} {c:Code} (hc:c.A9 (p f)=true) {tmps:X_} {v:World}
  (hp:∀(r:Nat) (o:Obj),v.heap[r]?=some o->o.plain=true) {Q:Exit->Act->World->Prop} (hQ:∀e a w,Q e a w->(e=.normal\/e=.ret)/\a.defers=[])
  (H:∀τ d,c.wpIn N n P Q ⟨tmps,[]⟩ (v.re τ d)):Fin P L p (AtEnd Q f) (Frame.mk f tmps [.code c,JJ] [] .run .normal none) [] v:=by
 refine fA F Y7 fun τ d=>?_
 obtain⟨e,a',w',hq,harr⟩:=H τ d (Frame.mk f tmps [] [] .run .normal none) [JJ] [] hro.symm hf.1 (fun _ hd=>by rw[hdp]at hd;cases hd);obtain⟨fn0,c0,hf0,_,_⟩:=F.body f hf.2.1;have F3:Ei P L p (Frame.mk f tmps [.code c,JJ] [] .run .normal none):=⟨⟨fn0,hf0,F.init f hf.2.1⟩,fun _=>rfl,fun d hd=>(by cases hd),.inl rfl,rfl,fun it Gb=>by
  simp only[List.mem_cons,List.not_mem_nil,or_false]at Gb
  rcases Gb with rfl|rfl
  ·exact hc
  ·rfl⟩
 obtain⟨he,Ih⟩:=hQ e a' w' hq;obtain⟨t',ds'⟩:=a';simp only at Ih;subst Ih;rcases he with rfl|rfl
 ·exact iq F hal hfn harr rfl rfl (fun ch=>by simp[Frame.atR]) ⟨rfl,t',w'.tape,w'.drawn,.inl ⟨rfl,hq⟩⟩ F3 ⟨hf.2.2,rfl⟩ (.inl rfl) hp
 ·obtain⟨todo,hs⟩:=harr.1 rfl;exact iq F hal hfn hs rfl rfl (fun ch=>by simp) ⟨rfl,t',w'.tape,w'.drawn,.inr ⟨todo,rfl,hq⟩⟩ F3 ⟨hf.2.2,rfl⟩ (.inl rfl) hp
def Beside (Od:Old) (P:Program) (Ac:Loc->Prop) (Z:Nat->Prop) (B:Nat) (v:World) (gs:Array Goroutine) (w:World) (t:Trace):Prop:=
 ∃q,Twin Od Z v w/\(∀r,Z r->r<v.heap.size)/\Leavers P t gs q/\Past Ac B t/\w.heap.size<=B
theorem Yz {Od:Old} {Ac:Loc->Prop} (F:Mi P L p) (hu:EP Ac Z) {Dq:FuncId} {kd:CallKind} (hkd:(kd==CallKind.early)=false) {k:List Item} {ds:List Deferred} {S:Frame->Z_->World->Prop} {fr:Frame} {pre:Z_} {v:World} (h:Fin P L p S fr pre v):
  ∀(rf:Frame) (rs:Z_) (gs:Array Goroutine) (w:World) (sl:Option (W_)) (t:Trace) (B:Nat) (cs:Z_),DY P Dq kd k ds (fr::pre) (rf::rs)->Beside Od P Ac Z B v gs w t->gs[0]?=some (G rf (rs++cs))->
   AB P gs w sl t fun AZ w' t'=>∃Di BV v' LY rs' B',AZ[0]?=some (G LY (rs'++cs))/\DY P Dq kd k ds (Di::BV) (LY::rs')/\S Di BV v'/\v.heap.size<=v'.heap.size/\B<=B'/\Beside Od P Ac Z B' v' AZ w' t':=by
 refine h (fun fr pre v=>∀(rf:Frame) (rs:Z_) (gs:Array Goroutine) (w:World) (sl:Option (W_)) (t:Trace) (B:Nat) (cs:Z_),DY P Dq kd k ds (fr::pre) (rf::rs)->Beside Od P Ac Z B v gs w t->gs[0]?=some (G rf (rs++cs))->
   AB P gs w sl t fun AZ w' t'=>∃Di BV v' LY rs' B',AZ[0]?=some (G LY (rs'++cs))/\DY P Dq kd k ds (Di::BV) (LY::rs')/\S Di BV v'/\v.heap.size<=v'.heap.size/\B<=B'/\Beside Od P Ac Z B' v' AZ w' t') ?_ ?_
 ·intro fr pre v hS rf rs gs w sl t B cs St Bs h0;exact .now ⟨fr,pre,v,rf,rs,B,h0,St,hS,Nat.le_refl _,Nat.le_refl _,Bs⟩
 ·intro fr pre v GG rf rs gs w sl t B cs St Bs h0;obtain⟨q,T,hZ,hL,hP,hB⟩:=Bs;obtain⟨N,gs1,a1,w1,G6,t1,q1,B1,hr,hs,h1,⟨Jv,fr1,sZ,v1,rf1,rs1,rfl,St1,T1,hZ1,hle,hC⟩,hL1,hP1,hB1⟩:=Q9 (P:=P) (Ac:=Ac)
   (K:=fun a' w'=>∃Di BV v' LY rs',a'=G LY (rs'++cs)/\DY P Dq kd k ds (Di::BV) (LY::rs')/\Twin Od Z v' w'/\(∀r,Z r->r<v'.heap.size)/\v.heap.size<=v'.heap.size/\
    ∀(rf:Frame) (rs:Z_) (gs:Array Goroutine) (w:World) (sl:Option (W_)) (t:Trace) (B:Nat) (cs:Z_),DY P Dq kd k ds (Di::BV) (rf::rs)->Beside Od P Ac Z B v' gs w t->gs[0]?=some (G rf (rs++cs))->
   AB P gs w sl t fun AZ w' t'=>∃mO WZ v'' LY rs' B',AZ[0]?=some (G LY (rs'++cs))/\DY P Dq kd k ds (mO::WZ) (LY::rs')/\S mO WZ v''/\v'.heap.size<=v''.heap.size/\B<=B'/\Beside Od P Ac Z B' v'' AZ w' t')
   (sumTo gs.size q) gs (G rf (rs++cs)) w sl t q B (Nat.le_refl _) h0 rfl hL hP (fun d=>by
    obtain⟨Di,BV,v',LY,rs',w',es,hC,St',T',g3,_,EY,hw⟩:=UR F hkd (w:=w.at d) St (T.Ot v.tape w.tape v.drawn d) hZ GG
    refine⟨G LY (rs'++cs),w',es,max B v'.heap.size,hw true cs,Nat.le_max_left ..,fun x hx=>VR hu (Nat.le_max_right ..) (EY x hx),?_,Di,BV,v',LY,rs',rfl,St',T',fun r hr=>Nat.lt_of_lt_of_le (hZ r hr) g3,g3,hC⟩
    rw[<-T'.size];exact Nat.le_max_right ..);have xG:AB P gs w sl t fun AZ w' t'=>AZ[0]?=some (G rf1 (rs1++cs))/\Beside Od P Ac Z B1 v1 AZ w' t':=⟨N,gs1,w1,G6,t1,hr,hs,h1,q1,T1,hZ1,hL1,hP1,Jv⟩
  refine xG.bind fun gs2 w2 sl2 t2 _ ⟨k1,k2⟩=>?_
  exact(hC rf1 rs1 gs2 w2 sl2 t2 B1 cs St1 k2 k1).mono fun AZ w' t' ⟨Di,BV,v',LY,rs',B',j1,j2,j3,j4,j5,j6⟩=>⟨Di,BV,v',LY,rs',B',j1,j2,j3,Nat.le_trans hle j4,Nat.le_trans hB1 j5,j6⟩
theorem qj {Od:Old} {Ac Still:Loc->Prop} {Mem Ak:Nat->Prop} {h j:Nat} {By:Nat->Goroutine->World->Trace->Prop} (F:Mi P L p) (hu:EP Ac Z) (BH:EP Still Z) (O:Fp P Z Ac Still (fun B t=>PX Ac Still Mem Ak B h t) j By) {Dq:FuncId} {kd:CallKind} (hkd:(kd==CallKind.early)=false) {k:List Item} {ds:List Deferred}
  {S:Frame->Z_->World->Prop} {fr:Frame} {pre:Z_} {v:World} (H:Fin P L p S fr pre v):
  ∀(rf:Frame) (rs:Z_) (gs:Array Goroutine) (w:World) (sl:Option (W_)) (t:Trace) (q:Nat->Nat) (n B:Nat) (cs:Z_),DY P Dq kd k ds (fr::pre) (rf::rs)->Twin Od Z v w->(∀r,Z r->r<v.heap.size)->gs[h]?=some (G rf (rs++cs))->Duo P Ac Still Mem Ak B h j By n gs w t q->
   AB P gs w sl t fun AZ w' t'=>∃q' n' B' Di BV v' LY rs',AZ[h]?=some (G LY (rs'++cs))/\DY P Dq kd k ds (Di::BV) (LY::rs')/\S Di BV v'/\Twin Od Z v' w'/\(∀r,Z r->r<v'.heap.size)/\v.heap.size<=v'.heap.size/\B<=B'/\Duo P Ac Still Mem Ak B' h j By n' AZ w' t' q':=by
 refine H (fun fr pre v=>∀(rf:Frame) (rs:Z_) (gs:Array Goroutine) (w:World) (sl:Option (W_)) (t:Trace) (q:Nat->Nat) (n B:Nat) (cs:Z_),DY P Dq kd k ds (fr::pre) (rf::rs)->Twin Od Z v w->(∀r,Z r->r<v.heap.size)->gs[h]?=some (G rf (rs++cs))->Duo P Ac Still Mem Ak B h j By n gs w t q->
   AB P gs w sl t fun AZ w' t'=>∃q' n' B' Di BV v' LY rs',AZ[h]?=some (G LY (rs'++cs))/\DY P Dq kd k ds (Di::BV) (LY::rs')/\S Di BV v'/\Twin Od Z v' w'/\(∀r,Z r->r<v'.heap.size)/\v.heap.size<=v'.heap.size/\B<=B'/\Duo P Ac Still Mem Ak B' h j By n' AZ w' t' q') ?_ ?_
 ·intro fr pre v hS rf rs gs w sl t q n B cs St T hZ h0 D;exact .now ⟨q,n,B,fr,pre,v,rf,rs,h0,St,hS,T,hZ,Nat.le_refl _,Nat.le_refl _,D⟩
 ·intro fr pre v GG rf rs gs w sl t q n B cs St T hZ h0 D;obtain⟨N,gs1,a1,w1,G6,t1,q1,n1,B1,hr,hs,h1,⟨fr1,sZ,v1,rf1,rs1,rfl,St1,T1,hZ1,hle,hC⟩,hB1,D1⟩:=Wm O
   (l9:=fun a' w'=>∃Di BV v' LY rs',a'=G LY (rs'++cs)/\DY P Dq kd k ds (Di::BV) (LY::rs')/\Twin Od Z v' w'/\(∀r,Z r->r<v'.heap.size)/\v.heap.size<=v'.heap.size/\
    ∀(rf:Frame) (rs:Z_) (gs:Array Goroutine) (w:World) (sl:Option (W_)) (t:Trace) (q:Nat->Nat) (n B:Nat) (cs:Z_),DY P Dq kd k ds (Di::BV) (rf::rs)->Twin Od Z v' w->(∀r,Z r->r<v'.heap.size)->gs[h]?=some (G rf (rs++cs))->Duo P Ac Still Mem Ak B h j By n gs w t q->
   AB P gs w sl t fun AZ w' t'=>∃q' n' B' mO WZ v'' LY rs',AZ[h]?=some (G LY (rs'++cs))/\DY P Dq kd k ds (mO::WZ) (LY::rs')/\S mO WZ v''/\Twin Od Z v'' w'/\(∀r,Z r->r<v''.heap.size)/\v'.heap.size<=v''.heap.size/\B<=B'/\Duo P Ac Still Mem Ak B' h j By n' AZ w' t' q')
   (n+sumTo gs.size q) n gs (G rf (rs++cs)) w sl t q B (Nat.le_refl _) h0 rfl D (fun w1 hw1=>by
    obtain⟨Di,BV,v',LY,rs',w',es,hC,St',T',g3,hkz,EY,hw⟩:=UR F hkd (w:=w1) St (T.off hZ hw1) hZ GG
    refine⟨G LY (rs'++cs),w',es,max B v'.heap.size,hw (h==0) cs,Nat.le_max_left ..,fun x hx=>vN hu BH (Nat.le_max_right ..) (EY x hx),hkz,?_,Di,BV,v',LY,rs',rfl,St',T',fun r hr=>Nat.lt_of_lt_of_le (hZ r hr) g3,g3,hC⟩
    rw[<-T'.size];exact Nat.le_max_right ..);have xG:AB P gs w sl t fun AZ w' t'=>AZ[h]?=some (G rf1 (rs1++cs))/\Twin Od Z v1 w'/\∃q' n',Duo P Ac Still Mem Ak B1 h j By n' AZ w' t' q':=⟨N,gs1,w1,G6,t1,hr,hs,h1,T1,q1,n1,D1⟩
  refine xG.bind fun gs2 w2 sl2 t2 _ ⟨k1,k2,q2,n2,k3⟩=>?_
  exact(hC rf1 rs1 gs2 w2 sl2 t2 q2 n2 B1 cs St1 k2 hZ1 k1 k3).mono fun AZ w' t' ⟨q',n',B',Di,BV,v',LY,rs',j1,j2,j3,j4,j5,j6,j7,j8⟩=>⟨q',n',B',Di,BV,v',LY,rs',j1,j2,j3,j4,j5,Nat.le_trans hle j6,Nat.le_trans hB1 j7,j8⟩
end
end Go.Fxa
namespace Go.Fxa
open Go.Conc
theorem Twin.kill {Od:Old} {Z Z':Nat->Prop} {v w:World} (T:Twin Od Z v w) (hz:∀r,Z r->Z' r) (hno:∀r,Z' r->¬Od.dead r):∃v',Twin Od Z' v' w/\v'.heap.size=v.heap.size/\(∀r,¬Z' r->v'.heap[r]?=v.heap[r]?)/\v'.os=v.os/\v'.output=v.output:=by
 classical
 refine⟨{ v with heap:=Array.ofFn (n:=v.heap.size) fun i=>if Z' i then CB else v.heap[i] },⟨?_,fun r hr hod=>?_,fun r hr hl=>?_,fun r o ho=>?_,T.os,T.output,fun r hod=>?_,T.kept,fun r hod hz'=>hno r hz' hod⟩,by simp,fun r hr=>?_,rfl,rfl⟩
 ·simpa using T.size
 ·rw[<-T.same r (fun h=>hr (hz r h)) hod];by_cases h:r<v.heap.size<;>simp[h,hr]
 ·have:r<v.heap.size:=by simpa using hl
  simp[this,hr]
 ·by_cases h:r<v.heap.size
  ·by_cases h':Z' r
   ·simp[h,h']at ho;subst ho;rfl
   ·simp[h,h']at ho;exact T.plain r o (by rw[Array.getElem?_eq_getElem h,ho])
  ·simp[h]at ho
 ·have e:=T.Io r hod;have h:=(Array.getElem?_eq_some_iff.1 e).1;have hr:¬Z' r:=fun hz'=>hno r hz' hod
  rw[Array.getElem?_eq_getElem h]at e;simpa [h,hr]using Option.some.inj e
 ·by_cases h:r<v.heap.size<;>simp[h,hr]
theorem Past.shun {Ac KO:Loc->Prop} {B:Nat} {t:Trace} (h:Past Ac B t) (hs:∀l,Ac l->KO l):Past KO B t:=
 ⟨h.clean,fun i a ha hm=>(h.known i a ha hm).imp id fun x=>⟨hs _ x.1,x.2⟩,h.over,h.hears,h.seen⟩
end Go.Fxa
namespace Go.Fxa
open Go.Conc
open Go.ConcN (sumTo upd sumTo_upd upd_ne upd_same)
structure Qm (P:Program) (L:FuncId->Prop) (p:FuncId->Oper->Bool) (N:Fence):Prop where
 DJ:Mi P L p
 alive:N.alive=true
 depth:N.depth=none
 round:N.round=none
 fn:∀f,N.fn f->L f\/Ext P f
def Behind (Dq:FuncId) (kd:CallKind) (k:List Item) (ds:List Deferred) (cs:Z_) (Q:Exit->Act->World->Prop) (g:Goroutine) (v:World):Prop:=
 ∃tmps τ d,(g=G (Frame.mk Dq tmps k ds .run kd none) cs/\Q .normal ⟨tmps,[]⟩ (v.re τ d))\/(∃todo,g=G (Frame.mk Dq tmps todo ds .returning kd none) cs/\Q .ret ⟨tmps,[]⟩ (v.re τ d))
section
variable {P:Program} {L:FuncId->Prop} {p:FuncId->Oper->Bool} {N:Fence} {Z:Nat->Prop} {Ac Still:Loc->Prop} {f Dq:FuncId} {kd:CallKind} {k:List Item} {ds:List Deferred} {Q:Exit->Act->World->Prop} {c:Code} {tmps:X_} {v:World} {m:Nat}
theorem Vi {fr rf:Frame} {pre rs cs:Z_} (hS:AtEnd Q f fr pre v) (St:DY P Dq kd k ds (fr::pre) (rf::rs)):Behind Dq kd k ds cs Q (G rf (rs++cs)) v:=by
 obtain⟨rfl,t,τ,d,h⟩:=hS;obtain⟨xs,fn,tm,front,mm,hv,hr,_,_,_⟩:=St;cases xs with
 | cons x xs=>simp at hv
 | nil=>
  simp only[List.nil_append,List.cons.injEq,and_true]at hv hr
  obtain⟨hr,rfl⟩:=hr
  subst hr
  rcases h with⟨rfl,hq⟩|⟨todo,rfl,hq⟩
  ·simp only[Frame.mk.injEq]at hv;obtain⟨_,rfl,e,_,rfl,_⟩:=hv;have:front=[]:=by
    cases front with
    | nil=>rfl
    | cons a l=>simp at e
   subst this;exact⟨t,τ,d,.inl ⟨rfl,hq⟩⟩
  ·simp only[Frame.mk.injEq]at hv;obtain⟨_,rfl,e,_,rfl,_⟩:=hv;exact⟨t,τ,d,.inr ⟨_,rfl,hq⟩⟩
theorem Og (hf:Zo f=false) (hq:∀es,seen P Dq es=seen P f es) (c:Code) (tmps:X_):DY P Dq kd k ds [Frame.mk f tmps [.code c,JJ] [] .run .normal none] [Frame.mk Dq tmps (.code c::k) ds .run kd none]:=
 ⟨[],f,tmps,[.code c],.run,rfl,rfl,hq,hf,fun h=>(h rfl).elim⟩
theorem Jk {Od:Old} (FN:Qm P L p N) (hu:EP Ac Z) (hf:UI L N f) (hq:∀es,seen P Dq es=seen P f es) (hkd:(kd==CallKind.early)=false) (hc:c.A9 (p f)=true) (hQ:∀e a w,Q e a w->(e=.normal\/e=.ret)/\a.defers=[])
  (H:∀τ d,c.wpIn N m P Q ⟨tmps,[]⟩ (v.re τ d)) {gs:Array Goroutine} {w:World} {sl:Option (W_)} {t:Trace} {B:Nat} {cs:Z_} (Bs:Beside Od P Ac Z B v gs w t) (h0:gs[0]?=some (G (Frame.mk Dq tmps (.code c::k) ds .run kd none) cs)):
  AB P gs w sl t fun AZ w' t'=>∃g v' B',AZ[0]?=some g/\Behind Dq kd k ds cs Q g v'/\v.heap.size<=v'.heap.size/\B<=B'/\Beside Od P Ac Z B' v' AZ w' t':=by
 have T:=Bs.choose_spec.1;have hfin:=Va FN.DJ FN.alive FN.depth FN.round FN.fn hf hc T.plain hQ H;refine(Yz FN.DJ hu hkd hfin _ [] gs w sl t B cs (Og hf.2.2 hq c tmps) Bs h0).mono fun AZ w' t' ⟨Di,BV,v',LY,rs',B',j1,j2,j3,j4,j5,j6⟩=>?_
 exact⟨_,v',B',j1,Vi j3 j2,j4,j5,j6⟩
theorem jT {Od:Old} {Mem Ak:Nat->Prop} {h j:Nat} {By:Nat->Goroutine->World->Trace->Prop} (FN:Qm P L p N) (hu:EP Ac Z) (BH:EP Still Z) (O:Fp P Z Ac Still (fun B t=>PX Ac Still Mem Ak B h t) j By) (hf:UI L N f) (hq:∀es,seen P Dq es=seen P f es) (hkd:(kd==CallKind.early)=false) (hc:c.A9 (p f)=true)
  (hQ:∀e a w,Q e a w->(e=.normal\/e=.ret)/\a.defers=[]) (H:∀τ d,c.wpIn N m P Q ⟨tmps,[]⟩ (v.re τ d))
  {gs:Array Goroutine} {w:World} {sl:Option (W_)} {t:Trace} {q:Nat->Nat} {n B:Nat} {cs:Z_} (T:Twin Od Z v w) (hZ:∀r,Z r->r<v.heap.size) (h0:gs[h]?=some (G (Frame.mk Dq tmps (.code c::k) ds .run kd none) cs)) (D:Duo P Ac Still Mem Ak B h j By n gs w t q):
  AB P gs w sl t fun AZ w' t'=>∃q' n' B' g v',AZ[h]?=some g/\Behind Dq kd k ds cs Q g v'/\Twin Od Z v' w'/\(∀r,Z r->r<v'.heap.size)/\v.heap.size<=v'.heap.size/\B<=B'/\Duo P Ac Still Mem Ak B' h j By n' AZ w' t' q':=by
 have hfin:=Va FN.DJ FN.alive FN.depth FN.round FN.fn hf hc T.plain hQ H;refine(qj FN.DJ hu BH O hkd hfin _ [] gs w sl t q n B cs (Og hf.2.2 hq c tmps) T hZ h0 D).mono fun AZ w' t' ⟨q',n',B',Di,BV,v',LY,rs',j1,j2,j3,j4,j5,j6,j7,j8⟩=>?_
 exact⟨q',n',B',_,v',j1,Vi j3 j2,j4,j5,j6,j7,j8⟩
end
def Cm (I:World->Prop):Prop:=∀v τ d,I v->I (v.re τ d)
theorem Cm.back {I:World->Prop} (h:Cm I) {v:World} {τ:Tape} {d:Nat} (hv:I (v.re τ d)):I v:=by
 have:=h (v.re τ d) v.tape v.drawn hv;exact this
def Holds (Od:Old) (P:Program) (Z:Nat->Prop) (Ac Still:Loc->Prop) (Mem Ak:Nat->Prop) (h j:Nat) (By:Nat->Goroutine->World->Trace->Prop) (C:Goroutine->World->Prop) (gs:Array Goroutine) (w:World) (t:Trace):Prop:=
 ∃q n B g v,gs[h]?=some g/\C g v/\Twin Od Z v w/\(∀r,Z r->r<v.heap.size)/\Duo P Ac Still Mem Ak B h j By n gs w t q
section
variable {P:Program} {L:FuncId->Prop} {p:FuncId->Oper->Bool} {N:Fence} {Z:Nat->Prop} {Ac Still:Loc->Prop} {Mem Ak:Nat->Prop} {h j:Nat} {By:Nat->Goroutine->World->Trace->Prop} {C C':Goroutine->World->Prop} {gs:Array Goroutine} {w:World} {sl:Option (W_)} {t:Trace}
theorem Holds.mono {Od:Old} (H:Holds Od P Z Ac Still Mem Ak h j By C gs w t) (hc:∀g v,C g v->C' g v):Holds Od P Z Ac Still Mem Ak h j By C' gs w t:=by
 obtain⟨q,n,B,g,v,h1,h2,h3⟩:=H;exact⟨q,n,B,g,v,h1,hc g v h2,h3⟩
theorem Holds.walk {Od:Old} {S0:Loc->Prop} {K:World->Prop} {k:Nat} {a a':Goroutine} {J:World->Prop} (hJ:∀n b w t,By n b w t->∀d,K (w.at d)) (BH:∀w a,K w->S0 (.cell a)->a.block<w.heap.size) (hSS:∀l,S0 l->¬Ac l) (O:Fp P Z Ac Still (fun B t=>PX Ac Still Mem Ak B h t) j By)
  (H:Holds Od P Z Ac Still Mem Ak h j By (fun g v=>g=a/\J v) gs w t) (hw:RW P (h==0) K S0 k a a'):AB P gs w sl t (Holds Od P Z Ac Still Mem Ak h j By (fun g v=>g=a'/\J v)):=by
 obtain⟨q,n,B,g,v,h1,⟨rfl,h2⟩,h3,h4,h5⟩:=H;exact(ZQ hJ BH hSS O k hw h1 h5).mono fun AZ w' t' ⟨q',n',B',j1,j2,_,j3⟩=>⟨q',n',B',_,v,j1,⟨rfl,h2⟩,h3.off h4 j2,h4,j3⟩
theorem Holds.OO {Od:Old} {K:World->Prop} {k:Nat} {a a':Goroutine} {J:World->Prop} (hJ:∀n b w t,By n b w t->∀d,K (w.at d)) (O:Fp P Z Ac Still (fun B t=>PX Ac Still Mem Ak B h t) j By)
  (H:Holds Od P Z Ac Still Mem Ak h j By (fun g v=>g=a/\J v) gs w t) (hw:IJ P K (h==0) k a a'):AB P gs w sl t (Holds Od P Z Ac Still Mem Ak h j By (fun g v=>g=a'/\J v)):=by
 obtain⟨q,n,B,g,v,h1,⟨rfl,h2⟩,h3,h4,h5⟩:=H;exact(FJ hJ O k hw h1 h5).mono fun AZ w' t' ⟨q',n',B',j1,j2,_,j3⟩=>⟨q',n',B',_,v,j1,⟨rfl,h2⟩,h3.off h4 j2,h4,j3⟩
theorem Holds.piece {Od:Old} {f Dq:FuncId} {kd:CallKind} {k:List Item} {ds:List Deferred} {Q:Exit->Act->World->Prop} {c:Code} {tmps:X_} {m:Nat} {cs:Z_} {J:World->Prop} (FN:Qm P L p N) (hu:EP Ac Z) (BH:EP Still Z) (O:Fp P Z Ac Still (fun B t=>PX Ac Still Mem Ak B h t) j By) (hf:UI L N f) (hq:∀es,seen P Dq es=seen P f es) (hkd:(kd==CallKind.early)=false) (hc:c.A9 (p f)=true)
  (hQ:∀e a w,Q e a w->(e=.normal\/e=.ret)/\a.defers=[]) (hw:∀v,J v->∀τ d,c.wpIn N m P Q ⟨tmps,[]⟩ (v.re τ d))
  (H:Holds Od P Z Ac Still Mem Ak h j By (fun g v=>g=G (Frame.mk Dq tmps (.code c::k) ds .run kd none) cs/\J v) gs w t):AB P gs w sl t (Holds Od P Z Ac Still Mem Ak h j By (Behind Dq kd k ds cs Q)):=by
 obtain⟨q,n,B,g,v,h1,⟨rfl,h2⟩,h3,h4,h5⟩:=H;exact(jT FN hu BH O hf hq hkd hc hQ (hw v h2) h3 h4 h1 h5).mono fun AZ w' t' ⟨q',n',B',g,v',j1,j2,j3,j4,_,_,j5⟩=>⟨q',n',B',g,v',j1,j2,j3,j4,j5⟩
end
end Go.Fxa
