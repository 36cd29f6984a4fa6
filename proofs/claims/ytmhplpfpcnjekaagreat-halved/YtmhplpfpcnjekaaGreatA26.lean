/- A kernel of many -/
import Derived.Test.YtmhplpfpcnjekaaGreatA23
namespace Go.Fxa
open Conc Proofs RowKit Proofs.Tryz
set_option maxRecDepth 1000000
set_option maxHeartbeats 0
def FV (r:PR)(op n:Nat):Nat:=if op=9 then r.A else if op=10 then r.B else n
def EF (r:PR)(op n:Nat):Nat×Nat×PR:=
 if FV r op n<r.Af.length then
  if op=2\/op=9 then(0,0,{r with A:=(r.Af[FV r op n]?).getD 0})
  else if op=3\/op=10 then(0,0,{r with Af:=r.Af.set (FV r op n) r.A})
  else if op=4 then(0,0,{r with A:=(r.A+(r.Af[FV r op n]?).getD 0) % 65536})
  else if op=5 then(0,0,{r with A:=(r.A+65536-(r.Af[FV r op n]?).getD 0) % 65536})
  else(2,0,r)
 else(2,0,r)
def XR (r:PR)(op n:Nat):Nat×Nat×PR:=
 if op=1 then(0,0,{r with P:=r.P+2,A:=n})
 else if op=6 then(0,0,{r with P:=n})
 else if op=7 then(0,0,if r.A=0 then {r with P:=n} else {r with P:=r.P+2})
 else if op=8 then(0,0,{r with P:=r.P+2,A:=r.B,B:=r.A})
 else if op=11 then(1,n,{r with P:=r.P+2})
 else EF {r with P:=r.P+2} op n
def EO (r:PR):Nat×Nat×PR:=if r.P+2<=r.Af.length then XR r ((r.Af[r.P]?).getD 0) ((r.Af[r.P+1]?).getD 0)else(2,0,r)
def ϗ (K:KS)(b:Nat)(w:o_)(s:Nat×Nat×PR)(e:Ending)(w':o_):Prop:=e=.returned (.tuple #[b_ (s.1:Nat),a_ (s.2.1:Nat)])/\AY (K.Bj b s.2.2) w'/\BQ K.T K.T w w'
def iK (K:KS)(b:Nat)(w:o_)(s:Nat×Nat×PR)(e:Ending)(w':o_):Prop:=e=.returned (b_ (s.1:Nat))/\AY (K.Bj b s.2.2) w'/\BQ K.T K.T w w'
theorem Τ {K:KS}{b A B P:Nat}{r:PR}{w w':o_}(h:AY K w)(hb:K.ps b=some r)(n:Aa (At b) w w')(o:w'.heap[b]?=some ({r with A:=A,B:=B,P:=P}:PR).obj):AY (K.Bj b {r with A:=A,B:=B,P:=P}) w'/\BQ K.T K.T w w':=by
 have a:=h.ps b r hb;have M:CG K.T K.T (λt=>t=(6,b)\/t=(7,b)\/t=(8,b)\/t=(9,b)) (λt=>t=(6,b)\/t=(7,b)\/t=(8,b)\/t=(9,b)) w w':=CG.of (n.on λk _ e=>by subst e;exact .inl a.t) h.lt;have ne:∀{x:Nat} {t:Nat×Nat},K.T x=t->t≠(6,b)->¬At b x:=fun {x t} f i e=>by
  have e:x=b:=e
  subst e;exact i (f.symm.trans a.t)
 refine⟨h.lL M ⟨a.t,o,λe=>?_,λe=>?_,?_,a.no⟩,M.Xu (by rintro t (rfl|rfl|rfl|rfl)<;>simp)⟩
 .obtain⟨g,c,a1,a2,d⟩:=a.im e;exact⟨g,c,a1,a2.keep n (ne d sJ),d⟩
 .obtain⟨g,c,a1,a2,d⟩:=a.fd e;exact⟨g,c,a1,a2.keep n (ne d sJ),d⟩
 .obtain h|⟨x,y,f,i,m,j,l⟩|h:=a.bl
  .exact .inl h
  .exact .inr (.inl ⟨x,y,f,n.old i (ne j sJ),n.old m (ne l sJ),j,l⟩)
  .exact .inr (.inr h)
section
variable (m:Nat)(w:o_)
theorem yH (b op n:Nat)(r:PR)(h:w.cell? (S_ b 5)=some (a_ (r.A:Nat)))(i:w.cell? (S_ b 6)=some (a_ (r.B:Nat))):
  O_ m 244 #[.pointer (some (S_ b 5)),a_ (op:Nat),a_ (n:Nat)] w λe w'=>e=.returned (a_ (FV r op n:Nat))/\w'=w:=by
 obtain⟨a,c⟩:∃a,a=FV r op n:=⟨_,rfl⟩;rw[<-c];have f:(op=9/\a=r.A)\/(op=10/\a=r.B)\/(¬(op:Int)=9/\¬(op:Int)=10/\a=n):=by
  unfold FV at c
  split at c
  .exact .inl ⟨by assumption,c⟩
  .split at c
   .exact .inr (.inl ⟨by assumption,c⟩)
   .exact .inr (.inr ⟨wB,wB,c⟩)
 clear c;gi_enter func244,ntmps244;obtain⟨rfl,rfl⟩|⟨rfl,rfl⟩|⟨g,d,rfl⟩:=f
 all_goals gi_wp2
 all_goals go_ret
 all_goals exact⟨sJ,rfl⟩
def Yi (op:Nat):Prop:=¬(op:Int)=2/\¬(op:Int)=9/\¬(op:Int)=3/\¬(op:Int)=10/\¬(op:Int)=4/\¬(op:Int)=5
theorem am6 (K:KS)(b op n:Nat)(r:PR)(h:AY K w)(hb:K.ps b=some r)(Z:r.en=false)(o:r.Ok)(hL:r.Af.length<=128)(hx:n<65536):
  O_ m 226 #[.pointer (some (S_ b 5)),a_ (op:Nat),a_ (n:Nat)] w (iK K b w (EF r op n)):=by
 obtain⟨l,ci,I,g,W,s⟩:=h.lh hb Z;have P:=g.le;have G:=h.Iu hb 5;have H:=h.Iu hb 6;simp[PR.arr]at G H;have z5:=h.lF hb 5;have t:=λm=>yH m w b op n r G H
 have hA:=o.A;have F:FV r op n<65536:=by have:=o.A;have:=o.B;unfold FV;split<;>(try split)<;>omega
 have no:iK K b w (2,0,r) (.returned (b_ 2)) w:=⟨rfl,by show AY (K.Bj b r) w;rw[FD hb];exact h,BQ.no (Aa.refl _ _) h.lt⟩;by_cases j:FV r op n<r.Af.length
 .obtain⟨y,k⟩:∃v,r.Af[FV r op n]?=some v:=⟨_,JM wB⟩;have U:=o.Af y (t_ k);have d:w.cell? (S_ l (FV r op n))=some (a_ (y:Nat)):=(g.cell wB).trans (by rw[Aw,List.getElem?_map,k];rfl);have Y:=g.fz (FV r op n);have p:∀x:Nat,EF r op n=(0,0,{r with A:=x})->iK K b w (EF r op n) (.returned (b_ 0)) (w.setCell (S_ b 5) (a_ (x:Nat))):=λx e=>by
   rw[e]
   exact⟨rfl,h.GR (r':={r with A:=x}) (i:=5) (v:=a_ (x:Nat)) hb ⟨rfl,rfl,rfl,rfl,rfl⟩ rfl (h.ps b r hb).bl,h.EG hb⟩
  have sD:Yp (∀e f,iK K b w (EF r op n) e f->iK K b w (EF r op n) e f.drew):=λe f h=>⟨h.1,h.2.1.no (Aa.refl No f).drew,h.2.2.then (Aa.refl No f).drew⟩
  have q:=h.XZ (i:=FV r op n) (x:=r.A) hb Z s;have r0:(op=2\/op=9)->EF r op n=(0,0,{r with A:=y}):=λe=>by unfold EF;rw[rW j,rW e,k];rfl
  have J:(op=3\/op=10)->EF r op n=(0,0,{r with Af:=r.Af.set (FV r op n) r.A}):=λe=>by unfold EF;rw[rW j,ru wB,rW e]
  have L:op=4->EF r op n=(0,0,{r with A:=(r.A+y) % 65536}):=λe=>by unfold EF;rw[rW j,ru wB,ru wB,rW e,k];rfl
  have M:op=5->EF r op n=(0,0,{r with A:=(r.A+65536-y) % 65536}):=λe=>by unfold EF;rw[rW j,ru wB,ru wB,ru wB,rW e,k];rfl
  have N:Yi op->EF r op n=(2,0,r):=λ⟨e1,e2,e3,e4,u,C⟩=>by unfold EF;rw[rW j,ru wB,ru wB,ru wB,ru wB]
  have w4:IntKind.u16.wrap ((r.A:Int)+(y:Int))=(((r.A+y) % 65536:Nat):Int):=by rw[wrap_u16];omega
  have V:IntKind.u16.wrap ((r.A:Int)-(y:Int))=(((r.A+65536-y) % 65536:Nat):Int):=by rw[wrap_u16];omega
  have O:(op=2\/op=9\/op=3\/op=10\/op=4\/op=5)\/Yi op:=by unfold Yi;omega
  generalize hX:iK K b w (EF r op n)=X at*;have Q:Yp ((op=2\/op=9)->∀e,e=.returned (b_ 0)->X e (w.setCell (S_ b 5) (a_ (y:Nat)))):=λe=>by rintro _ rfl;exact p _ (r0 e)
  have R:Yp ((op=3\/op=10)->∀e,e=.returned (b_ 0)->X e (w.setCell (S_ l (FV r op n)) (a_ (r.A:Nat)))):=λe=>by rintro _ rfl;exact(by rw[<-hX,J e];exact⟨rfl,q.1,q.2⟩)
  have D:Yp (op=4->∀e (z:Int),e=.returned (b_ 0)->z=(((r.A+y) % 65536:Nat):Int)->X e (w.setCell (S_ b 5) (a_ z))):=λe=>by rintro _ _ rfl rfl;exact p _ (L e)
  have E:Yp (op=5->∀e (z:Int),e=.returned (b_ 0)->z=(((r.A+65536-y) % 65536:Nat):Int)->X e (w.setCell (S_ b 5) (a_ z))):=λe=>by rintro _ _ rfl rfl;exact p _ (M e)
  have S:Yp (Yi op->∀e,e=.returned (b_ 2)->X e w):=λe=>by rintro _ rfl;exact(by rw[<-hX,N e];exact no)
  clear p r0 J L M N q no hX k;generalize FV r op n=a at*;gi_enter func226,ntmps226;gi_wp2_with (first|(gi_at_call 244;refine(t _).mono ?_;rintro e f ⟨rfl,c⟩;have c:=c.symm;subst c)|(gi_at_call 138;refine(Gq b l ci r.Af.length 1 a _ w I wB F hL P wB).mono ?_;rintro e f ⟨rfl,c⟩;have c:=c.symm;subst c;obtain(rfl|rfl|rfl|rfl|rfl|rfl)|⟨e1,e2,e3,e4,u,C⟩:=O))
  all_goals (try gi_region)
  all_goals (try gi_wp2)
  all_goals (try go_ret)
  all_goals first|exact Q.out sJ _ sJ|exact R.out sJ _ sJ|exact D.out sJ _ _ sJ wB|exact E.out sJ _ _ sJ wB|exact sD.out _ _ (D.out sJ _ _ sJ wB)|exact sD.out _ _ (E.out sJ _ _ sJ wB)|exact S.out ⟨e1,e2,e3,e4,u,C⟩ _ sJ
 .have e:EF r op n=(2,0,r):=by unfold EF;rw[ru j]
  rw[e];clear e;generalize FV r op n=a at*;have no:Yp (∀e,e=.returned (b_ 2)->iK K b w (2,0,r) e w):=λe T=>by rw[T];exact no
  generalize iK K b w (2,0,r)=X at*;gi_enter func226,ntmps226;gi_wp2_with (first|(gi_at_call 244;refine(t _).mono ?_;rintro e f ⟨rfl,c⟩;have c:=c.symm;subst c)|(gi_at_call 138;refine(IJ b l ci r.Af.length 1 a _ w I wB wB F wB).mono ?_;rintro e f ⟨rfl,c⟩;have c:=c.symm;subst c))
  try go_ret
  exact no.out _ sJ
end
theorem Yp.in {p:Prop}(h:p):Yp p:=h
def jK (op:Nat):Prop:=¬(op:Int)=1/\¬(op:Int)=6/\¬(op:Int)=7/\¬(op:Int)=8/\¬(op:Int)=11
section
variable (m:Nat)(w:o_)
theorem ba7 (K:KS)(b:Nat)(r:PR)(h:AY K w)(hb:K.ps b=some r)(hn:r.en=false)(o:r.Ok)(hL:r.Af.length<=128):
  O_ m 185 #[.pointer (some (S_ b 5))] w (ϗ K b w (EO r)):=by
 obtain⟨f,ci,Q,j,yK,V⟩:=h.lh hb hn;have R:=j.le;have L:=o.P;by_cases y:r.P+2<=r.Af.length
 .obtain⟨op,C⟩:∃v,r.Af[r.P]?=some v:=⟨_,JM wB⟩;obtain⟨n,g⟩:∃v,r.Af[r.P+1]?=some v:=⟨_,JM wB⟩;have e:EO r=XR r op n:=by unfold EO;rw[rW y,C,g];rfl
  rw[e];clear e;have W:=(h.ps b r hb).o;have q5:=h.Iu hb 5;have q6:=h.Iu hb 6;have F:=h.Iu hb 7;simp[PR.arr]at q5 q6 F;have z5:=h.lF hb 5;have z6:=h.lF hb 6;have z7:=h.lF hb 7;have E:=o.Af n (t_ g);have d:w.cell? (S_ f r.P)=some (a_ (op:Nat)):=(j.cell wB).trans (by rw[Aw,List.getElem?_map,C];rfl);have d1:w.cell? (S_ f (r.P+1))=some (a_ (n:Nat)):=(j.cell wB).trans (by rw[Aw,List.getElem?_map,g];rfl);clear C g;have w2:IntKind.u16.wrap ((r.P:Int)+2)=(r.P:Int)+2:=by rw[wrap_u16];omega
  have q:=h.GR (r':={r with P:=r.P+2}) (i:=7) (v:=a_ ((r.P:Int)+2)) hb ⟨rfl,rfl,rfl,rfl,rfl⟩ rfl (h.ps b r hb).bl;have G:=h.EG hb (i:=7) (v:=a_ ((r.P:Int)+2));have N:({r with P:=r.P+2}:PR).Ok:=⟨o.A,o.B,(by show r.P+2<65536;omega),o.st,o.pid,o.par,o.Af,o.fds,o.fd,o.len,o.off⟩;have t:=q.no (Aa.refl No _).drew;have H:=λm=>am6 m _ _ b op n {r with P:=r.P+2} t Ag hn N hL E
  have k:((op=1/\r.A=r.A/\XR r op n=(0,0,{r with A:=n,B:=r.B,P:=r.P+2}))\/(op=6/\r.A=r.A/\XR r op n=(0,0,{r with A:=r.A,B:=r.B,P:=n}))\/(op=7/\(((r.A:Int)==0)=true)/\XR r op n=(0,0,{r with A:=r.A,B:=r.B,P:=n}))\/(op=7/\(((r.A:Int)==0)=false)/\XR r op n=(0,0,{r with A:=r.A,B:=r.B,P:=r.P+2}))\/(op=8/\r.A=r.A/\XR r op n=(0,0,{r with A:=r.B,B:=r.A,P:=r.P+2}))\/(op=11/\r.A=r.A/\XR r op n=(1,n,{r with A:=r.A,B:=r.B,P:=r.P+2})))\/jK op:=by
   by_cases z:op=7
   .by_cases c:r.A=0
    .exact .inl (.inr (.inr (.inl ⟨z,by simpa using c,by simp[XR,z,c]⟩)))
    .exact .inl (.inr (.inr (.inr (.inl ⟨z,by simpa using c,by simp[XR,z,c]⟩))))
   .by_cases q:op=1
    .exact .inl (.inl ⟨q,rfl,by simp[XR,q]⟩)
    .by_cases I:op=6
     .exact .inl (.inr (.inl ⟨I,rfl,by simp[XR,I]⟩))
     .by_cases J:op=8
      .exact .inl (.inr (.inr (.inr (.inr (.inl ⟨J,rfl,by simp[XR,J]⟩)))))
      .by_cases s:op=11
       .exact .inl (.inr (.inr (.inr (.inr (.inr ⟨s,rfl,by simp[XR,s]⟩)))))
       .unfold jK;omega
  have tail:∀{A B P O x:Nat} {e:Ending} {a:o_},XR r op n=(O,x,{r with A:=A,B:=B,P:=P})->e=.returned (.tuple #[b_ (O:Nat),a_ (x:Nat)])/\Aa (At b) w a/\a.heap[b]?=some ({r with A:=A,B:=B,P:=P}:PR).obj->ϗ K b w (XR r op n) e a:=λe ⟨u,T,D⟩=>by
   have:=Τ h hb T D
   rw[e]
   exact⟨u,this.1,this.2⟩
  have tou:∀{e:Ending} {a:o_},jK op->iK (K.Bj b {r with P:=r.P+2}) b (w.setCell (S_ b 7) (a_ ((r.P:Int)+2))).drew (EF {r with P:=r.P+2} op n) e a->∃x:Nat,e=.returned (b_ (x:Nat))/\ϗ K b w (XR r op n) (.returned (.tuple #[b_ (x:Nat),a_ 0])) a:=fun {e a} ⟨Y,Z,n3,n4,n5⟩ ⟨u,M,U⟩=>by
   refine⟨_,u,?_⟩
   have e1:XR r op n=EF {r with P:=r.P+2} op n:=by unfold XR;rw[ru wB,ru wB,ru wB,ru wB,ru wB]
   have e2:(EF {r with P:=r.P+2} op n).2.1=0:=by unfold EF;(repeat' split)<;>rfl
   rw[e1]
   refine⟨by rw[e2];rfl,?_,(G.then (Aa.refl No _).drew).trans U⟩
   rw[Vf]at M
   exact M
  generalize hX:ϗ K b w (XR r op n)=X at*;clear hX;obtain(⟨rfl,c,hE⟩|⟨rfl,c,hE⟩|⟨rfl,c,hE⟩|⟨rfl,c,hE⟩|⟨rfl,c,hE⟩|⟨rfl,c,hE⟩)|l:=k
  all_goals first|replace d:w.cell? (S_ f r.P)=some (a_ 1):=d|replace d:w.cell? (S_ f r.P)=some (a_ 6):=d|replace d:w.cell? (S_ f r.P)=some (a_ 7):=d|replace d:w.cell? (S_ f r.P)=some (a_ 8):=d|replace d:w.cell? (S_ f r.P)=some (a_ 11):=d|skip
  all_goals first|(replace tail:=Yp.in λe a=>@tail _ _ _ _ _ e a hE;clear hE tou H)|skip
  all_goals first|(have c:=l;obtain⟨Y,Z,n3,n4,n5⟩:=c;replace tou:=fun {e a}=>@tou e a l;clear tail l)|skip
  all_goals (try clear q t G N)
  all_goals gi_enter func185,ntmps185
  all_goals gi_wp2_with (gi_at_call 138;refine(Gq b f ci r.Af.length 2 r.P _ _ Q wB L hL R y).mono ?_;rintro e a ⟨rfl,p⟩;have p:=p.symm;subst p)
  all_goals gi_region
  all_goals gi_wp2_with (gi_at_call 226;refine(H _).mono ?_;rintro e w3 hC;obtain⟨x,rfl,S⟩:=tou hC;clear hC)
  all_goals (try gi_region)
  all_goals (try gi_wp2)
  all_goals (try go_ret2)
  all_goals first|(refine tail.out _ _ ⟨sJ,?_,?_⟩;(repeat (first|exact Aa.refl (At b) _|refine Aa.drew ?_|refine Aa.setCell ?_ _ (λ_=>rfl)));(simp[World.setCell,World.drew,iF,W,PR.obj,PR.arr];done))|exact S
 .have e:EO r=(2,0,r):=by unfold EO;rw[ru y]
  rw[e];have no:Yp (∀e,e=.returned (.tuple #[b_ 2,a_ 0])->ϗ K b w (2,0,r) e w):=λe u=>⟨u,by show AY (K.Bj b r) w;rw[FD hb];exact h,BQ.no (Aa.refl _ _) h.lt⟩
  clear e;have F:=h.Iu hb 7;simp[PR.arr]at F;generalize ϗ K b w (2,0,r)=X at*;gi_enter func185,ntmps185;gi_wp2_with (gi_at_call 138;refine(IJ b f ci r.Af.length 2 r.P _ _ Q wB wB L y).mono ?_;rintro e a ⟨rfl,p⟩;have p:=p.symm;subst p)
  try go_ret2
  exact no.out _ (by first|rfl|simp)
end
end Go.Fxa
