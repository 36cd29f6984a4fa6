/- A law, from its -/
import Derived.Test.YtmhplpfpcnjekaaGreatA40
import Derived.ProofKit
import Derived.ChangeStays
namespace Go.Fxa
open Conc Proofs RowKit Proofs.Tryz Go.ChangeShapes
variable {W:o_}{r n fuel k:Nat}{v:n_}{s:d_ f_}
def ad9:Obj->Bool
 |.view ..=>true
 |o=>!o.plain
def Odd (W:o_)(r:Nat):Prop:=∃o,W.heap[r]?=some o/\ad9 o=true
abbrev ag4 (W:o_):Old:=⟨Odd W,λr=>(W.heap[r]?).getD DV⟩
section
def GH (W:o_):o_:={W with heap:=W.heap.map λo=>if ad9 o then DV else o}
theorem MP (W:o_):(GH W).heap.size=W.heap.size:=by simp[GH]
theorem Xf (h:Odd W r):(GH W).heap[r]?=some DV:=by
 obtain⟨o,a,b⟩:=h;simp[GH,a,b]
theorem MQ (h:¬Odd W r):(GH W).heap[r]?=W.heap[r]?:=by
 cases e:W.heap[r]? with
 |none=>simp[GH,e]
 |some o=>
  have a:ad9 o=false:=by
   cases h3:ad9 o with
   |false=>rfl
   |true=>exact(h ⟨o,e,h3⟩).elim
  simp[GH,e,a]
theorem wR (W:o_):Yr (ag4 W) (λ_=>False) (GH W) W:=by
 refine⟨MP W,λr _ a=>MQ a,λ_ h=>h.elim,λr o a=>?_,rfl,rfl,λr a=>Xf a,λr a=>?_,λ_ _ h=>h⟩
 .by_cases h:Odd W r
  .rw[Xf h]at a;cases a
   rfl
  .rw[MQ h]at a;cases e:o.plain with
   |true=>rfl
   |false=>exact(h ⟨o,a,by cases o<;>first|rfl|simp[ad9,e]⟩).elim
 .obtain⟨o,b,_⟩:=a;show W.heap[r]?=some ((W.heap[r]?).getD DV);rw[b]
  rfl
theorem NR {a:f_}{x:n_}(h:W.cell? a=some x):(GH W).cell? a=some x:=by
 have ne:¬Odd W a.block:=by
  rintro⟨o,b,d⟩
  unfold World.cell? at h
  rw[b]at h
  cases o with
  |cells c t f=>cases d
  |_=>cases h
 unfold World.cell? at h ⊢;rw[MQ ne];exact h
theorem aq1 {v' w':o_}{Z:Nat->Prop}(T:Yr (ag4 W) Z v' w')(K:Aa No (GH W) v'):∀r,r<W.heap.size->w'.heap[r]?=W.heap[r]?:=λr a=>by
 by_cases h:Odd W r
 .have e:=T.kept r h;obtain⟨o,b,_⟩:=h;rw[e];show some ((W.heap[r]?).getD DV)=W.heap[r]?;rw[b]
  rfl
 .have e1:v'.heap[r]?=W.heap[r]?:=(K.block r (by rw[MP];exact a) id).trans (MQ h);have d:¬Z r:=λc=>by
   have e2:=T.dead r c (Nat.lt_of_lt_of_le a (by have:=K.size;rw[MP]at this;exact this))
   exact h ⟨DV,e1.symm.trans e2,rfl⟩
  exact(T.same r d h).symm.trans e1
end
def Tt (W:o_)(x:n_)(w':o_):Prop:=x=.bool true/\(∀r,r<W.heap.size->w'.heap[r]?=W.heap[r]?)/\W.heap.size<=w'.heap.size/\w'.os=W.os/\w'.output=W.output
theorem jw (W:o_){F:h_}{args:X_}{E:Frame×Z_->Prop}(hE:∀y,E y->∀w,stepG prog true (BO y) w=.ended (.done (.bool true)) w #[])(I:ag (ag4 W) prog (Frame.enter prog F args .normal,[]) (GH W) fun y v'=>E y/\Aa No (GH W) v'):
  ∃N last x w' H,runNT prog (N+1) (solo (G (Frame.enter prog F args .normal) []) W) #[]=(.ended x w',H)/\
   runN prog N (solo (G (Frame.enter prog F args .normal) []) W)=.next last/\step prog last=.ended x w'/\Conc.Good prog (Tt W) last x w' H:=by
 obtain⟨N,j,w',g,H,f,z,i,c,y,v',C,⟨q,T,A,hL,m,hB⟩,l,o,K⟩:=I (λ_=>False) (λ_=>False) W.heap.size #[BO (Frame.enter prog F args .normal,[])] W none #[] ⟨λ_ h=>h.elim,λ_ h=>h.elim⟩
  ⟨λ_=>0,wR W,λ_ h=>h.elim,leavers_one _ _,past_nil.mono (Nat.zero_le _),w_⟩ rfl;have b:∀d,Tt W (.bool true) (w'.at d):=λd=>⟨rfl,(show ∀r,r<W.heap.size->w'.heap[r]?=W.heap[r]? from aq1 T K),by
  have a:=K.size
  rw[MP,T.size]at a
  exact a,T.os.symm.trans K.os,T.output.symm.trans K.output⟩
 obtain⟨k,last,x,w2,v,p,s,t,u⟩:=beside_ends (P:=prog) (Shun:=i) (B:=c) (D:=λ_ _ _=>False) (Post:=Tt W) (λ_ _ _ h=>h.elim) (sl:=g) (n:=0) l hL m (show ∀w1,AtRel w' w1->Conc.AtEnd prog i c (Tt W) _ w1 from λw1 ⟨d,e⟩=>by
  subst e
  exact⟨rfl,_,_,hE y o _,sJ,b d⟩);refine⟨N+k,last,x,w2,v,?_,?_,t,u⟩
 .rw[solo_eq_crowd,Nat.add_assoc,runNT_add];erw [f];exact p
 .rw[solo_eq_crowd,runN_add];have e:runN prog N (crowd #[BO (Frame.enter prog F args .normal,[])] W none)=.next (crowd j w' g):=by rw[<-runNT_fst _ _ _ #[],f]
  erw [e];exact s
theorem Qd {f:Nat->Int}(h:aJ W v n f):aJ (GH W) v n f:=⟨h.1,λa=>let ⟨h1,s,c,e,h2⟩:=h.2 a;⟨h1,s,c,e,λd=>let ⟨b,o,e',h3⟩:=h2 d;⟨b,o,e',λi hi=>NR (h3 i hi)⟩⟩⟩
theorem Q8 {f:Nat}{d:Nat->n_×Nat×(Nat->Int)}(h:Pg W v f d):Pg (GH W) v f d:=let ⟨s,c,e,h2⟩:=h;⟨s,c,e,λa=>let ⟨b,o,e',h3⟩:=h2 a;⟨b,o,e',λi hi=>⟨NR (h3 i hi).1,Qd (h3 i hi).2⟩⟩⟩
theorem Uj {b o i:Nat}(h:∃kd pid a,FB W b o i kd pid a):∃kd pid a,FB (GH W) b o i kd pid a:=let ⟨kd,pid,a,h1,h2,h3,h4⟩:=h;⟨kd,pid,a,h1,NR h2,NR h3,NR h4⟩
theorem VT:prog.cellsOf 3=1:=sU
theorem Ψ:prog.cellsOf 22=1:=sU
theorem cells23:prog.cellsOf 23=1:=sU
theorem cells25:prog.cellsOf 25=4:=sU
theorem cells38:prog.cellsOf 38=3:=sU
section
variable {H:Type}{enc:j_×n_->H}{W:o_}{sp:Nat->Bool}
theorem YZ {t e:j_}(d:prog.underlying t=some (.slice e)){c:n_}{x:DataW H×List MemPlace}(h:DataW.trod enc prog W 0 sp true fuel t [c]=some x):∃s n k,c=.slice s n k:=by
 obtain⟨b,_⟩|⟨a,len,cap,_,_,_,_,b,_⟩:=DataW.trod_slice d h
 .cases b;exact⟨none,0,0,rfl⟩
 .cases b;exact⟨some a,len,cap,rfl⟩
theorem fJ {x:DataW H×List MemPlace}(t:∀r,sp r=true)(h:DataW.trod enc prog W 0 sp true fuel 22 [.slice s n k]=some x):∃fn,aJ W (.slice s n k) n fn:=by
 obtain⟨b,_⟩|⟨a,len,cap,o,b,_,l,_,m,_,c,_⟩:=open_ints underlying22 underlying3 VT h
 .cases b;exact⟨λ_=>0,⟨_,_,rfl⟩,λ_=>⟨wB,none,0,rfl,λh=>qx h wB⟩⟩
 .cases b;rw[t,rW rfl]at m;refine⟨λi=>o.getD i 0,⟨_,_,rfl⟩,λp=>⟨wB,some a,k,rfl,λq=>?_⟩⟩;have j:=c 0 wB;have e:a.spot=none:=by simpa [Addr.add]using World.cell?_spot j
  obtain⟨d,f,g⟩:=a;simp only at e;subst e;exact⟨d,f,rfl,λi hi=>by have:=c i wB;rw[Addr.add_lit]at this;exact this⟩
theorem xy {x:DataW H×List MemPlace}(K:∀r,sp r=true)(h:DataW.trod enc prog W 0 sp true fuel 23 [.slice s n k]=some x):∃L,Pg W (.slice s n k) n L:=by
 obtain⟨o,_⟩|⟨a,len,cap,l,B,m,_,o,J,_,_,_,z,c,_⟩:=DataW.trod_slice underlying23 h
 .cases o;exact⟨λ_=>(.slice none 0 0,0,λ_=>0),_,_,rfl,λh=>qx h wB⟩
 .cases o;rw[Ψ]at c;have g:0<n->a.spot=none:=λu=>by
   have e:=c 0 u
   rw[JM wB]at e
   obtain⟨v,p,_⟩:=Option.bind_eq_some_iff.1 e
   obtain⟨_,y,t⟩:=World.cells?_some p
   have d:=t 0 wB
   rw[JM wB]at d
   simpa [Addr.add]using World.cell?_spot d
  have b:∀i,i<n->∃q:n_×Nat×(Nat->Int),W.cell? (S_ a.block (a.off+i))=some q.1/\aJ W q.1 q.2.1 q.2.2/\a.spot=none:=λi hi=>by
   have e:=c i hi
   rw[JM wB]at e
   obtain⟨v,p,w⟩:=Option.bind_eq_some_iff.1 e
   obtain⟨_,y,t⟩:=World.cells?_some p
   match v,y with
   |[I],_=>
    obtain⟨G,A,F,rfl⟩:=YZ underlying22 w
    obtain⟨fn,E⟩:=fJ K w
    have d:=t 0 wB
    have f:a.spot=none:=g wB
    obtain⟨C,D,j⟩:=a
    simp only at f
    subst f
    rw[Addr.add_lit,Addr.add_lit]at d
    exact⟨(.slice G A F,A,fn),by simpa using d,E,rfl⟩
  refine⟨λi=>if hi:i<n then Classical.choose (b i hi)else(.slice none 0 0,0,λ_=>0),some a,k,rfl,λu=>⟨a.block,a.off,?_,λi hi=>?_⟩⟩
  .obtain⟨_,_,_,e⟩:=b 0 u;obtain⟨C,D,j⟩:=a;simp only at e;rw[e]
  .simp only[dif_pos hi];exact⟨(Classical.choose_spec (b i hi)).1,(Classical.choose_spec (b i hi)).2.1⟩
theorem Q9 {c0 c1 c2 c3:n_}{x:DataW H×List MemPlace}(w:∀r,sp r=true)(h:DataW.trod enc prog W 0 sp true fuel 25 [c0,c1,c2,c3]=some x):
  ∃co sw sp C A z B D fn y,c0=b_ co/\c1=b_ sw/\c2=.slice sp A B/\c3=.slice C z D/\aJ W (.slice sp A B) A fn/\Pg W (.slice C z D) z y:=by
 obtain⟨xs,m,rfl,rfl,_,i,a⟩:=DataW.trod_struct underlying25 h;have b:xs.length=4:=i
 match xs,b with
 |[t,u,v,y3],_=>
  have p:DataW.trod enc prog W 0 sp true m 3 [c0]=some t:=by simpa [VT]using a 0 _ rfl
  have q:DataW.trod enc prog W 0 sp true m 3 [c1]=some u:=by simpa [VT]using a 1 _ rfl
  have c:DataW.trod enc prog W 0 sp true m 22 [c2]=some v:=by simpa [Ψ]using a 2 _ rfl
  have d:DataW.trod enc prog W 0 sp true m 23 [c3]=some y3:=by simpa [cells23]using a 3 _ rfl
  obtain⟨co,e,_⟩:=DataW.trod_int underlying3 p
  obtain⟨sw,e1,_⟩:=DataW.trod_int underlying3 q
  obtain⟨s,n,k,rfl⟩:=YZ underlying22 c
  obtain⟨o,l,j,rfl⟩:=YZ underlying23 d
  cases e
  cases e1
  obtain⟨fn,g⟩:=fJ w c
  obtain⟨y,f⟩:=xy w d
  exact⟨co,sw,s,o,n,l,k,j,fn,y,rfl,rfl,rfl,rfl,g,f⟩
theorem Uo {x:DataW H×List MemPlace}(h:DataW.trod enc prog W 0 sp true fuel 31 [v]=some x):
  ∃t k d b o,v=.slice t k d/\k<9223372036854775808/\(0<k->t=some (S_ b o))/\∀i,i<k->∃kd pid nn,FB W b o i kd pid nn:=by
 obtain⟨A,_⟩|⟨a,len,cap,z,L,n,_,A,X,_,O,C,K,l,_⟩:=DataW.trod_slice underlying31 h
 .cases A;exact⟨none,0,0,0,0,rfl,wB,λh=>qx h wB,λi hi=>qx hi wB⟩
 .cases A;rw[cells38]at l;have c:∀i,i<len->∃g y,W.cells? 0 (a.add (i*3)) 3=some g/\DataW.trod enc prog W 0 sp true n 38 g=some y:=λi hi=>by
   have e:=l i hi
   rw[JM wB]at e
   obtain⟨g,j,r⟩:=Option.bind_eq_some_iff.1 e
   exact⟨g,_,j,r⟩
  have f:0<len->a.spot=none:=λF=>by
   obtain⟨g,y,j,r⟩:=c 0 F
   obtain⟨_,s,B⟩:=World.cells?_some j
   have p:=B 0 wB
   rw[JM wB]at p
   have e1:=World.cell?_spot p
   simpa [Addr.add]using e1
  refine⟨some a,len,cap,a.block,a.off,rfl,by unfold maxLen at C;omega,λF=>?_,λi hi=>?_⟩
  .have e:=f F;obtain⟨I,J,u⟩:=a;simp only at e;rw[e]
  .obtain⟨g,y,j,r⟩:=c i hi;obtain⟨_,s,B⟩:=World.cells?_some j;have e:=f wB;obtain⟨I,J,u⟩:=a;simp only at e;subst e
   match g,s with
   |[M,N,c2],_=>
    obtain⟨xs,m,rfl,rfl,_,s,D⟩:=DataW.trod_struct underlying38 r
    have E:xs.length=3:=s
    match xs,E with
    |[T,U,V],_=>
     have P:DataW.trod enc prog W 0 sp true m 3 [M]=some T:=by simpa [VT]using D 0 _ rfl
     have Q:DataW.trod enc prog W 0 sp true m 3 [N]=some U:=by simpa [VT]using D 1 _ rfl
     have R:DataW.trod enc prog W 0 sp true m 3 [c2]=some V:=by simpa [VT]using D 2 _ rfl
     obtain⟨kd,p,_,G⟩:=DataW.trod_int underlying3 P
     obtain⟨pid,e1,_⟩:=DataW.trod_int underlying3 Q
     obtain⟨nn,e2,_,w⟩:=DataW.trod_int underlying3 R
     cases p
     cases e1
     cases e2
     have wr:(IntKind.i64).min<=kd/\kd<=(IntKind.i64).max:=by simpa [Lit.wf]using G
     have S:(IntKind.i64).min<=nn/\nn<=(IntKind.i64).max:=by simpa [Lit.wf]using w
     have Y:(IntKind.i64).min=-9223372036854775808:=sN
     have Z:(IntKind.i64).max=9223372036854775807:=sN
     have go:∀q,q<3->W.cell? (S_ I (J+i*3+q))=([b_ kd,b_ pid,b_ nn]:U_)[q]?:=λq hq=>by
      have:=B q hq
      rw[Addr.add_lit,Addr.add_lit]at this
      exact this
     exact⟨kd,pid,nn,wB,go 0 wB,go 1 wB,go 2 wB⟩
end
end Go.Fxa
