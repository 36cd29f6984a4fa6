/- Done's and Add's -/
import Derived.Test.YtmhplpfpcnjekaaGreatA06
import Derived.Conc.Own2
open Go.Proofs.Tryz
namespace Go.Fxa
open Go.Conc Go.Proofs
section
variable (r:Nat)(tm:X_)(td:List Item)(c:Frame)(Y:Z_)
theorem al4:AU prog 15 (dS prog r [f134 tm td,CW prog])=some [r,r]:=sU
theorem ah2:AZ (dR prog r [f134 tm td,CW prog])=some (172,#[.pointer (some (S_ r 4))]):=sU
theorem uP:AU prog 3 (BK (dR prog r [f134 tm td,CW prog]) Jn)=some []:=sU
theorem ah7:AZ (dD prog r [f134 tm td,CW prog])=some (173,#[]):=sU
theorem uQ:AU prog 11 (BK (dD prog r [f134 tm td,CW prog]) Jn)=some []:=sU
theorem ah8:AZ (dB prog r [f134 tm td,CW prog])=some (175,#[]):=sU
theorem uS:AU prog 22 (BK (dB prog r [f134 tm td,CW prog]) (.bool false))=some []:=sU
theorem zk:AZ (dA prog r [f134 tm td,CW prog])=some (223,#[.pointer (some (S_ r 4)),.int .u64 18446744069414584320]):=sU
theorem uN:AU prog 87 (BK (dA prog r [f134 tm td,CW prog]) (.int .u64 0))=some []:=sU
theorem ah6:MK (dF prog r [f134 tm td,CW prog])=some (174,#[]):=sU
theorem uO:Ec prog (some (257,6)) 5 (UG (dF prog r [f134 tm td,CW prog]))=some ([],(CW prog,[])):=sU
theorem uJ:AU prog 103 (BK (dA prog r [f134 tm td,CW prog]) (.int .u64 1))=some []:=sU
theorem ah4:AZ (dM prog r [f134 tm td,CW prog])=some (224,#[.pointer (some (S_ r 4))]):=sU
theorem uG:AU prog 20 (BK (dM prog r [f134 tm td,CW prog]) (.int .u64 1))=some []:=sU
theorem ah1:AZ (dT prog r [f134 tm td,CW prog])=some (225,#[.pointer (some (S_ r 4)),.int .u64 0]):=sU
theorem uH:AU prog 27 (BK (dT prog r [f134 tm td,CW prog]) Jn)=some []:=sU
theorem ah3:AZ (dP prog r [f134 tm td,CW prog])=some (184,#[.pointer (some (S_ r 5)),.bool false,b_ 0]):=sU
theorem uK:AU prog 17 (BK (dP prog r [f134 tm td,CW prog]) Jn)=some []:=sU
theorem ah5:MK (dG prog r [f134 tm td,CW prog])=some (174,#[]):=sU
theorem uM:Ec prog (some (257,6)) 5 (UG (dG prog r [f134 tm td,CW prog]))=some ([],(CW prog,[])):=sU
theorem bl3:mayWake prog (BO (dP prog r [f134 tm td,CW prog]))=true:=sU
theorem xX:PM prog r tm td:=
 ⟨bt3,iH,aV,ϓ,bt1,sW,iG,bs8,al4 r tm td,ah2 r tm td,uP r tm td,ah7 r tm td,uQ r tm td,ah8 r tm td,uS r tm td,zk r tm td,uN r tm td,ah6 r tm td,uO r tm td,uJ r tm td,ah4 r tm td,uG r tm td,ah1 r tm td,uH r tm td,ah3 r tm td,uK r tm td,ah5 r tm td,uM r tm td,bl3 r tm td⟩
theorem vG:AU prog 12 (aS prog r (c::Y))=some []:=sU
theorem ai1:AZ (aD prog r (c::Y))=some (173,#[]):=sU
theorem vH:AU prog 11 (BK (aD prog r (c::Y)) Jn)=some []:=sU
theorem ai2:AZ (aB prog r (c::Y))=some (175,#[]):=sU
theorem vI:AU prog 22 (BK (aB prog r (c::Y)) (.bool false))=some []:=sU
theorem ai3:AZ (aA prog r (c::Y))=some (223,#[.pointer (some (S_ r 4)),.int .u64 4294967296]):=sU
theorem vz:AU prog 53 (BK (aA prog r (c::Y)) (.int .u64 4294967296))=some [r,r]:=sU
theorem ah9:AZ (aR prog r (c::Y))=some (180,#[.pointer (some (S_ r 5))]):=sU
theorem vC:AU prog 39 (BK (aR prog r (c::Y)) Jn)=some []:=sU
theorem ai0:MK (aE prog r (c::Y))=some (174,#[]):=sU
theorem vF:Ec prog (some (257,6)) 1 (UG (aE prog r (c::Y)))=some ([],(c.finish (.tuple #[]),Y)):=sU
theorem ad4:Zm prog r c Y:=
 ⟨iH,aV,ϓ,bt2,sW,vG r c Y,ai1 r c Y,vH r c Y,ai2 r c Y,vI r c Y,ai3 r c Y,vz r c Y,ah9 r c Y,vC r c Y,ai0 r c Y,vF r c Y⟩
end
end Go.Fxa
namespace Go.Fxa
open Go.Conc
open Go.ConcN (sumTo upd sumTo_upd upd_ne upd_same)
def RW (P:l_)(main:Bool)(K:o_->Prop)(Still:Loc->Prop):Nat->m_->m_->Prop
 |0,g,g'=>g=g'
 |n+1,g,g'=>g.status=.running/\∃g1 es,(∀e∈es,EvR Still e)/\(∀w,K w->stepG P main g w=.go g1 w es)/\RW P main K Still n g1 g'
section
variable {P:l_}{Z:Nat->Prop}{Ad Still:Loc->Prop}{Mem Am:Nat->Prop}{main:Bool}{K:o_->Prop}{h j:Nat}{By:Nat->m_->o_->Trace->Prop}
theorem RW.trans {g g' k:m_}:∀{n m:Nat},RW P main K Still n g g'->RW P main K Still m g' k->RW P main K Still (n+m) g k
 |0,m,h,a=>by rw[Nat.zero_add,show g=g' from h];exact a
 |n+1,m,h,a=>by
  obtain⟨d,c,b,e,f,i⟩:=h
  rw[show n+1+m=(n+m)+1 from by omega]
  exact⟨d,c,b,e,f,i.trans a⟩
theorem RW.iT {g g':m_}:∀{n:Nat},Ls P K main n g g'->RW P main K Still n g g'
 |0,h=>h
 |n+1,h=>by
  obtain⟨b,a,c,d⟩:=h
  exact⟨b,a,#[],sJ,c,RW.iT d⟩
theorem RW.read {x:Frame×Z_}{o:Oper}{v:n_}{g:U_}{f:List f_}(h:XC x=some o)(k:(execOp x.1.eval o).feed P g=some (f,.value v))(i:∀w,K w->Cells w f g)(l:∀a∈f,Still (.cell a))(hq:(P.funcs[x.1.fn]?).any (·.norace)=false):
  RW P main K Still 1 (BO x) (BO (BK x v)):=
 ⟨rfl,_,Ig f,λe b=>by
  simp only[Ig,eu,List.mem_map]at b
  obtain⟨a,c,rfl⟩:=b
  exact⟨a,rfl,l a c⟩,λw d=>zO h k (i w d) hq,rfl⟩
theorem RW.status {g':m_}(a:g'.status=.running):∀{n:Nat} {g:m_},RW P main K Still n g g'->g.status=.running
 |0,_,h=>h ▸ a
 |_+1,_,h=>h.1
theorem RW.seat {cases:Array CommCase}{shape:CommShape}{home:m_->Prop}{g':m_}{k:Nat}(i:g'.status=.running)(l:Ho P main K Still cases shape home k g'):∀{n:Nat} {g:m_},RW P main K Still n g g'->Ho P main K Still cases shape home (n+k) g
 |0,g,h=>by rw[Nat.zero_add,show g=g' from h];exact l
 |n+1,g,h=>by
  obtain⟨f,c,b,d,e,a⟩:=h
  rw[show n+1+k=(n+k)+1 from by omega]
  exact⟨c,b,a.status i,d,e,RW.seat i l a⟩
theorem bk8 {S0:Loc->Prop}(f:∀l,S0 l->¬Ad l){B:Nat}{e:Event}(g:EvR S0 e)(hb:∀a,S0 (.cell a)->a.block<B):aN Ad Still B e:=by
 obtain⟨a,rfl,b⟩:=g;refine⟨λx d=>?_,sJ,sJ,hb a b,sJ⟩;obtain rfl:=x_ d;exact⟨λ_=>⟨rfl,f _ b⟩,λc=>(f _ b c).elim⟩
theorem uo {S0:Loc->Prop}(hJ:∀n b w t,By n b w t->∀d,K (w.at d))(BX:∀w a,K w->S0 (.cell a)->a.block<w.heap.size)(W:∀l,S0 l->¬Ad l)(O:G8 P Z Ad Still (fun B t=>PX Ad Still Mem Am B h t) j By){Y:m_}:
  ∀(k:Nat){a:m_}(_:RW P (h==0) K S0 k a Y){n B:Nat}{gs:Array m_}{w:o_}{sl:d_ (W_)}{t:Trace}{q:Nat->Nat},
  gs[h]?=some a->Duo P Ad Still Mem Am B h j By n gs w t q->AX P gs w sl t λX w' t'=>∃q' n' B',X[h]?=some Y/\CS Z w w'/\B<=B'/\Duo P Ad Still Mem Am B' h j By n' X w' t' q'
 |0,a,i,n,B,gs,w,sl,t,q,f,D=>.now ⟨q,n,B,by rw[f,show a=Y from i],CS.refl w,w_,D⟩
 |k+1,a,i,n,B,gs,w,sl,t,q,f,D=>by
  obtain⟨x,a1,u,z,c,A⟩:=i
  refine go_duo (Me:=Mem) (Loose':=Am) O f x D D.mem λp g w1 r N T V G hB H d=>?_
  have s:∀e∈u,aN Ad Still p e:=λe F=>bk8 W (z e F) λa E=>Nat.lt_of_lt_of_le (BX _ a (hJ _ _ _ _ hB d) E) r
  refine⟨a1,w1.at d,u,p,c _ (hJ _ _ _ _ hB d),w_,r,H.own s,By,N,?_,λX q' n' U C y R=>?_⟩
  .rw[woken_of_again (O.again hB (w1.at d) (λ_ _=>rfl))];exact O.calm (w1.at d) _ hB (λ_ _=>rfl) (Gn D.ne s)
  .exact(uo hJ BX W O k A C y).mono λv S Q ⟨o,m,B'',I,J,M,L⟩=>⟨o,m,B'',I,G.trans ((CS.at w1 d).trans J),lN g M,L⟩
end
end Go.Fxa
namespace Go.Fxa
open Go.Conc
variable {x:Frame×Z_}
def uU (x:Frame×Z_):d_ n_:=match x.1.roundOf,x.1.mode,x.1.todo with
 |none,.run,.code (.cond c _ _)::_=>some (x.1.eval c)
 |_,_,_=>none
def branch (x:Frame×Z_)(t:Bool):Frame×Z_:=match x.1.todo with
 |.code (.cond _ a b)::k=>({x.1 with todo:=.code (if t then a else b)::k},x.2)
 |_=>x
theorem oI {P:l_}{J:o_->Prop}{main:Bool}{t:Bool}(h:uU x=some (.bool t)):Ls P J main 1 (BO x) (BO (branch x t)):=by
 obtain⟨⟨fn,e,f,j,d,kind,l⟩,i⟩:=x;unfold uU at h;simp only at h;split at h
 .rename_i c a b k;have g:=x_ h;refine⟨rfl,_,λw _=>?_,rfl⟩;simp[BO,branch,G,stepG,stepG.exec,g]
 .cases h
def pr (r:Nat):n_:=Q_ r
def D5 (q:Nat):n_:=.chan (some q)
def yP (f:Y_):X_:=((List.range 32).map f).toArray
def AQ (f:Y_):List (Nat×n_)->Nat->n_
 |[],i=>f i
 |(a,v)::l,i=>if i=a then v else AQ f l i
def u0:Nat->n_:=λ_=>b_ 0
def Ox (P:l_)(x:Frame×Z_):d_ (Array CommCase):=match XC x with
 |some o=>match (execOp x.1.eval o).Jy P with
  |some (.comm cs true .select)=>some cs
  |_=>none
 |none=>none
def Eb (P:l_)(x:Frame×Z_)(v:n_):d_ (List f_×n_):=match XC x with
 |some o=>match (execOp x.1.eval o).feed P [v]with
  |some (l,.value y)=>if(P.funcs[x.1.fn]?).any (·.norace)then none else some (l,y)
  |_=>none
 |none=>none
def Ea (x:Frame×Z_):h_×List Item×List Deferred×FrameMode×CallKind×d_ Nat×Z_:=(x.1.fn,x.1.todo,x.1.defers,x.1.mode,x.1.kind,x.1.roundOf,x.2)
def slot (x:Frame×Z_)(i:Nat):n_:=x.1.tmps.getD i undef
def X3 (x:Frame×Z_)(l:List Nat):U_:=l.map (slot x)
theorem NL {f:Nat->n_}:∀{l:List (Nat×n_)},(∀p∈l,f p.1=p.2)->AQ f l=f
 |[],_=>rfl
 |(a,v)::l,h=>by
  funext i
  simp only[AQ]
  split
  .rename_i e;rw[e];exact(h _ (List.mem_cons_self ..)).symm
  .exact congrFun (NL λp b=>h p (List.mem_cons_of_mem _ b)) i
theorem bn1 {T:X_}(h:T.size=32):T=yP λi=>T.getD i undef:=by
 apply Array.ext
 .simp[yP,h]
 .intro i a b;simp[yP,Array.getD,a]
theorem ab2 {fn:h_}{todo:List Item}{ds:List Deferred}{m:FrameMode}{kd:CallKind}{i:d_ Nat}{Y:Z_}(h:Ea x=(fn,todo,ds,m,kd,i,Y))(j:x.1.tmps.size=32):x=(Frame.mk fn (yP (slot x)) todo ds m kd i,Y):=by
 obtain⟨⟨a,b,c,d,e,f,g⟩,y⟩:=x;simp only[Ea,lQ]at h;obtain⟨rfl,rfl,rfl,rfl,rfl,rfl,rfl⟩:=h;simp only[lQ,Frame.mk.injEq,and_true,true_and];exact bn1 j
section
variable {P:l_}{main:Bool}{K:o_->Prop}{Still:Loc->Prop}{x:Frame×Z_}
theorem RW.at {v y:n_}{ad:f_}(h:Eb P x v=some ([ad],y))(e:∀w,K w->w.cell? ad=some v)(f:Still (.cell ad)):RW P main K Still 1 (BO x) (BO (BK x y)):=by
 unfold Eb at h;split at h
 .rename_i o b;split at h
  .rename_i l d a;split at h
   .cases h
   .rename_i hq;simp only[l7,lQ]at h;obtain⟨rfl,rfl⟩:=h;exact RW.read b a (λw c=>⟨e w c,dE⟩) (by simpa using f) (by simpa using hq)
  .cases h
 .cases h
theorem I5 {cs:Array CommCase}(h:Ox P x=some cs)(w:o_):stepG P main (BO x) w=.comm (BO x) cs true .select w #[]:=by
 unfold Ox at h;split at h
 .rename_i o c;split at h
  .rename_i a b;obtain rfl:=x_ h;exact Χ c b
  .cases h
 .cases h
theorem RW.AU {n:Nat}(h:AU P n x=some []):RW P main K Still n (BO x) (BO (run P n x)):=by
 unfold Fxa.AU at h;obtain⟨⟨l,y⟩,b,rfl⟩:=lT.1 h;have e:run P n x=y:=by unfold run;rw[b]
 rw[e];have:∀{n:Nat} {x y:Frame×Z_},Ec P (some (257,6)) n x=some ([],y)->Ls P K main n (BO x) (BO y):=by
  intro n
  induction n with
  |zero=>
   intro x y h
   simp only[Ec,l7,lQ,true_and]at h
   subst h;exact rfl
  |succ n d=>
   intro x y h
   simp only[Ec]at h
   split at h
   .rename_i f z c;split at h
    .rename_i g i a;simp only[l7,lQ,List.append_eq_nil_iff]at h;obtain⟨⟨rfl,rfl⟩,rfl⟩:=h;exact⟨rfl,_,λw _=>Sm c sJ,d a⟩
    .cases h
   .cases h
 exact RW.iT (this b)
end
section
variable (P:l_)(b5 b2 b3 r q0 q1 q2 q3:Nat)(sv:n_)(n i:Int)(w A:n_)(f:Y_)(Y:Z_)
def ch0:Frame×Z_:=({ (default:Frame)with fn:=P.funcs.size,defers:=[⟨.fn (.func 134) #[pr b5,pr b2,pr b3],#[]⟩],mode:=.panicking [goexitEntry]},[])
def ch1:=run P 3 (ch0 P b5 b2 b3)
def ch2:=run P 5 (BK (ch1 P b5 b2 b3) (pr r))
def ch3:=BK (ch2 P b5 b2 b3 r) (pr r)
def ch4:=BK (ch3 P b5 b2 b3 r) sv
def ch5:=BK (ch4 P b5 b2 b3 r sv) (b_ n)
def VK:Z_:=(run P 9 (ch5 P b5 b2 b3 r sv n)).2
def iL:List Item:=(run P 8 (Frame.enter P 136 #[] .normal,[])).1.todo
def LH:Frame×Z_:=(Frame.mk 136 (yP f) (iL P) [] .run .normal none,Y)
def lc:=run P 5 (LH P f Y)
def lr:=run P 4 (branch (lc P f Y) true)
def ag0:List Item:=(lr P u0 []).1.todo.tail
def RB:Frame×Z_:=(Frame.mk 136 (yP f) (ag0 P) [] .run .normal none,Y)
def k1:=run P 29 (RB P f Y)
def k2:=run P 8 (BK (k1 P f Y) (D5 q0))
def k3:=run P 3 (BK (k2 P q0 f Y) (D5 q3))
end
end Go.Fxa
namespace Go.Fxa
open Go.Conc Go.Proofs
def Ob (r:Nat)(sv:n_)(n i:Int):List (Nat×n_):=[(0,pr r),(1,sv),(8,b_ n),(9,b_ i)]
def Fh (r:Nat)(sv:n_)(n i oc:Int)(w:n_):List (Nat×n_):=[(0,pr r),(1,sv),(8,b_ n),(9,b_ i),(6,b_ oc),(7,w)]
def sH:n_:=.agg #[a_ 0,a_ 0,.nilFunc]
def mM (q0 q3:Nat)(w:n_):Array CommCase:=#[scase q0 w (a_ 0),rcase q3 (.agg #[])]
def G5 (q1 q3:Nat):Array CommCase:=#[rcase q1 sH,rcase q3 (.agg #[])]
def iI (q2 q3:Nat)(o:Int):Array CommCase:=#[scase q2 (b_ o) (b_ 0),rcase q3 (.agg #[])]
section
variable (P:l_)(b5 b2 b3 r q0 q1 q2 q3:Nat)(sv:n_)(n i:Int)(w A:n_)(f:Y_)(Y:Z_)
def XA:Code:=match (lr P u0 []).1.todo with
 |.code c::_=>c
 |_=>.skip
def m1:=run P 14 (BK (k3 P q0 q3 f Y) (commResult (mM q0 q3 w) .select 0 undef false))
def m2:=run P 5 (BK (m1 P q0 q3 w f Y) (D5 q1))
def m3:=run P 3 (BK (m2 P q0 q1 q3 w f Y) (D5 q3))
def mq:=BK (m3 P q0 q1 q3 w f Y) (commResult (G5 q1 q3) .select 1 (.agg #[]) false)
def tmC:X_:=match VK P b5 b2 b3 r sv n with
 |F::_=>(F.finish (.tuple #[])).tmps
 |[]=>#[]
def TM:Z_:=[f134 (tmC P b5 b2 b3 r sv n) [],CW P]
def e1:=run P 18 (RB P f Y)
def e2:=run P 8 (BK (e1 P f Y) (D5 q2))
def e3:=run P 3 (BK (e2 P q2 f Y) (D5 q3))
def e4:=BK (e3 P q2 q3 f Y) (commResult (iI q2 q3 2) .select 0 undef false)
def d1:=run P 11 (branch (lc P f Y) false)
def d2:=run P 8 (BK (d1 P f Y) (D5 q2))
def d3:=run P 3 (BK (d2 P q2 f Y) (D5 q3))
def d4:=BK (d3 P q2 q3 f Y) (commResult (iI q2 q3 0) .select 0 undef false)
end
structure Eu (P:l_)(b5 b2 b3 r q0 q1 q2 q3:Nat)(sv:n_)(n:Int):Prop where
 f01:AU P 3 (ch0 P b5 b2 b3)=some []
 f02:Eb P (ch1 P b5 b2 b3) (pr r)=some ([(R_ b5)],pr r)
 f03:AU P 5 (BK (ch1 P b5 b2 b3) (pr r))=some []
 f04:Eb P (ch2 P b5 b2 b3 r) (pr r)=some ([(R_ b5)],pr r)
 f05:Eb P (ch3 P b5 b2 b3 r) sv=some ([(R_ b2)],sv)
 f06:Eb P (ch4 P b5 b2 b3 r sv) (b_ n)=some ([(R_ b3)],b_ n)
 f07:AU P 9 (ch5 P b5 b2 b3 r sv n)=some []
 f08:Ea (run P 9 (ch5 P b5 b2 b3 r sv n))=(136,iL P,[],.run,.normal,none,VK P b5 b2 b3 r sv n)
 f09:X3 (run P 9 (ch5 P b5 b2 b3 r sv n)) [0,1,8,9]=[pr r,sv,b_ n,b_ 0]
 f10:(run P 9 (ch5 P b5 b2 b3 r sv n)).1.tmps.size=32
 l1:∀(f:Y_)(Y:Z_)(i:Int),AU P 5 (LH P (AQ f (Ob r sv n i)) Y)=some []
 l2:∀(f:Y_)(Y:Z_)(i:Int),uU (lc P (AQ f (Ob r sv n i)) Y)=some (.bool (decide (i<n)))
 l3:∀(f:Y_)(Y:Z_)(i:Int),AU P 4 (branch (lc P (AQ f (Ob r sv n i)) Y) true)=some []
 l4:∀(f:Y_)(Y:Z_)(i:Int),Ea (lr P (AQ f (Ob r sv n i)) Y)=(136,.code (XA P)::ag0 P,[],.run,.normal,none,Y)
 l5:∀(f:Y_)(Y:Z_)(i:Int),X3 (lr P (AQ f (Ob r sv n i)) Y) [0,1,8,9]=[pr r,sv,b_ n,b_ i]
 l6:∀(f:Y_)(Y:Z_)(i:Int),(lr P (AQ f (Ob r sv n i)) Y).1.tmps.size=32
 s01:∀(f:Y_)(Y:Z_)(i:Int)(w:n_),AU P 28 (RB P (AQ f (Fh r sv n i 0 w)) Y)=some []
 s02:∀(f:Y_)(Y:Z_)(i:Int)(w:n_),Ea (run P 28 (RB P (AQ f (Fh r sv n i 0 w)) Y))=(136,iL P,[],.run,.normal,none,Y)
 s03:∀(f:Y_)(Y:Z_)(i:Int)(w:n_),X3 (run P 28 (RB P (AQ f (Fh r sv n i 0 w)) Y)) [0,1,8,9]=[pr r,sv,b_ n,b_ (IntKind.i64.wrap (i+1))]
 s04:∀(f:Y_)(Y:Z_)(i:Int)(w:n_),(run P 28 (RB P (AQ f (Fh r sv n i 0 w)) Y)).1.tmps.size=32
 s11:∀(f:Y_)(Y:Z_)(i:Int)(w:n_),AU P 29 (RB P (AQ f (Fh r sv n i 1 w)) Y)=some []
 s12:∀(f:Y_)(Y:Z_)(i:Int)(w:n_),Eb P (k1 P (AQ f (Fh r sv n i 1 w)) Y) (D5 q0)=some ([(R_ r)],D5 q0)
 s13:∀(f:Y_)(Y:Z_)(i:Int)(w:n_),AU P 8 (BK (k1 P (AQ f (Fh r sv n i 1 w)) Y) (D5 q0))=some []
 s14:∀(f:Y_)(Y:Z_)(i:Int)(w:n_),Eb P (k2 P q0 (AQ f (Fh r sv n i 1 w)) Y) (D5 q3)=some ([(S_ r 3)],D5 q3)
 s15:∀(f:Y_)(Y:Z_)(i:Int)(w:n_),AU P 3 (BK (k2 P q0 (AQ f (Fh r sv n i 1 w)) Y) (D5 q3))=some []
 s16:∀(f:Y_)(Y:Z_)(i:Int)(w:n_),Ox P (k3 P q0 q3 (AQ f (Fh r sv n i 1 w)) Y)=some (mM q0 q3 w)
 m11:∀(f:Y_)(Y:Z_)(i:Int)(w:n_),AU P 14 (BK (k3 P q0 q3 (AQ f (Fh r sv n i 1 w)) Y) (commResult (mM q0 q3 w) .select 0 undef false))=some []
 m12:∀(f:Y_)(Y:Z_)(i:Int)(w:n_),Eb P (m1 P q0 q3 w (AQ f (Fh r sv n i 1 w)) Y) (D5 q1)=some ([(S_ r 1)],D5 q1)
 m13:∀(f:Y_)(Y:Z_)(i:Int)(w:n_),AU P 5 (BK (m1 P q0 q3 w (AQ f (Fh r sv n i 1 w)) Y) (D5 q1))=some []
 m14:∀(f:Y_)(Y:Z_)(i:Int)(w:n_),Eb P (m2 P q0 q1 q3 w (AQ f (Fh r sv n i 1 w)) Y) (D5 q3)=some ([(S_ r 3)],D5 q3)
 m15:∀(f:Y_)(Y:Z_)(i:Int)(w:n_),AU P 3 (BK (m2 P q0 q1 q3 w (AQ f (Fh r sv n i 1 w)) Y) (D5 q3))=some []
 m16:∀(f:Y_)(Y:Z_)(i:Int)(w:n_),Ox P (m3 P q0 q1 q3 w (AQ f (Fh r sv n i 1 w)) Y)=some (G5 q1 q3)
 m21:∀(f:Y_)(Y:Z_)(i:Int)(w A:n_),AU P 7 (BK (m3 P q0 q1 q3 w (AQ f (Fh r sv n i 1 w)) Y) (commResult (G5 q1 q3) .select 0 A true))=some []
 q1_:∀(f:Y_)(i:Int)(w:n_),Ec P (some (257,6)) 37 (mq P q0 q1 q3 w (AQ f (Fh r sv n i 1 w)) (VK P b5 b2 b3 r sv n))=some ([r,r],dR P r (TM P b5 b2 b3 r sv n))
 e11:∀(f:Y_)(Y:Z_)(i:Int)(w:n_),AU P 18 (RB P (AQ f (Fh r sv n i 2 w)) Y)=some []
 e12:∀(f:Y_)(Y:Z_)(i:Int)(w:n_),Eb P (e1 P (AQ f (Fh r sv n i 2 w)) Y) (D5 q2)=some ([(S_ r 2)],D5 q2)
 e13:∀(f:Y_)(Y:Z_)(i:Int)(w:n_),AU P 8 (BK (e1 P (AQ f (Fh r sv n i 2 w)) Y) (D5 q2))=some []
 e14:∀(f:Y_)(Y:Z_)(i:Int)(w:n_),Eb P (e2 P q2 (AQ f (Fh r sv n i 2 w)) Y) (D5 q3)=some ([(S_ r 3)],D5 q3)
 e15:∀(f:Y_)(Y:Z_)(i:Int)(w:n_),AU P 3 (BK (e2 P q2 (AQ f (Fh r sv n i 2 w)) Y) (D5 q3))=some []
 e16:∀(f:Y_)(Y:Z_)(i:Int)(w:n_),Ox P (e3 P q2 q3 (AQ f (Fh r sv n i 2 w)) Y)=some (iI q2 q3 2)
 e17:∀(f:Y_)(i:Int)(w:n_),Ec P (some (257,6)) 31 (e4 P q2 q3 (AQ f (Fh r sv n i 2 w)) (VK P b5 b2 b3 r sv n))=some ([r,r],dR P r (TM P b5 b2 b3 r sv n))
 d11:∀(f:Y_)(Y:Z_)(i:Int),AU P 11 (branch (lc P (AQ f (Ob r sv n i)) Y) false)=some []
 d12:∀(f:Y_)(Y:Z_)(i:Int),Eb P (d1 P (AQ f (Ob r sv n i)) Y) (D5 q2)=some ([(S_ r 2)],D5 q2)
 d13:∀(f:Y_)(Y:Z_)(i:Int),AU P 8 (BK (d1 P (AQ f (Ob r sv n i)) Y) (D5 q2))=some []
 d14:∀(f:Y_)(Y:Z_)(i:Int),Eb P (d2 P q2 (AQ f (Ob r sv n i)) Y) (D5 q3)=some ([(S_ r 3)],D5 q3)
 d15:∀(f:Y_)(Y:Z_)(i:Int),AU P 3 (BK (d2 P q2 (AQ f (Ob r sv n i)) Y) (D5 q3))=some []
 d16:∀(f:Y_)(Y:Z_)(i:Int),Ox P (d3 P q2 q3 (AQ f (Ob r sv n i)) Y)=some (iI q2 q3 0)
 d17:∀(f:Y_)(i:Int),Ec P (some (257,6)) 31 (d4 P q2 q3 (AQ f (Ob r sv n i)) (VK P b5 b2 b3 r sv n))=some ([r,r],dR P r (TM P b5 b2 b3 r sv n))
section
variable {b5 b2 b3 r q0 q1 q2 q3:Nat}{sv:n_}{n:Int}
theorem qR:Eu prog b5 b2 b3 r q0 q1 q2 q3 sv n:=by
 constructor<;>intros<;>kernel_rfl
end
end Go.Fxa
namespace Go.Fxa
open Go.Conc
variable {x:Frame×Z_}{i:Int}{a b c d:n_}
theorem Uk (x:Frame×Z_)(v:n_):Conc.served (BO x) v=BO (BK x v):=rfl
structure TZ (K:o_->Prop)(Still:Loc->Prop)(b5 b2 b3 r q0 q1 q2 q3:Nat)(sv:n_)(n:Int):Prop where
 c5:∀w,K w->w.cell? (R_ b5)=some (pr r)
 s5:Still (.cell (R_ b5))
 c2:∀w,K w->w.cell? (R_ b2)=some sv
 s2:Still (.cell (R_ b2))
 c3:∀w,K w->w.cell? (R_ b3)=some (b_ n)
 s3:Still (.cell (R_ b3))
 r0:∀w,K w->w.cell? (R_ r)=some (D5 q0)
 t0:Still (.cell (R_ r))
 r1:∀w,K w->w.cell? (S_ r 1)=some (D5 q1)
 t1:Still (.cell (S_ r 1))
 r2:∀w,K w->w.cell? (S_ r 2)=some (D5 q2)
 t2:Still (.cell (S_ r 2))
 r3:∀w,K w->w.cell? (S_ r 3)=some (D5 q3)
 t3:Still (.cell (S_ r 3))
theorem We:∀{l:List (Nat×n_)},X3 x (l.map (·.1))=l.map (·.2)->AQ (slot x) l=slot x
 |l,h=>NL λp b=>by
  induction l with
  |nil=>cases b
  |cons a l c=>
   simp only[List.map_cons,X3,List.cons.injEq]at h
   obtain rfl|b:=r_.1 b
   .exact h.1
   .exact c h.2 b
theorem at_told {fn:h_}{todo:List Item}{Y:Z_}{l:List (Nat×n_)}(h:Ea x=(fn,todo,[],.run,.normal,none,Y))(e:X3 x (l.map (·.1))=l.map (·.2))(f:x.1.tmps.size=32):
  x=(Frame.mk fn (yP (AQ (slot x) l)) todo [] .run .normal none,Y):=by
 rw[We e];exact ab2 h f
section
variable {P:l_}{K:o_->Prop}{Still:Loc->Prop}{main:Bool}{b5 b2 b3 r q0 q1 q2 q3:Nat}{sv:n_}{n:Int}
theorem qV (F:Eu P b5 b2 b3 r q0 q1 q2 q3 sv n)(R:TZ K Still b5 b2 b3 r q0 q1 q2 q3 sv n):
  ∃f,RW P main K Still 21 (BO (ch0 P b5 b2 b3)) (BO (LH P (AQ f (Ob r sv n 0)) (VK P b5 b2 b3 r sv n))):=by
 have h:RW P main K Still 21 (BO (ch0 P b5 b2 b3)) (BO (run P 9 (ch5 P b5 b2 b3 r sv n))):=((((((RW.AU (main:=main) (K:=K) (Still:=Still) F.f01).trans (RW.at F.f02 R.c5 R.s5)).trans (RW.AU F.f03)).trans (RW.at F.f04 R.c5 R.s5)).trans (RW.at F.f05 R.c2 R.s2)).trans (RW.at F.f06 R.c3 R.s3)).trans (RW.AU F.f07);have e:=at_told (l:=Ob r sv n 0) F.f08 F.f09 F.f10;refine⟨slot (run P 9 (ch5 P b5 b2 b3 r sv n)),?_⟩;rw[e]at h;exact h
theorem yu (F:Eu P b5 b2 b3 r q0 q1 q2 q3 sv n)(f:Y_)(Y:Z_)(hi:i<n):
  ∃g,RW P main K Still 10 (BO (LH P (AQ f (Ob r sv n i)) Y)) (BO (Frame.mk 136 (yP (AQ g (Ob r sv n i))) (.code (XA P)::ag0 P) [] .run .normal none,Y)):=by
 have a:=F.l2 f Y i;rw[decide_eq_true hi]at a;have h:RW P main K Still 10 (BO (LH P (AQ f (Ob r sv n i)) Y)) (BO (lr P (AQ f (Ob r sv n i)) Y)):=((RW.AU (main:=main) (K:=K) (Still:=Still) (F.l1 f Y i)).trans (RW.iT (oI a))).trans (RW.AU (F.l3 f Y i));have e:=at_told (l:=Ob r sv n i) (F.l4 f Y i) (F.l5 f Y i) (F.l6 f Y i);refine⟨slot (lr P (AQ f (Ob r sv n i)) Y),?_⟩;rw[e]at h;exact h
theorem aw0 (F:Eu P b5 b2 b3 r q0 q1 q2 q3 sv n)(f:Y_)(Y:Z_)(i:Int)(x:n_):
  ∃g,RW P main K Still 28 (BO (RB P (AQ f (Fh r sv n i 0 x)) Y)) (BO (LH P (AQ g (Ob r sv n (IntKind.i64.wrap (i+1)))) Y)):=by
 have h:=RW.AU (main:=main) (K:=K) (Still:=Still) (F.s01 f Y i x);have e:=at_told (l:=Ob r sv n (IntKind.i64.wrap (i+1))) (F.s02 f Y i x) (F.s03 f Y i x) (F.s04 f Y i x);refine⟨slot (run P 28 (RB P (AQ f (Fh r sv n i 0 x)) Y)),?_⟩;rw[e]at h;exact h
theorem qU (F:Eu P b5 b2 b3 r q0 q1 q2 q3 sv n)(R:TZ K Still b5 b2 b3 r q0 q1 q2 q3 sv n)(f:Y_)(Y:Z_)(i:Int)(x:n_):
  RW P main K Still 42 (BO (RB P (AQ f (Fh r sv n i 1 x)) Y)) (BO (k3 P q0 q3 (AQ f (Fh r sv n i 1 x)) Y)):=
 ((((RW.AU (F.s11 f Y i x)).trans (RW.at (F.s12 f Y i x) R.r0 R.t0)).trans (RW.AU (F.s13 f Y i x))).trans (RW.at (F.s14 f Y i x) R.r3 R.t3)).trans (RW.AU (F.s15 f Y i x))
theorem yl (F:Eu P b5 b2 b3 r q0 q1 q2 q3 sv n)(R:TZ K Still b5 b2 b3 r q0 q1 q2 q3 sv n)(f:Y_)(Y:Z_)(i:Int)(x:n_):
  Ho P main K Still (G5 q1 q3) .select (λg=>g=BO (m3 P q0 q1 q3 x (AQ f (Fh r sv n i 1 x)) Y)) 24 (Conc.served (BO (k3 P q0 q3 (AQ f (Fh r sv n i 1 x)) Y)) (commResult (mM q0 q3 x) .select 0 undef false)):=by
 have h:=((((RW.AU (main:=main) (K:=K) (Still:=Still) (F.m11 f Y i x)).trans (RW.at (F.m12 f Y i x) R.r1 R.t1)).trans (RW.AU (F.m13 f Y i x))).trans (RW.at (F.m14 f Y i x) R.r3 R.t3)).trans (RW.AU (F.m15 f Y i x));exact RW.seat (k:=0) (home:=λg=>g=BO (m3 P q0 q1 q3 x (AQ f (Fh r sv n i 1 x)) Y)) (g':=BO (m3 P q0 q1 q3 x (AQ f (Fh r sv n i 1 x)) Y)) rfl ⟨_,#[],rfl,rfl,sJ,λw _=>I5 (F.m16 f Y i x) w⟩ h
theorem qQ (F:Eu P b5 b2 b3 r q0 q1 q2 q3 sv n)(f:Y_)(i:Int)(x:n_):
  Ls P (DD r #[a,b,c,d] 257) main 37 (Conc.served (BO (m3 P q0 q1 q3 x (AQ f (Fh r sv n i 1 x)) (VK P b5 b2 b3 r sv n))) (commResult (G5 q1 q3) .select 1 (.agg #[]) false)) (BO (dR P r (TM P b5 b2 b3 r sv n))):=
 Gy (Hw) (F.q1_ f i x) sJ
theorem ac5 (F:Eu P b5 b2 b3 r q0 q1 q2 q3 sv n)(R:TZ K Still b5 b2 b3 r q0 q1 q2 q3 sv n)(f:Y_)(Y:Z_)(i:Int)(x:n_):
  RW P main K Still 31 (BO (RB P (AQ f (Fh r sv n i 2 x)) Y)) (BO (e3 P q2 q3 (AQ f (Fh r sv n i 2 x)) Y)):=
 ((((RW.AU (F.e11 f Y i x)).trans (RW.at (F.e12 f Y i x) R.r2 R.t2)).trans (RW.AU (F.e13 f Y i x))).trans (RW.at (F.e14 f Y i x) R.r3 R.t3)).trans (RW.AU (F.e15 f Y i x))
theorem kX (F:Eu P b5 b2 b3 r q0 q1 q2 q3 sv n)(f:Y_)(i:Int)(x:n_):
  Ls P (DD r #[a,b,c,d] 257) main 31 (Conc.served (BO (e3 P q2 q3 (AQ f (Fh r sv n i 2 x)) (VK P b5 b2 b3 r sv n))) (commResult (iI q2 q3 2) .select 0 undef false)) (BO (dR P r (TM P b5 b2 b3 r sv n))):=
 Gy (Hw) (F.e17 f i x) sJ
theorem Xp (F:Eu P b5 b2 b3 r q0 q1 q2 q3 sv n)(R:TZ K Still b5 b2 b3 r q0 q1 q2 q3 sv n)(f:Y_)(Y:Z_)(hi:¬i<n):
  RW P main K Still 30 (BO (LH P (AQ f (Ob r sv n i)) Y)) (BO (d3 P q2 q3 (AQ f (Ob r sv n i)) Y)):=by
 have a:=F.l2 f Y i;rw[decide_eq_false hi]at a;exact((((((RW.AU (F.l1 f Y i)).trans (RW.iT (oI a))).trans (RW.AU (F.d11 f Y i))).trans (RW.at (F.d12 f Y i) R.r2 R.t2)).trans (RW.AU (F.d13 f Y i))).trans (RW.at (F.d14 f Y i) R.r3 R.t3)).trans (RW.AU (F.d15 f Y i))
theorem Z9 (F:Eu P b5 b2 b3 r q0 q1 q2 q3 sv n)(f:Y_)(i:Int):
  Ls P (DD r #[a,b,c,d] 257) main 31 (Conc.served (BO (d3 P q2 q3 (AQ f (Ob r sv n i)) (VK P b5 b2 b3 r sv n))) (commResult (iI q2 q3 0) .select 0 undef false)) (BO (dR P r (TM P b5 b2 b3 r sv n))):=
 Gy (Hw) (F.d17 f i) sJ
end
end Go.Fxa
