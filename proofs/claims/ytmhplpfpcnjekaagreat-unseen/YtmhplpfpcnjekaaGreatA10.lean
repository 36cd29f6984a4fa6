/- Done's and Add's records, at t -/
import Derived.Test.YtmhplpfpcnjekaaGreatA09
import Derived.Conc.Own2
open Go.Proofs.Tryz
namespace Go.Fxa
open Go.Conc Go.Proofs
section
variable (r:Nat) (tm:X_) (td:List Item) (c:Frame) (Y:Z_)
theorem ah7:AU prog 15 (dS prog r [f134 tm td,CU prog])=some [r,r]:=sJ
theorem ad9:AX (dR prog r [f134 tm td,CU prog])=some (172,#[.pointer (some (S_ r 4))]):=sJ
theorem rQ:AU prog 3 (BG (dR prog r [f134 tm td,CU prog]) Jg)=some []:=sJ
theorem ae4:AX (dD prog r [f134 tm td,CU prog])=some (173,#[]):=sJ
theorem rU:AU prog 11 (BG (dD prog r [f134 tm td,CU prog]) Jg)=some []:=sJ
theorem ae5:AX (dB prog r [f134 tm td,CU prog])=some (175,#[]):=sJ
theorem rV:AU prog 22 (BG (dB prog r [f134 tm td,CU prog]) (.bool false))=some []:=sJ
theorem xO:AX (dA prog r [f134 tm td,CU prog])=some (223,#[.pointer (some (S_ r 4)),.int .u64 18446744069414584320]):=sJ
theorem rO:AU prog 87 (BG (dA prog r [f134 tm td,CU prog]) (.int .u64 0))=some []:=sJ
theorem ae3:Md (dF prog r [f134 tm td,CU prog])=some (174,#[]):=sJ
theorem rP:DY prog (some (257,6)) 5 (TV (dF prog r [f134 tm td,CU prog]))=some ([],(CU prog,[])):=sJ
theorem rH:AU prog 103 (BG (dA prog r [f134 tm td,CU prog]) (.int .u64 1))=some []:=sJ
theorem ae1:AX (dM prog r [f134 tm td,CU prog])=some (224,#[.pointer (some (S_ r 4))]):=sJ
theorem rF:AU prog 20 (BG (dM prog r [f134 tm td,CU prog]) (.int .u64 1))=some []:=sJ
theorem ad8:AX (dT prog r [f134 tm td,CU prog])=some (225,#[.pointer (some (S_ r 4)),.int .u64 0]):=sJ
theorem rG:AU prog 27 (BG (dT prog r [f134 tm td,CU prog]) Jg)=some []:=sJ
theorem ae0:AX (dP prog r [f134 tm td,CU prog])=some (184,#[.pointer (some (S_ r 5)),.bool false,b_ 0]):=sJ
theorem rJ:AU prog 17 (BG (dP prog r [f134 tm td,CU prog]) Jg)=some []:=sJ
theorem ae2:Md (dG prog r [f134 tm td,CU prog])=some (174,#[]):=sJ
theorem rM:DY prog (some (257,6)) 5 (TV (dG prog r [f134 tm td,CU prog]))=some ([],(CU prog,[])):=sJ
theorem be8:mayWake prog (BJ (dP prog r [f134 tm td,CU prog]))=true:=sJ
theorem vW:Pn prog r tm td:=
 ⟨bn5,dU,ZF,zY,bn3,qB,dQ,bn0,ah7 r tm td,ad9 r tm td,rQ r tm td,ae4 r tm td,rU r tm td,ae5 r tm td,rV r tm td,xO r tm td,rO r tm td,ae3 r tm td,rP r tm td,rH r tm td,ae1 r tm td,rF r tm td,ad8 r tm td,rG r tm td,ae0 r tm td,rJ r tm td,ae2 r tm td,rM r tm td,be8 r tm td⟩
theorem sO:AU prog 12 (aS prog r (c::Y))=some []:=sJ
theorem ae8:AX (aD prog r (c::Y))=some (173,#[]):=sJ
theorem sQ:AU prog 11 (BG (aD prog r (c::Y)) Jg)=some []:=sJ
theorem ae9:AX (aB prog r (c::Y))=some (175,#[]):=sJ
theorem sS:AU prog 22 (BG (aB prog r (c::Y)) (.bool false))=some []:=sJ
theorem af0:AX (aA prog r (c::Y))=some (223,#[.pointer (some (S_ r 4)),.int .u64 4294967296]):=sJ
theorem sH:AU prog 53 (BG (aA prog r (c::Y)) (.int .u64 4294967296))=some [r,r]:=sJ
theorem ae6:AX (aR prog r (c::Y))=some (180,#[.pointer (some (S_ r 5))]):=sJ
theorem sK:AU prog 39 (BG (aR prog r (c::Y)) Jg)=some []:=sJ
theorem ae7:Md (aE prog r (c::Y))=some (174,#[]):=sJ
theorem sN:DY prog (some (257,6)) 1 (TV (aE prog r (c::Y)))=some ([],(c.finish (.tuple #[]),Y)):=sJ
theorem ϩ:YD prog r c Y:=
 ⟨dU,ZF,zY,bn4,qB,sO r c Y,ae8 r c Y,sQ r c Y,ae9 r c Y,sS r c Y,af0 r c Y,sH r c Y,ae6 r c Y,sK r c Y,ae7 r c Y,sN r c Y⟩
end
end Go.Fxa
namespace Go.Fxa
open Go.Conc
open Go.ConcN (sumTo upd sumTo_upd upd_ne upd_same)
def RW (P:l_) (main:Bool) (K:o_->Prop) (Still:Loc->Prop):Nat->m_->m_->Prop
 |0,g,g'=>g=g'
 |n+1,g,g'=>g.status=.running/\∃g1 es,(∀e∈es,EvR Still e)/\(∀w,K w->stepG P main g w=.go g1 w es)/\RW P main K Still n g1 g'
section
variable {P:l_} {Z:Nat->Prop} {Ad Still:Loc->Prop} {Mem Am:Nat->Prop} {main:Bool} {K:o_->Prop} {h j:Nat} {By:Nat->m_->o_->Trace->Prop}
theorem RW.trans {g g' k:m_}:∀{n m:Nat},RW P main K Still n g g'->RW P main K Still m g' k->RW P main K Still (n+m) g k
 |0,m,h,a=>by rw[Nat.zero_add,show g=g' from h];exact a
 |n+1,m,h,a=>by
  obtain⟨d,c,b,e,f,i⟩:=h
  rw[show n+1+m=(n+m)+1 from by omega]
  exact⟨d,c,b,e,f,i.trans a⟩
theorem RW.fB {g g':m_}:∀{n:Nat},KR P K main n g g'->RW P main K Still n g g'
 |0,h=>h
 |n+1,h=>by
  obtain⟨b,a,c,d⟩:=h
  exact⟨b,a,#[],zF,c,RW.fB d⟩
theorem RW.read {x:Frame×Z_} {o:Oper} {v:n_} {g:U_} {f:List f_} (h:WJ x=some o) (k:(execOp x.1.eval o).feed P g=some (f,.value v)) (i:∀w,K w->Cells w f g) (m:∀a∈f,Still (.cell a)) (l:(P.funcs[x.1.fn]?).any (·.norace)=false):
  RW P main K Still 1 (BJ x) (BJ (BG x v)):=
 ⟨rfl,_,Hy f,λe b=>by
  simp only[Hy,gI,List.mem_map]at b
  obtain⟨a,c,rfl⟩:=b
  exact⟨a,rfl,m a c⟩,λw d=>yG h k (i w d) l,rfl⟩
theorem RW.status {g':m_} (a:g'.status=.running):∀{n:Nat} {g:m_},RW P main K Still n g g'->g.status=.running
 |0,_,h=>h ▸ a
 |_+1,_,h=>h.1
theorem RW.seat {cases:Array CommCase} {shape:CommShape} {home:m_->Prop} {g':m_} {k:Nat} (i:g'.status=.running) (l:G5 P main K Still cases shape home k g'):∀{n:Nat} {g:m_},RW P main K Still n g g'->G5 P main K Still cases shape home (n+k) g
 |0,g,h=>by rw[Nat.zero_add,show g=g' from h];exact l
 |n+1,g,h=>by
  obtain⟨f,c,b,d,e,a⟩:=h
  rw[show n+1+k=(n+k)+1 from by omega]
  exact⟨c,b,a.status i,d,e,RW.seat i l a⟩
theorem be3 {S0:Loc->Prop} (f:∀l,S0 l->¬Ad l) {B:Nat} {e:Event} (i:EvR S0 e) (g:∀a,S0 (.cell a)->a.block<B):Zz Ad Still B e:=by
 obtain⟨a,rfl,b⟩:=i;refine⟨λx d=>?_,zF,zF,g a b,zF⟩;obtain rfl:=x_ d;exact⟨λ_=>⟨rfl,f _ b⟩,λc=>(f _ b c).elim⟩
theorem qW {S0:Loc->Prop} (hJ:∀n b w t,By n b w t->∀d,K (w.at d)) (Cc:∀w a,K w->S0 (.cell a)->a.block<w.heap.size) (X:∀l,S0 l->¬Ad l) (O:GR P Z Ad Still (fun B t=>PX Ad Still Mem Am B h t) j By) {a':m_}:
  ∀(k:Nat) {a:m_} (_:RW P (h==0) K S0 k a a') {n B:Nat} {gs:Array m_} {w:o_} {sl:d_ (W_)} {t:Trace} {q:Nat->Nat},
  gs[h]?=some a->Duo P Ad Still Mem Am B h j By n gs w t q->AQ P gs w sl t λY w' t'=>∃q' n' B',Y[h]?=some a'/\CP Z w w'/\B<=B'/\Duo P Ad Still Mem Am B' h j By n' Y w' t' q'
 |0,a,m,n,B,gs,w,sl,t,q,g,D=>.now ⟨q,n,B,by rw[g,show a=a' from m],CP.refl w,w_ _,D⟩
 |k+1,a,m,n,B,gs,w,sl,t,q,g,D=>by
  obtain⟨y,a1,v,A,c,C⟩:=m
  refine go_duo (LV:=Mem) (Loose':=Am) O g y D D.mem λr i w1 s Q U W H f I d=>?_
  have u:∀e∈v,Zz Ad Still r e:=λe G=>be3 X (A e G) λa F=>Nat.lt_of_lt_of_le (Cc _ a (hJ _ _ _ _ f d) F) s
  refine⟨a1,w1.at d,v,r,c _ (hJ _ _ _ _ f d),w_ _,s,I.own u,By,Q,?_,λY q' n' V E z S=>?_⟩
  .rw[woken_of_again (O.again f (w1.at d) (λ_ _=>rfl))];exact O.calm (w1.at d) _ f (λ_ _=>rfl) (Gf D.ne u)
  .exact(qW hJ Cc X O k C E z).mono λx T R ⟨p,o,B'',J,L,N,M⟩=>⟨p,o,B'',J,H.trans ((CP.at w1 d).trans L),pV i N,M⟩
end
end Go.Fxa
namespace Go.Fxa
open Go.Conc
variable {x:Frame×Z_}
def rX (x:Frame×Z_):d_ n_:=match x.1.roundOf,x.1.mode,x.1.todo with
 |none,.run,.code (.cond c _ _)::_=>some (x.1.eval c)
 |_,_,_=>none
def branch (x:Frame×Z_) (t:Bool):Frame×Z_:=match x.1.todo with
 |.code (.cond _ a b)::k=>({ x.1 with todo:=.code (if t then a else b)::k },x.2)
 |_=>x
theorem lY {P:l_} {J:o_->Prop} {main:Bool} {t:Bool} (h:rX x=some (.bool t)):KR P J main 1 (BJ x) (BJ (branch x t)):=by
 obtain⟨⟨fn,e,f,j,d,kind,l⟩,i⟩:=x;unfold rX at h;simp only at h;split at h
 .rename_i c a b k;have g:=x_ h;refine⟨rfl,_,λw _=>?_,rfl⟩;simp[BJ,branch,G,stepG,stepG.exec,g]
 .cases h
def pr (r:Nat):n_:=Q_ r
def DV (q:Nat):n_:=.chan (some q)
def xA (f:Y_):X_:=((List.range 32).map f).toArray
def A8 (f:Y_):List (Nat×n_)->Nat->n_
 |[],i=>f i
 |(a,v)::l,i=>if i=a then v else A8 f l i
def u0:Nat->n_:=λ_=>b_ 0
def Ol (P:l_) (x:Frame×Z_):d_ (Array CommCase):=match WJ x with
 |some o=>match (execOp x.1.eval o).Jo P with
  |some (.comm cs true .select)=>some cs
  |_=>none
 |none=>none
def DX (P:l_) (x:Frame×Z_) (v:n_):d_ (List f_×n_):=match WJ x with
 |some o=>match (execOp x.1.eval o).feed P [v]with
  |some (l,.value y)=>if(P.funcs[x.1.fn]?).any (·.norace)then none else some (l,y)
  |_=>none
 |none=>none
def DW (x:Frame×Z_):h_×List Item×List Deferred×FrameMode×CallKind×d_ Nat×Z_:=(x.1.fn,x.1.todo,x.1.defers,x.1.mode,x.1.kind,x.1.roundOf,x.2)
def slot (x:Frame×Z_) (i:Nat):n_:=x.1.tmps.getD i undef
def Yr (x:Frame×Z_) (l:List Nat):U_:=l.map (slot x)
theorem NH {f:Nat->n_}:∀{l:List (Nat×n_)},(∀p∈l,f p.1=p.2)->A8 f l=f
 |[],_=>rfl
 |(a,v)::l,h=>by
  funext i
  simp only[A8]
  split
  .rename_i e;rw[e];exact(h _ (List.mem_cons_self ..)).symm
  .exact congrFun (NH λp b=>h p (List.mem_cons_of_mem _ b)) i
theorem bh0 {T:X_} (h:T.size=32):T=xA λi=>T.getD i undef:=by
 apply Array.ext
 .simp[xA,h]
 .intro i a b;simp[xA,Array.getD,a]
theorem ϔ {fn:h_} {todo:List Item} {ds:List Deferred} {m:FrameMode} {kd:CallKind} {i:d_ Nat} {Y:Z_} (h:DW x=(fn,todo,ds,m,kd,i,Y)) (j:x.1.tmps.size=32):x=(Frame.mk fn (xA (slot x)) todo ds m kd i,Y):=by
 obtain⟨⟨a,b,c,d,e,f,g⟩,y⟩:=x;simp only[DW,lJ]at h;obtain⟨rfl,rfl,rfl,rfl,rfl,rfl,rfl⟩:=h;simp only[lJ,Frame.mk.injEq,and_true,true_and];exact bh0 j
section
variable {P:l_} {main:Bool} {K:o_->Prop} {Still:Loc->Prop} {x:Frame×Z_}
theorem RW.at {v y:n_} {ad:f_} (h:DX P x v=some ([ad],y)) (f:∀w,K w->w.cell? ad=some v) (g:Still (.cell ad)):RW P main K Still 1 (BJ x) (BJ (BG x y)):=by
 unfold DX at h;split at h
 .rename_i o b;split at h
  .rename_i l e a;split at h
   .cases h
   .rename_i c;simp only[qx,lJ]at h;obtain⟨rfl,rfl⟩:=h;exact RW.read b a (λw d=>⟨f w d,eu⟩) (by simpa using g) (by simpa using c)
  .cases h
 .cases h
theorem IW {cs:Array CommCase} (h:Ol P x=some cs) (w:o_):stepG P main (BJ x) w=.comm (BJ x) cs true .select w #[]:=by
 unfold Ol at h;split at h
 .rename_i o c;split at h
  .rename_i a b;obtain rfl:=x_ h;exact zt c b
  .cases h
 .cases h
theorem RW.AU {n:Nat} (h:AU P n x=some []):RW P main K Still n (BJ x) (BJ (run P n x)):=by
 unfold Fxa.AU at h;obtain⟨⟨l,y⟩,b,rfl⟩:=jb.1 h;have e:run P n x=y:=by unfold run;rw[b]
 rw[e];have:∀{n:Nat} {x y:Frame×Z_},DY P (some (257,6)) n x=some ([],y)->KR P K main n (BJ x) (BJ y):=by
  intro n
  induction n with
  |zero=>
   intro x y h
   simp only[DY,qx,lJ,true_and]at h
   subst h;exact rfl
  |succ n d=>
   intro x y h
   simp only[DY]at h
   split at h
   .rename_i f z c;split at h
    .rename_i g i a;simp only[qx,lJ,List.append_eq_nil_iff]at h;obtain⟨⟨rfl,rfl⟩,rfl⟩:=h;exact⟨rfl,_,λw _=>Ru c zF,d a⟩
    .cases h
   .cases h
 exact RW.fB (this b)
end
section
variable (P:l_) (b5 b2 b3 r q0 q1 q2 q3:Nat) (sv:n_) (n i:Int) (w A:n_) (f:Y_) (Y:Z_)
def ch0:Frame×Z_:=({ (default:Frame)with fn:=P.funcs.size,defers:=[⟨.fn (.func 134) #[pr b5,pr b2,pr b3],#[]⟩],mode:=.panicking [goexitEntry] },[])
def ch1:=run P 3 (ch0 P b5 b2 b3)
def ch2:=run P 5 (BG (ch1 P b5 b2 b3) (pr r))
def ch3:=BG (ch2 P b5 b2 b3 r) (pr r)
def ch4:=BG (ch3 P b5 b2 b3 r) sv
def ch5:=BG (ch4 P b5 b2 b3 r sv) (b_ n)
def U9:Z_:=(run P 9 (ch5 P b5 b2 b3 r sv n)).2
def eQ:List Item:=(run P 8 (Frame.enter P 136 #[] .normal,[])).1.todo
def LH:Frame×Z_:=(Frame.mk 136 (xA f) (eQ P) [] .run .normal none,Y)
def lc:=run P 5 (LH P f Y)
def lr:=run P 4 (branch (lc P f Y) true)
def ac6:List Item:=(lr P u0 []).1.todo.tail
def RB:Frame×Z_:=(Frame.mk 136 (xA f) (ac6 P) [] .run .normal none,Y)
def k1:=run P 29 (RB P f Y)
def k2:=run P 8 (BG (k1 P f Y) (DV q0))
def k3:=run P 3 (BG (k2 P q0 f Y) (DV q3))
end
end Go.Fxa
namespace Go.Fxa
open Go.Conc Go.Proofs
def NY (r:Nat) (sv:n_) (n i:Int):List (Nat×n_):=[(0,pr r),(1,sv),(8,b_ n),(9,b_ i)]
def Fa (r:Nat) (sv:n_) (n i oc:Int) (w:n_):List (Nat×n_):=[(0,pr r),(1,sv),(8,b_ n),(9,b_ i),(6,b_ oc),(7,w)]
def qj:n_:=.agg #[a_ 0,a_ 0,.nilFunc]
def jY (q0 q3:Nat) (w:n_):Array CommCase:=#[scase q0 w (a_ 0),rcase q3 (.agg #[])]
def GM (q1 q3:Nat):Array CommCase:=#[rcase q1 qj,rcase q3 (.agg #[])]
def dV (q2 q3:Nat) (o:Int):Array CommCase:=#[scase q2 (b_ o) (b_ 0),rcase q3 (.agg #[])]
section
variable (P:l_) (b5 b2 b3 r q0 q1 q2 q3:Nat) (sv:n_) (n i:Int) (w A:n_) (f:Y_) (Y:Z_)
def WI:Code:=match (lr P u0 []).1.todo with
 |.code c::_=>c
 |_=>.skip
def m1:=run P 14 (BG (k3 P q0 q3 f Y) (commResult (jY q0 q3 w) .select 0 undef false))
def m2:=run P 5 (BG (m1 P q0 q3 w f Y) (DV q1))
def m3:=run P 3 (BG (m2 P q0 q1 q3 w f Y) (DV q3))
def mq:=BG (m3 P q0 q1 q3 w f Y) (commResult (GM q1 q3) .select 1 (.agg #[]) false)
def tmC:X_:=match U9 P b5 b2 b3 r sv n with
 |F::_=>(F.finish (.tuple #[])).tmps
 |[]=>#[]
def SS:Z_:=[f134 (tmC P b5 b2 b3 r sv n) [],CU P]
def e1:=run P 18 (RB P f Y)
def e2:=run P 8 (BG (e1 P f Y) (DV q2))
def e3:=run P 3 (BG (e2 P q2 f Y) (DV q3))
def e4:=BG (e3 P q2 q3 f Y) (commResult (dV q2 q3 2) .select 0 undef false)
def d1:=run P 11 (branch (lc P f Y) false)
def d2:=run P 8 (BG (d1 P f Y) (DV q2))
def d3:=run P 3 (BG (d2 P q2 f Y) (DV q3))
def d4:=BG (d3 P q2 q3 f Y) (commResult (dV q2 q3 0) .select 0 undef false)
end
structure En (P:l_) (b5 b2 b3 r q0 q1 q2 q3:Nat) (sv:n_) (n:Int):Prop where
 f01:AU P 3 (ch0 P b5 b2 b3)=some []
 f02:DX P (ch1 P b5 b2 b3) (pr r)=some ([(R_ b5)],pr r)
 f03:AU P 5 (BG (ch1 P b5 b2 b3) (pr r))=some []
 f04:DX P (ch2 P b5 b2 b3 r) (pr r)=some ([(R_ b5)],pr r)
 f05:DX P (ch3 P b5 b2 b3 r) sv=some ([(R_ b2)],sv)
 f06:DX P (ch4 P b5 b2 b3 r sv) (b_ n)=some ([(R_ b3)],b_ n)
 f07:AU P 9 (ch5 P b5 b2 b3 r sv n)=some []
 f08:DW (run P 9 (ch5 P b5 b2 b3 r sv n))=(136,eQ P,[],.run,.normal,none,U9 P b5 b2 b3 r sv n)
 f09:Yr (run P 9 (ch5 P b5 b2 b3 r sv n)) [0,1,8,9]=[pr r,sv,b_ n,b_ 0]
 f10:(run P 9 (ch5 P b5 b2 b3 r sv n)).1.tmps.size=32
 l1:∀(f:Y_) (Y:Z_) (i:Int),AU P 5 (LH P (A8 f (NY r sv n i)) Y)=some []
 l2:∀(f:Y_) (Y:Z_) (i:Int),rX (lc P (A8 f (NY r sv n i)) Y)=some (.bool (decide (i<n)))
 l3:∀(f:Y_) (Y:Z_) (i:Int),AU P 4 (branch (lc P (A8 f (NY r sv n i)) Y) true)=some []
 l4:∀(f:Y_) (Y:Z_) (i:Int),DW (lr P (A8 f (NY r sv n i)) Y)=(136,.code (WI P)::ac6 P,[],.run,.normal,none,Y)
 l5:∀(f:Y_) (Y:Z_) (i:Int),Yr (lr P (A8 f (NY r sv n i)) Y) [0,1,8,9]=[pr r,sv,b_ n,b_ i]
 l6:∀(f:Y_) (Y:Z_) (i:Int),(lr P (A8 f (NY r sv n i)) Y).1.tmps.size=32
 s01:∀(f:Y_) (Y:Z_) (i:Int) (w:n_),AU P 28 (RB P (A8 f (Fa r sv n i 0 w)) Y)=some []
 s02:∀(f:Y_) (Y:Z_) (i:Int) (w:n_),DW (run P 28 (RB P (A8 f (Fa r sv n i 0 w)) Y))=(136,eQ P,[],.run,.normal,none,Y)
 s03:∀(f:Y_) (Y:Z_) (i:Int) (w:n_),Yr (run P 28 (RB P (A8 f (Fa r sv n i 0 w)) Y)) [0,1,8,9]=[pr r,sv,b_ n,b_ (IntKind.i64.wrap (i+1))]
 s04:∀(f:Y_) (Y:Z_) (i:Int) (w:n_),(run P 28 (RB P (A8 f (Fa r sv n i 0 w)) Y)).1.tmps.size=32
 s11:∀(f:Y_) (Y:Z_) (i:Int) (w:n_),AU P 29 (RB P (A8 f (Fa r sv n i 1 w)) Y)=some []
 s12:∀(f:Y_) (Y:Z_) (i:Int) (w:n_),DX P (k1 P (A8 f (Fa r sv n i 1 w)) Y) (DV q0)=some ([(R_ r)],DV q0)
 s13:∀(f:Y_) (Y:Z_) (i:Int) (w:n_),AU P 8 (BG (k1 P (A8 f (Fa r sv n i 1 w)) Y) (DV q0))=some []
 s14:∀(f:Y_) (Y:Z_) (i:Int) (w:n_),DX P (k2 P q0 (A8 f (Fa r sv n i 1 w)) Y) (DV q3)=some ([(S_ r 3)],DV q3)
 s15:∀(f:Y_) (Y:Z_) (i:Int) (w:n_),AU P 3 (BG (k2 P q0 (A8 f (Fa r sv n i 1 w)) Y) (DV q3))=some []
 s16:∀(f:Y_) (Y:Z_) (i:Int) (w:n_),Ol P (k3 P q0 q3 (A8 f (Fa r sv n i 1 w)) Y)=some (jY q0 q3 w)
 m11:∀(f:Y_) (Y:Z_) (i:Int) (w:n_),AU P 14 (BG (k3 P q0 q3 (A8 f (Fa r sv n i 1 w)) Y) (commResult (jY q0 q3 w) .select 0 undef false))=some []
 m12:∀(f:Y_) (Y:Z_) (i:Int) (w:n_),DX P (m1 P q0 q3 w (A8 f (Fa r sv n i 1 w)) Y) (DV q1)=some ([(S_ r 1)],DV q1)
 m13:∀(f:Y_) (Y:Z_) (i:Int) (w:n_),AU P 5 (BG (m1 P q0 q3 w (A8 f (Fa r sv n i 1 w)) Y) (DV q1))=some []
 m14:∀(f:Y_) (Y:Z_) (i:Int) (w:n_),DX P (m2 P q0 q1 q3 w (A8 f (Fa r sv n i 1 w)) Y) (DV q3)=some ([(S_ r 3)],DV q3)
 m15:∀(f:Y_) (Y:Z_) (i:Int) (w:n_),AU P 3 (BG (m2 P q0 q1 q3 w (A8 f (Fa r sv n i 1 w)) Y) (DV q3))=some []
 m16:∀(f:Y_) (Y:Z_) (i:Int) (w:n_),Ol P (m3 P q0 q1 q3 w (A8 f (Fa r sv n i 1 w)) Y)=some (GM q1 q3)
 m21:∀(f:Y_) (Y:Z_) (i:Int) (w A:n_),AU P 7 (BG (m3 P q0 q1 q3 w (A8 f (Fa r sv n i 1 w)) Y) (commResult (GM q1 q3) .select 0 A true))=some []
 q1_:∀(f:Y_) (i:Int) (w:n_),DY P (some (257,6)) 37 (mq P q0 q1 q3 w (A8 f (Fa r sv n i 1 w)) (U9 P b5 b2 b3 r sv n))=some ([r,r],dR P r (SS P b5 b2 b3 r sv n))
 e11:∀(f:Y_) (Y:Z_) (i:Int) (w:n_),AU P 18 (RB P (A8 f (Fa r sv n i 2 w)) Y)=some []
 e12:∀(f:Y_) (Y:Z_) (i:Int) (w:n_),DX P (e1 P (A8 f (Fa r sv n i 2 w)) Y) (DV q2)=some ([(S_ r 2)],DV q2)
 e13:∀(f:Y_) (Y:Z_) (i:Int) (w:n_),AU P 8 (BG (e1 P (A8 f (Fa r sv n i 2 w)) Y) (DV q2))=some []
 e14:∀(f:Y_) (Y:Z_) (i:Int) (w:n_),DX P (e2 P q2 (A8 f (Fa r sv n i 2 w)) Y) (DV q3)=some ([(S_ r 3)],DV q3)
 e15:∀(f:Y_) (Y:Z_) (i:Int) (w:n_),AU P 3 (BG (e2 P q2 (A8 f (Fa r sv n i 2 w)) Y) (DV q3))=some []
 e16:∀(f:Y_) (Y:Z_) (i:Int) (w:n_),Ol P (e3 P q2 q3 (A8 f (Fa r sv n i 2 w)) Y)=some (dV q2 q3 2)
 e17:∀(f:Y_) (i:Int) (w:n_),DY P (some (257,6)) 31 (e4 P q2 q3 (A8 f (Fa r sv n i 2 w)) (U9 P b5 b2 b3 r sv n))=some ([r,r],dR P r (SS P b5 b2 b3 r sv n))
 d11:∀(f:Y_) (Y:Z_) (i:Int),AU P 11 (branch (lc P (A8 f (NY r sv n i)) Y) false)=some []
 d12:∀(f:Y_) (Y:Z_) (i:Int),DX P (d1 P (A8 f (NY r sv n i)) Y) (DV q2)=some ([(S_ r 2)],DV q2)
 d13:∀(f:Y_) (Y:Z_) (i:Int),AU P 8 (BG (d1 P (A8 f (NY r sv n i)) Y) (DV q2))=some []
 d14:∀(f:Y_) (Y:Z_) (i:Int),DX P (d2 P q2 (A8 f (NY r sv n i)) Y) (DV q3)=some ([(S_ r 3)],DV q3)
 d15:∀(f:Y_) (Y:Z_) (i:Int),AU P 3 (BG (d2 P q2 (A8 f (NY r sv n i)) Y) (DV q3))=some []
 d16:∀(f:Y_) (Y:Z_) (i:Int),Ol P (d3 P q2 q3 (A8 f (NY r sv n i)) Y)=some (dV q2 q3 0)
 d17:∀(f:Y_) (i:Int),DY P (some (257,6)) 31 (d4 P q2 q3 (A8 f (NY r sv n i)) (U9 P b5 b2 b3 r sv n))=some ([r,r],dR P r (SS P b5 b2 b3 r sv n))
section
variable {b5 b2 b3 r q0 q1 q2 q3:Nat} {sv:n_} {n:Int}
theorem oN:En prog b5 b2 b3 r q0 q1 q2 q3 sv n:=by
 constructor<;>intros<;>kernel_rfl
end
end Go.Fxa
namespace Go.Fxa
open Go.Conc
variable {x:Frame×Z_} {i:Int} {a b c d:n_}
theorem Tz (x:Frame×Z_) (v:n_):Conc.served (BJ x) v=BJ (BG x v):=rfl
structure Tf (K:o_->Prop) (Still:Loc->Prop) (b5 b2 b3 r q0 q1 q2 q3:Nat) (sv:n_) (n:Int):Prop where
 c5:∀w,K w->w.cell? (R_ b5)=some (pr r)
 s5:Still (.cell (R_ b5))
 c2:∀w,K w->w.cell? (R_ b2)=some sv
 s2:Still (.cell (R_ b2))
 c3:∀w,K w->w.cell? (R_ b3)=some (b_ n)
 s3:Still (.cell (R_ b3))
 r0:∀w,K w->w.cell? (R_ r)=some (DV q0)
 t0:Still (.cell (R_ r))
 r1:∀w,K w->w.cell? (S_ r 1)=some (DV q1)
 t1:Still (.cell (S_ r 1))
 r2:∀w,K w->w.cell? (S_ r 2)=some (DV q2)
 t2:Still (.cell (S_ r 2))
 r3:∀w,K w->w.cell? (S_ r 3)=some (DV q3)
 t3:Still (.cell (S_ r 3))
theorem Vw:∀{l:List (Nat×n_)},Yr x (l.map (·.1))=l.map (·.2)->A8 (slot x) l=slot x
 |l,h=>NH λp b=>by
  induction l with
  |nil=>cases b
  |cons a l c=>
   simp only[List.map_cons,Yr,List.cons.injEq]at h
   obtain rfl|b:=r_.1 b
   .exact h.1
   .exact c h.2 b
theorem at_told {fn:h_} {todo:List Item} {Y:Z_} {l:List (Nat×n_)} (h:DW x=(fn,todo,[],.run,.normal,none,Y)) (e:Yr x (l.map (·.1))=l.map (·.2)) (f:x.1.tmps.size=32):
  x=(Frame.mk fn (xA (A8 (slot x) l)) todo [] .run .normal none,Y):=by
 rw[Vw e];exact ϔ h f
section
variable {P:l_} {K:o_->Prop} {Still:Loc->Prop} {main:Bool} {b5 b2 b3 r q0 q1 q2 q3:Nat} {sv:n_} {n:Int}
theorem oQ (F:En P b5 b2 b3 r q0 q1 q2 q3 sv n) (R:Tf K Still b5 b2 b3 r q0 q1 q2 q3 sv n):
  ∃f,RW P main K Still 21 (BJ (ch0 P b5 b2 b3)) (BJ (LH P (A8 f (NY r sv n 0)) (U9 P b5 b2 b3 r sv n))):=by
 have h:RW P main K Still 21 (BJ (ch0 P b5 b2 b3)) (BJ (run P 9 (ch5 P b5 b2 b3 r sv n))):=((((((RW.AU (main:=main) (K:=K) (Still:=Still) F.f01).trans (RW.at F.f02 R.c5 R.s5)).trans (RW.AU F.f03)).trans (RW.at F.f04 R.c5 R.s5)).trans (RW.at F.f05 R.c2 R.s2)).trans (RW.at F.f06 R.c3 R.s3)).trans (RW.AU F.f07);have e:=at_told (l:=NY r sv n 0) F.f08 F.f09 F.f10;refine⟨slot (run P 9 (ch5 P b5 b2 b3 r sv n)),?_⟩;rw[e]at h;exact h
theorem wI (F:En P b5 b2 b3 r q0 q1 q2 q3 sv n) (f:Y_) (Y:Z_) (j:i<n):
  ∃g,RW P main K Still 10 (BJ (LH P (A8 f (NY r sv n i)) Y)) (BJ (Frame.mk 136 (xA (A8 g (NY r sv n i))) (.code (WI P)::ac6 P) [] .run .normal none,Y)):=by
 have a:=F.l2 f Y i;rw[decide_eq_true j]at a;have h:RW P main K Still 10 (BJ (LH P (A8 f (NY r sv n i)) Y)) (BJ (lr P (A8 f (NY r sv n i)) Y)):=((RW.AU (main:=main) (K:=K) (Still:=Still) (F.l1 f Y i)).trans (RW.fB (lY a))).trans (RW.AU (F.l3 f Y i));have e:=at_told (l:=NY r sv n i) (F.l4 f Y i) (F.l5 f Y i) (F.l6 f Y i);refine⟨slot (lr P (A8 f (NY r sv n i)) Y),?_⟩;rw[e]at h;exact h
theorem ar4 (F:En P b5 b2 b3 r q0 q1 q2 q3 sv n) (f:Y_) (Y:Z_) (i:Int) (x:n_):
  ∃g,RW P main K Still 28 (BJ (RB P (A8 f (Fa r sv n i 0 x)) Y)) (BJ (LH P (A8 g (NY r sv n (IntKind.i64.wrap (i+1)))) Y)):=by
 have h:=RW.AU (main:=main) (K:=K) (Still:=Still) (F.s01 f Y i x);have e:=at_told (l:=NY r sv n (IntKind.i64.wrap (i+1))) (F.s02 f Y i x) (F.s03 f Y i x) (F.s04 f Y i x);refine⟨slot (run P 28 (RB P (A8 f (Fa r sv n i 0 x)) Y)),?_⟩;rw[e]at h;exact h
theorem oO (F:En P b5 b2 b3 r q0 q1 q2 q3 sv n) (R:Tf K Still b5 b2 b3 r q0 q1 q2 q3 sv n) (f:Y_) (Y:Z_) (i:Int) (x:n_):
  RW P main K Still 42 (BJ (RB P (A8 f (Fa r sv n i 1 x)) Y)) (BJ (k3 P q0 q3 (A8 f (Fa r sv n i 1 x)) Y)):=
 ((((RW.AU (F.s11 f Y i x)).trans (RW.at (F.s12 f Y i x) R.r0 R.t0)).trans (RW.AU (F.s13 f Y i x))).trans (RW.at (F.s14 f Y i x) R.r3 R.t3)).trans (RW.AU (F.s15 f Y i x))
theorem wG (F:En P b5 b2 b3 r q0 q1 q2 q3 sv n) (R:Tf K Still b5 b2 b3 r q0 q1 q2 q3 sv n) (f:Y_) (Y:Z_) (i:Int) (x:n_):
  G5 P main K Still (GM q1 q3) .select (λg=>g=BJ (m3 P q0 q1 q3 x (A8 f (Fa r sv n i 1 x)) Y)) 24 (Conc.served (BJ (k3 P q0 q3 (A8 f (Fa r sv n i 1 x)) Y)) (commResult (jY q0 q3 x) .select 0 undef false)):=by
 have h:=((((RW.AU (main:=main) (K:=K) (Still:=Still) (F.m11 f Y i x)).trans (RW.at (F.m12 f Y i x) R.r1 R.t1)).trans (RW.AU (F.m13 f Y i x))).trans (RW.at (F.m14 f Y i x) R.r3 R.t3)).trans (RW.AU (F.m15 f Y i x));exact RW.seat (k:=0) (home:=λg=>g=BJ (m3 P q0 q1 q3 x (A8 f (Fa r sv n i 1 x)) Y)) (g':=BJ (m3 P q0 q1 q3 x (A8 f (Fa r sv n i 1 x)) Y)) rfl ⟨_,#[],rfl,rfl,zF,λw _=>IW (F.m16 f Y i x) w⟩ h
theorem oM (F:En P b5 b2 b3 r q0 q1 q2 q3 sv n) (f:Y_) (i:Int) (x:n_):
  KR P (Dz r #[a,b,c,d] 257) main 37 (Conc.served (BJ (m3 P q0 q1 q3 x (A8 f (Fa r sv n i 1 x)) (U9 P b5 b2 b3 r sv n))) (commResult (GM q1 q3) .select 1 (.agg #[]) false)) (BJ (dR P r (SS P b5 b2 b3 r sv n))):=
 Gq (He) (F.q1_ f i x) zF
theorem Ϣ (F:En P b5 b2 b3 r q0 q1 q2 q3 sv n) (R:Tf K Still b5 b2 b3 r q0 q1 q2 q3 sv n) (f:Y_) (Y:Z_) (i:Int) (x:n_):
  RW P main K Still 31 (BJ (RB P (A8 f (Fa r sv n i 2 x)) Y)) (BJ (e3 P q2 q3 (A8 f (Fa r sv n i 2 x)) Y)):=
 ((((RW.AU (F.e11 f Y i x)).trans (RW.at (F.e12 f Y i x) R.r2 R.t2)).trans (RW.AU (F.e13 f Y i x))).trans (RW.at (F.e14 f Y i x) R.r3 R.t3)).trans (RW.AU (F.e15 f Y i x))
theorem ji (F:En P b5 b2 b3 r q0 q1 q2 q3 sv n) (f:Y_) (i:Int) (x:n_):
  KR P (Dz r #[a,b,c,d] 257) main 31 (Conc.served (BJ (e3 P q2 q3 (A8 f (Fa r sv n i 2 x)) (U9 P b5 b2 b3 r sv n))) (commResult (dV q2 q3 2) .select 0 undef false)) (BJ (dR P r (SS P b5 b2 b3 r sv n))):=
 Gq (He) (F.e17 f i x) zF
theorem Wx (F:En P b5 b2 b3 r q0 q1 q2 q3 sv n) (R:Tf K Still b5 b2 b3 r q0 q1 q2 q3 sv n) (f:Y_) (Y:Z_) (e:¬i<n):
  RW P main K Still 30 (BJ (LH P (A8 f (NY r sv n i)) Y)) (BJ (d3 P q2 q3 (A8 f (NY r sv n i)) Y)):=by
 have a:=F.l2 f Y i;rw[decide_eq_false e]at a;exact((((((RW.AU (F.l1 f Y i)).trans (RW.fB (lY a))).trans (RW.AU (F.d11 f Y i))).trans (RW.at (F.d12 f Y i) R.r2 R.t2)).trans (RW.AU (F.d13 f Y i))).trans (RW.at (F.d14 f Y i) R.r3 R.t3)).trans (RW.AU (F.d15 f Y i))
theorem Zk (F:En P b5 b2 b3 r q0 q1 q2 q3 sv n) (f:Y_) (i:Int):
  KR P (Dz r #[a,b,c,d] 257) main 31 (Conc.served (BJ (d3 P q2 q3 (A8 f (NY r sv n i)) (U9 P b5 b2 b3 r sv n))) (commResult (dV q2 q3 0) .select 0 undef false)) (BJ (dR P r (SS P b5 b2 b3 r sv n))):=
 Gq (He) (F.d17 f i) zF
end
end Go.Fxa
