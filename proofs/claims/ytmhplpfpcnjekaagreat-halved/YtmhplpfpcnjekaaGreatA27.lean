/- A call is served -/
import Derived.Test.YtmhplpfpcnjekaaGreatA24
import Derived.Test.YtmhplpfpcnjekaaGreatA25
namespace Go.Fxa
open Conc Proofs RowKit Proofs.Tryz
set_option maxRecDepth 1000000
set_option maxHeartbeats 0
variable {r:PR}
def vK (call:Nat):Prop:=¬(call:Int)=1/\¬(call:Int)=2/\¬(call:Int)=3/\¬(call:Int)=4/\¬(call:Int)=5/\¬(call:Int)=6/\¬(call:Int)=7/\¬(call:Int)=8/\¬(call:Int)=9/\¬(call:Int)=10/\¬(call:Int)=11/\¬(call:Int)=12/\¬(call:Int)=13/\¬(call:Int)=14
def WO:Nat->Nat
 |1=>1|3=>1|4=>1|5=>1|6=>3|7=>3|8=>1|9=>1|10=>2|11=>1|13=>1|14=>2|_=>0
def DR (r:PR)(j:Nat):Nat:=(r.Af[r.A+j]?).getD 0
theorem RF {j a:Nat}(h:r.Af[r.A+j]?=some a):Yp (DR r j=a):=by unfold Yp DR;rw[h];rfl
def dY (K:KS)(b:Nat)(r:PR):Nat->KS->Nat->Nat->n_->Prop
 |1=>λK' x y f=>x=DR r 0/\y=0/\f=.nilFunc/\sZ K b r (DR r 0) K'
 |2=>zt K r
 |3=>dJ K b r (DR r 0)
 |4=>Yx K b r (DR r 0)
 |5=>dN K b r (DR r 0)
 |6=>dL K b r (DR r 0) (DR r 1) (DR r 2)
 |7=>VX K r (DR r 0) (DR r 1) (DR r 2)
 |8=>VY K b r (DR r 0)
 |9=>ϔ K b r (DR r 0)
 |10=>Tn K b r (DR r 0) (DR r 1)
 |11=>dO K b r (DR r 0)
 |12=>λK' x y f=>K'=K/\x=r.pid/\y=0/\f=.nilFunc
 |13=>RH K (DR r 0)
 |14=>dK K r (DR r 0) (DR r 1)
 |_=>GY K 12
def UM (K:KS)(b:Nat)(r:PR)(call:Nat):KS->Nat->Nat->n_->Prop:=λK' x y f=>(¬(WO call=0\/r.A+WO call<=r.Af.length)/\GY K 1 K' x y f)\/((WO call=0\/r.A+WO call<=r.Af.length)/\dY K b r call K' x y f)
theorem ap8 {K:KS}{b:Nat}{call:Nat}(h:vK call):UM K b r call K 0 12 .nilFunc:=by
 obtain⟨g,i,j,k,l,m,n,o,p,a,c,d,e,f⟩:=h;refine .inr ⟨.inl ?_,?_⟩
 .unfold WO;split<;>first|rfl|(exfalso;omega)
 .unfold dY;split<;>first|exact GY.of|(exfalso;omega)
section
variable (m:Nat)(w:o_)
theorem jr (K:KS)(NC NS b call:Nat)(r:PR)(h:AY K w)(hO:DU NC NS K)(hm:b∈K.Ar)(hb:K.ps b=some r)(hn:r.en=false)(ca:∀m w,O_ m 139 #[a_ (call:Nat)] w fun e w'=>e=.returned (b_ 0)/\w'=w)(hc:call=2\/call=12\/vK call):
  O_ m 96 #[Q_ K.kb,Q_ b,a_ (call:Nat)] w (FX (UM K b r call) NC NS b K w):=by
 have o:=hO.pr b r hb;obtain⟨n,rb,q⟩:=IE w;have j:=h.no n;have J:K.T w.heap.size=(0,0):=h.lt _ w_;obtain⟨gi,ci,G,t,yK,R⟩:=j.lh hb hn;have C:=j.Iu hb 5;simp[PR.arr]at C;gi_enter func96,ntmps96;gi_wp2;generalize S:w.alloc V_=a at*;refine Cc 15 155 ?_;gi_wp2_with (first|(gi_at_call 139;refine(ca _ a.drew).mono ?_;rintro e w1 ⟨rfl,rfl⟩)|(gi_at_call 138;refine(Ue b r.A _ a.drew).mono ?_;rintro e w1 ⟨rfl,rfl⟩));refine Ee ?_ ?_
 .intro W k;have d5:=k.has (w:=a.drew) C;have d8:=k.has (w:=a.drew) G
  repeat' (refine AA ?_ ?_)
  all_goals first|exact dE|gi_wp2_with (first|(gi_at_call 139;refine(ca _ W).mono ?_;rintro e w1 ⟨rfl,rfl⟩)|(gi_at_call 138;refine(Ue b r.A _ W).mono ?_;rintro e w1 ⟨rfl,rfl⟩))
 .intro W k;have KW:Aa No a W:=(Aa.refl No a).drew.then k;gi_wp2_with fail;refine(gU _ W).mono ?_;rintro e w1 ⟨rfl,D⟩;have c:Aa No a w1:=KW.then D;have l:=c.old rb id;clear t D KW k C G;obtain rfl|rfl|hc:=hc
  .have O:=λm=>bj8 m w1 K NC NS b r (j.no c) hO hm hb hn
   gi_wp2_with (first|(gi_at_call 142;refine(O _).mono ?_;rintro e w2 ⟨M,x,y,f,rfl,U,V,F,Q,s,I,N,⟨r2,L,z⟩,u⟩;have E:=(BQ.no c j.lt).trans N;obtain⟨H,d,g,i⟩:=Az (x:=x) (y:=y) (f:=f) (E.old rb J) F.one)|refine Fa d ?_);refine bodyPost_ret (v:=.agg #[a_ x,a_ y,f]) (by simp[results,results96,go_sem,FU i]) rfl ?_;exact BD (K':=M) (x:=x) (y:=y) h.lt n q E Q g U V F s I L z (.inr ⟨.inl rfl,u⟩)
  .have P:=(j.no c).Iu hb 0;simp[PR.arr]at P;have hp:=o.pid;gi_wp2_with (first|(gi_at_call 152;refine(Eg _ _ r.pid wB).mono ?_;rintro e wz ⟨rfl,p⟩;obtain⟨H,d,g,i⟩:=Az (x:=r.pid) (y:=0) (f:=.nilFunc) (p.old (l) id) rfl)|refine Fa d ?_);refine T_ r.pid 0 (by simp[results,results96,go_sem,FU i]) rfl ?_;exact Ci h hO hm hb n q (c.then p) g wB sN (.inr ⟨.inl rfl,rfl,rfl,rfl,rfl⟩)
  .have B:=ap8 (K:=K) (b:=b) (r:=r) hc;obtain⟨n1,n2,n3,n4,n5,n6,n7,n8,n9,X,Y,Z,n13,n14⟩:=hc;gi_wp2_with (first|(gi_at_call 140;refine(Uy 12 l _).mono ?_;rintro e wz ⟨rfl,p,H,d,g,i⟩)|refine Fa d ?_);refine T_ 0 12 (by simp[results,results96,go_sem,FU i]) rfl ?_;exact Ci h hO hm hb n q (c.then p) g sN sN B
end
end Go.Fxa
