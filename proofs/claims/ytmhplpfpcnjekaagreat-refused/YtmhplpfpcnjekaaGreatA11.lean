/- The processor: w -/
import Derived.Test.YtmhplpfpcnjekaaGreatA10
import Derived.WalkKit
import Derived.BigFrameIn
import Derived.BigGuardIn
namespace Go.Fxa
open Conc Proofs RowKit Proofs.Tryz
set_option maxRecDepth 1000000
set_option maxHeartbeats 0
theorem Aa.O8 {w:o_}{b o:Nat}(u:n_):Aa (At b) w (w.setCell (S_ b o) u):=(Aa.refl _ _).setCell _ λ_=>rfl
section
variable (pb ib c L n a m:Nat)(w:o_)
theorem Gq (b:w.cell? (S_ pb 8)=some (P_ ib L c))(g:1<=n)(d:a<65536)(hL:L<=128)(f:L<=c)(h:a+n<=L):
  CallsIn NF m prog 138 #[.pointer (some (S_ pb 5)),a_ a,b_ n] w λe w'=>e=.returned (.tuple #[.slice (some (S_ ib a)) n n,.bool true])/\w'=w:=by
 gi_enter func138,ntmps138;gi_wp2;go_ret2;exact⟨sJ,rfl⟩
theorem IJ (d:w.cell? (S_ pb 8)=some (P_ ib L c))(g:1<=n)(b:n<=128)(f:a<65536)(h:¬a+n<=L):
  CallsIn NF m prog 138 #[.pointer (some (S_ pb 5)),a_ a,b_ n] w λe w'=>e=.returned (.tuple #[.slice none 0 0,.bool false])/\w'=w:=by
 gi_enter func138,ntmps138;gi_wp2;go_ret2;exact⟨sJ,rfl⟩
theorem Ue:
  CallsIn NF m prog 138 #[.pointer (some (S_ pb 5)),a_ a,b_ 0] w λe w'=>e=.returned (.tuple #[.slice none 0 0,.bool true])/\w'=w:=by
 gi_enter func138,ntmps138;gi_wp2;go_ret2;exact⟨rfl,rfl⟩
theorem wrap_u16 (x:Int):IntKind.u16.wrap x=x % 65536:=rfl
end
theorem jy {k:IntKind}{a b:Int}(h:a=b):Ending.returned (.int k a)=.returned (.int k b):=by rw[h]
section
variable (m:Nat)(w:o_)
def Aj (n:Nat):Nat:=(n+7) / 8
theorem Gm (n:Nat)(h:n<1000000):CallsIn NF m prog 48 #[b_ n] w λe w'=>e=.returned (b_ (Aj n))/\w'=w:=by
 gi_enter func48,ntmps48;gi_wp2;go_ret;refine⟨jy ?_,rfl⟩;simp[Aj];omega
theorem Aa.has {w w':o_}(h:Aa No w w'){p:f_}{u:n_}(a:w.cell? p=some u):w'.cell? p=some u:=(h.cell (l9 _ _ a) (λx=>x)).trans a
def SlI (w:o_)(v:n_)(n:Nat)(f:Nat->Int):Prop:=
 n<100000000/\∃s c,v=.slice s n c/\(0<n->∃b o,s=some (S_ b o)/\∀i,i<n->w.cell? (S_ b (o+i))=some (b_ (f i)))
end
end Go.Fxa
