/- The processor: words of the im -/
import Derived.Test.YtmhplpfpcnjekaaGreatA16
import Derived.WalkKit
import Derived.BigFrameIn
import Derived.BigGuardIn
namespace Go.Fxa
open Conc Proofs RowKit Proofs.Tryz
set_option maxRecDepth 1000000
set_option maxHeartbeats 0
theorem Ac.NZ {w:o_} {b o:Nat} (u:n_):Ac (At b) w (w.setCell (S_ b o) u):=(Ac.refl _ _).setCell _ λ_=>rfl
section
variable (pb ib c L n a m:Nat) (w:o_)
theorem Gh (b:w.cell? (S_ pb 8)=some (P_ ib L c)) (i:1<=n) (f:a<65536) (d:L<=128) (g:L<=c) (h:a+n<=L):
  CallsIn NF m prog 138 #[.pointer (some (S_ pb 5)),a_ a,b_ n] w λe w'=>e=.returned (.tuple #[.slice (some (S_ ib a)) n n,.bool true])/\w'=w:=by
 gi_enter func138,ntmps138;gi_wp2;go_ret2;exact⟨zF,rfl⟩
theorem IA (d:w.cell? (S_ pb 8)=some (P_ ib L c)) (g:1<=n) (b:n<=128) (f:a<65536) (h:¬a+n<=L):
  CallsIn NF m prog 138 #[.pointer (some (S_ pb 5)),a_ a,b_ n] w λe w'=>e=.returned (.tuple #[.slice none 0 0,.bool false])/\w'=w:=by
 gi_enter func138,ntmps138;gi_wp2;go_ret2;exact⟨zF,rfl⟩
theorem Tn:
  CallsIn NF m prog 138 #[.pointer (some (S_ pb 5)),a_ a,b_ 0] w λe w'=>e=.returned (.tuple #[.slice none 0 0,.bool true])/\w'=w:=by
 gi_enter func138,ntmps138;gi_wp2;go_ret2;exact⟨rfl,rfl⟩
theorem wrap_u16 (x:Int):IntKind.u16.wrap x=x % 65536:=rfl
end
theorem gu {k:IntKind} {a b:Int} (h:a=b):Ending.returned (.int k a)=.returned (.int k b):=by rw[h]
section
variable (m:Nat) (w:o_)
def Ai (n:Nat):Nat:=(n+7) / 8
theorem F9 (n:Nat) (h:n<1000000):CallsIn NF m prog 48 #[b_ n] w λe w'=>e=.returned (b_ (Ai n))/\w'=w:=by
 gi_enter func48,ntmps48;gi_wp2;go_ret;refine⟨gu ?_,rfl⟩;simp[Ai];omega
theorem Ac.has {w w':o_} (h:Ac No w w') {p:f_} {u:n_} (a:w.cell? p=some u):w'.cell? p=some u:=(h.cell (qy _ _ a) (λx=>x)).trans a
def ϭ (w:o_) (v:n_) (n:Nat) (f:Nat->Int):Prop:=
 n<100000000/\∃s c,v=.slice s n c/\(0<n->∃b o,s=some (S_ b o)/\∀i,i<n->w.cell? (S_ b (o+i))=some (b_ (f i)))
end
end Go.Fxa
