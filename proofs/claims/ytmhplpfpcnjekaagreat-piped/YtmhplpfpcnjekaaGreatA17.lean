/- The processor: words of the im -/
import Derived.Test.YtmhplpfpcnjekaaGreatA16
import Derived.WalkKit
import Derived.BigFrameIn
import Derived.BigGuardIn
namespace Go.Fxa
open Conc Proofs RowKit Proofs.Tryz
set_option maxRecDepth 1000000
set_option maxHeartbeats 0
theorem Keep.Jo {w:o_} {b o:Nat} (u:n_):Keep (At b) w (w.setCell (T_ b o) u):=(p_ _ _).setCell _ λ_=>rfl
section
variable (pb ib c L n a m:Nat) (w:o_)
theorem GV (h8:w.cell? (T_ pb 8)=some (Q_ ib L c)) (hn:1<=n) (ha:a<65536) (hL:L<=128) (hc:L<=c) (h:a+n<=L):
  CallsIn NF m prog 138 #[.pointer (some (T_ pb 5)),a_ a,b_ n] w λe w'=>e=.returned (.tuple #[.slice (some (T_ ib a)) n n,.bool true])/\w'=w:=by
 gi_enter func138,ntmps138;gi_wp2;go_ret2;exact⟨by simp,rfl⟩
theorem MB (h8:w.cell? (T_ pb 8)=some (Q_ ib L c)) (hn:1<=n) (hn':n<=128) (ha:a<65536) (h:¬a+n<=L):
  CallsIn NF m prog 138 #[.pointer (some (T_ pb 5)),a_ a,b_ n] w λe w'=>e=.returned (.tuple #[.slice none 0 0,.bool false])/\w'=w:=by
 gi_enter func138,ntmps138;gi_wp2;go_ret2;exact⟨by simp,rfl⟩
theorem OJ:
  CallsIn NF m prog 138 #[.pointer (some (T_ pb 5)),a_ a,b_ 0] w λe w'=>e=.returned (.tuple #[.slice none 0 0,.bool true])/\w'=w:=by
 gi_enter func138,ntmps138;gi_wp2;go_ret2;exact⟨rfl,rfl⟩
theorem wrap_u16 (x:Int):IntKind.u16.wrap x=x % 65536:=rfl
end
section
variable (pb ib c L m:Nat) (w:o_)
end
theorem ZI {k:IntKind} {a b:Int} (h:a=b):Ending.returned (.int k a)=.returned (.int k b):=by rw[h]
section
variable (m:Nat) (w:o_)
def Am (n:Nat):Nat:=(n+7) / 8
theorem Ig (n:Nat) (h:n<1000000):CallsIn NF m prog 48 #[b_ n] w λe w'=>e=.returned (b_ (Am n))/\w'=w:=by
 gi_enter func48,ntmps48;gi_wp2;go_ret;refine⟨ZI ?_,rfl⟩;simp[Am];omega
theorem Keep.has {w w':o_} (h:Keep No w w') {p:f_} {u:n_} (hp:w.cell? p=some u):w'.cell? p=some u:=(h.cell (World.block_lt_of_cell? _ _ hp) (λx=>x)).trans hp
def SlI (w:o_) (v:n_) (n:Nat) (f:Nat->Int):Prop:=
 n<100000000/\∃s c,v=.slice s n c/\(0<n->∃b o,s=some (T_ b o)/\∀i,i<n->w.cell? (T_ b (o+i))=some (b_ (f i)))
end
end Go.Fxa
