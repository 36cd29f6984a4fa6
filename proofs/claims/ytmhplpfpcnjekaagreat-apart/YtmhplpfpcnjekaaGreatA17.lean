/- The processor: words of the im -/
import Derived.Test.YtmhplpfpcnjekaaGreatA16
import Derived.WalkKit
import Derived.BigFrameIn
import Derived.BigGuardIn
namespace Go.Fxa
open Conc Proofs RowKit Proofs.Tryz
set_option maxRecDepth 1000000
set_option maxHeartbeats 0
theorem Ab.Kq {w:World} {b o:Nat} (u:Value):Ab (At b) w (w.setCell (T_ b o) u):=(Ab.refl _ _).setCell _ fun _=>rfl
section
variable (pb ib c L n a m:Nat) (w:World)
theorem DN (h8:w.cell? (T_ pb 8)=some (.slice (some (S_ ib)) L c)) (hn:1<=n) (ha:a<65536) (hL:L<=128) (hc:L<=c) (h:a+n<=L):
  CallsIn NF m prog 138 #[.pointer (some (T_ pb 5)),.int .u16 a,.int .i64 n] w fun e w'=>e=.returned (.tuple #[.slice (some (T_ ib a)) n n,.bool true])/\w'=w:=by
 gi_enter func138,ntmps138;gi_wp2;go_ret2;exact⟨by simp,rfl⟩
theorem F7 (h8:w.cell? (T_ pb 8)=some (.slice (some (S_ ib)) L c)) (hn:1<=n) (hn':n<=128) (ha:a<65536) (h:¬a+n<=L):
  CallsIn NF m prog 138 #[.pointer (some (T_ pb 5)),.int .u16 a,.int .i64 n] w fun e w'=>e=.returned (.tuple #[.slice none 0 0,.bool false])/\w'=w:=by
 gi_enter func138,ntmps138;gi_wp2;go_ret2;exact⟨by simp,rfl⟩
theorem Hq:
  CallsIn NF m prog 138 #[.pointer (some (T_ pb 5)),.int .u16 a,.int .i64 0] w fun e w'=>e=.returned (.tuple #[.slice none 0 0,.bool true])/\w'=w:=by
 gi_enter func138,ntmps138;gi_wp2;go_ret2;exact⟨rfl,rfl⟩
theorem wrap_u16 (x:Int):IntKind.u16.wrap x=x % 65536:=rfl
end
section
variable (pb ib c L m:Nat) (w:World)
end
theorem VK {k:IntKind} {a b:Int} (h:a=b):Ending.returned (.int k a)=.returned (.int k b):=by rw[h]
section
variable (m:Nat) (w:World)
def Ap (n:Nat):Nat:=(n+7) / 8
theorem EH (n:Nat) (h:n<1000000):CallsIn NF m prog 48 #[.int .i64 n] w fun e w'=>e=.returned (.int .i64 (Ap n))/\w'=w:=by
 gi_enter func48,ntmps48;gi_wp2;go_ret;refine⟨VK ?_,rfl⟩;simp[Ap];omega
theorem Ab.has {w w':World} (h:Ab No w w') {p:Addr} {u:Value} (hp:w.cell? p=some u):w'.cell? p=some u:=(h.cell (World.block_lt_of_cell? _ _ hp) (fun x=>x)).trans hp
def sN (w:World) (v:Value) (n:Nat) (f:Nat->Int):Prop:=
 n<100000000/\∃s c,v=.slice s n c/\(0<n->∃b o,s=some (T_ b o)/\∀i,i<n->w.cell? (T_ b (o+i))=some (.int .i64 (f i)))
end
end Go.Fxa
