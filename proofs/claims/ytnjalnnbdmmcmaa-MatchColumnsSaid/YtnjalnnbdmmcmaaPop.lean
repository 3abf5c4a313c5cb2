/- How many bits are set, as math/bits tells it. -/
import Derived.Test.YtnjalnnbdmmcmaaMatP
namespace Go.Proofs.Ytnjalnnbdmmcmaa
open Go.RowKit
def pop1 (s : Int) : Int := IntKind.u64.wrap (bits .and .u64 (s / 2) 6148914691236517205 + bits .and .u64 s 6148914691236517205)
def pop2 (x : Int) : Int := IntKind.u64.wrap (bits .and .u64 (x / 4) 3689348814741910323 + bits .and .u64 x 3689348814741910323)
def pop3 (x : Int) : Int := bits .and .u64 (IntKind.u64.wrap (x / 16 + x)) 1085102592571150095
def pop4 (x : Int) : Int := IntKind.u64.wrap (x + x / 256)
def pop5 (x : Int) : Int := IntKind.u64.wrap (x + x / 65536)
def pop6 (x : Int) : Int := IntKind.u64.wrap (x + x / 4294967296)
def popF (s : Int) : Int := bits .and .i64 (wrap64 (pop6 (pop5 (pop4 (pop3 (pop2 (pop1 s))))))) 127
theorem popF_tab : ∀ a : Fin 64, ∀ b : Fin 64, popF ((a.val * 64 + b.val : Nat) : Int) = ((pcN (a.val * 64 + b.val) : Nat) : Int) := by decide +kernel
theorem popF_all (s : Nat) (h : s < 4096) : popF (s : Int) = ((pcN s : Nat) : Int) := by
  have := popF_tab ⟨s / 64, by omega⟩ ⟨s % 64, by omega⟩
  dsimp only at this
  rwa [Nat.div_add_mod' s 64] at this
end Go.Proofs.Ytnjalnnbdmmcmaa
