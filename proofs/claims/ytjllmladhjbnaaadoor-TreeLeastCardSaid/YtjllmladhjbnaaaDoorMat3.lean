/- Package match's offers: the free columns, rising, each with what it comes to. -/
import Derived.RangeFuncNested
import Derived.RangeFuncBound
import Derived.RangeFuncCalls
import Derived.RangeFuncLeaves
import Derived.RangeFuncBox
import Derived.Shelf.RegionOpen
import Derived.OwnWalkIn
import Derived.TacticsInMore
import Derived.LoopNIn
import Derived.LoopIn
import Derived.Test.YtjllmladhjbnaaaDoorMat2
import Derived.Test.YtjllmladhjbnaaaDoorRegN
namespace Go.Proofs.YtjllmladhjbnaaaDoor
open Go.RowKit Go.Shelf
attribute [local go_sem] Oper.semAt_some
/-- A free column. -/
abbrev Fr (m s : Nat) := { k : Nat // k ∈ free m s }
/-- What column k comes to. -/
def valK (row : List Int) (V : Nat → Int) (k : Nat) : Int := cst row k + V k
theorem free_succ (m s : Nat) : free (m + 1) s = if s.testBit m then free m s else free m s ++ [m] := by
  unfold free
  rw [List.range_succ, List.filter_append, List.filter_cons, List.filter_nil]
  cases s.testBit m <;> simp
theorem free_le (m s : Nat) : (free m s).length ≤ m := by
  unfold free
  exact Nat.le_trans (List.length_filter_le _ _) (by simp)
theorem free_mono {a b s : Nat} (h : a ≤ b) : (free a s).length ≤ (free b s).length := by
  induction h with
  | refl => exact Nat.le_refl _
  | step _ ih =>
    rename_i n h
    rw [free_succ]
    split
    · exact ih
    · rw [List.length_append]; omega
/-- The boxes of offers: what they hold. -/
structure Off (w : World) (b1 b2 b3 G N m s : Nat) (row : List Int) (V : Nat → Int) : Prop where
  row : ∃ R cr, w.cell? ⟨b1, 0, none⟩ = some (.slice R m cr) ∧ Nums .i64 w R m row
  set : w.cell? ⟨b2, 0, none⟩ = some (.int .i64 s)
  rest : w.cell? ⟨b3, 0, none⟩ = some (.slice (some ⟨G, 0, none⟩) N N)
  val : ∀ k ∈ free m s, s ||| 2 ^ k < N ∧ w.cell? ⟨G, s ||| 2 ^ k, none⟩ = some (.int .i64 (V k)) ∧ 0 ≤ V k ∧ V k ≤ 12000000
theorem Off.keep {w w' : World} {b1 b2 b3 G N m s : Nat} {row : List Int} {V : Nat → Int} (h : Off w b1 b2 b3 G N m s row V) (hk : Keeps w w') : Off w' b1 b2 b3 G N m s row V :=
  ⟨by obtain ⟨R, cr, h1, h2⟩ := h.row; exact ⟨R, cr, hk _ _ h1, h2.keep hk⟩, hk _ _ h.set, hk _ _ h.rest, fun k hk' => by obtain ⟨a, b, c⟩ := h.val k hk'; exact ⟨a, hk _ _ b, c⟩⟩
theorem grown_drew (W : World) : W.grownBy W.drew none := ⟨rfl, rfl, rfl, Nat.le_refl _, fun _ _ _ => rfl⟩
end Go.Proofs.YtjllmladhjbnaaaDoor
