/- Plans by hashing of as many rows as there may be cells, or more. -/
import Derived.Test.YtjllmladhjbnaaaDoorTreP
import Derived.Test.YtjllmladhjbnaaaDoorRlat
namespace Go.Proofs.YtjllmladhjbnaaaDoor
open Go.RowKit
/-- The product of the first cards. -/
def prodTo (cs : List Int) : Nat → Int
  | 0 => 1
  | i + 1 => prodTo cs i * cs.getD i 0
theorem prodTo_bd {cs : List Int} (hc : ∀ x ∈ cs, 1 ≤ x ∧ x ≤ 16) : ∀ i, i ≤ cs.length → 1 ≤ prodTo cs i ∧ prodTo cs i ≤ 16 ^ i
  | 0, _ => ⟨Int.le_refl 1, Int.le_refl 1⟩
  | i + 1, h => by
    obtain ⟨a, b⟩ := prodTo_bd hc i (by omega)
    obtain ⟨c, d⟩ := getD_in hc (i := i) (by omega)
    have p := Int.mul_le_mul a c (by omega) (by omega)
    have q := Int.mul_le_mul b d (by omega) (by have : (0 : Int) ≤ 16 ^ i := Int.pow_nonneg (by omega); exact this)
    unfold prodTo
    rw [Int.pow_succ]
    exact ⟨by simpa using p, q⟩
theorem keysTo_le {cs : List Int} (hc : ∀ x ∈ cs, 1 ≤ x ∧ x ≤ 16) (s : Int) : ∀ i, i ≤ cs.length → keysTo cs s i ≤ prodTo cs i
  | 0, _ => Int.le_refl 1
  | i + 1, h => by
    have ih := keysTo_le hc s i (by omega)
    obtain ⟨c, d⟩ := getD_in hc (i := i) (by omega)
    have a := (prodTo_bd hc i (by omega)).1
    unfold keysTo prodTo
    split
    · exact Int.mul_le_mul_of_nonneg_right ih (by omega)
    · have := Int.mul_le_mul_of_nonneg_left c (show (0 : Int) ≤ prodTo cs i by omega)
      rw [Int.mul_one] at this
      omega
theorem size_same {cs : List Int} (hc : ∀ x ∈ cs, 1 ≤ x ∧ x ≤ 16) (h4 : cs.length ≤ 4) {n m k : Int} (hn : prodTo cs cs.length ≤ n) (hm : prodTo cs cs.length ≤ m) (h1 : 0 ≤ k) (h2 : k ≤ fullB cs.length) : sizeB cs n k = sizeB cs m k := by
  have a := keysTo_le hc k cs.length (Nat.le_refl _)
  rw [keysTo_all cs k h1 h2 h4] at a
  unfold sizeB
  omega
theorem cheapL_congr {f g : Int → Int} : ∀ {l : List Int}, (∀ x ∈ l, f x = g x) → cheapL f l = cheapL g l := by
  intro l
  induction l using snoc_ind with
  | h0 => intro _; rfl
  | h1 l x ih =>
    intro h
    by_cases hl : l = []
    · subst hl; rfl
    · have e := ih fun y hy => h y (List.mem_append_left _ hy)
      rw [cheapL_snoc f l x hl, cheapL_snoc g l x hl, e, h x (by simp), h (cheapL g l) (List.mem_append_left _ (cheapL_spec g l hl).1)]
theorem tree_same {cs : List Int} {n m : Int} (d1 : 1 ≤ cs.length) (d4 : cs.length ≤ 4) (h : ∀ k, 0 ≤ k → k ≤ fullB cs.length → sizeB cs n k = sizeB cs m k) : treeM cs n = treeM cs m := by
  unfold treeM
  apply List.map_congr_left
  intro s hs
  unfold treeE
  have : leastP (sizeB cs n) (parL s cs.length) = leastP (sizeB cs m) (parL s cs.length) := by
    unfold leastP
    split
    · rfl
    · exact cheapL_congr fun x hx => by
        have := sets_bd _ d1 d4 x (par_lvl _ d1 d4 s hs x hx).2
        exact h x this.1 this.2
  rw [this]
theorem tree_many {cs : List Int} {n m : Int} (d1 : 1 ≤ cs.length) (d4 : cs.length ≤ 4) (hc : ∀ x ∈ cs, 1 ≤ x ∧ x ≤ 16) (hn : prodTo cs cs.length ≤ n) (hm : prodTo cs cs.length ≤ m) : treeM cs n = treeM cs m :=
  tree_same d1 d4 fun _ a b => size_same hc d4 hn hm a b
end Go.Proofs.YtjllmladhjbnaaaDoor
