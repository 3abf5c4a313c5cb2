/- Sets within sets, as mathematics. -/
import Derived.Test.YtbkcclmhgnplcaaDoorSet
namespace Go.Proofs.YtbkcclmhgnplcaaDoor
open Go.RowKit Go.Shelf
theorem and_fin : ∀ a x : Fin 16, 0 ≤ bits .and .i64 (a.val : Int) (x.val : Int) ∧ bits .and .i64 (a.val : Int) (x.val : Int) ≤ 15 ∧ bits .andNot .i64 (bits .and .i64 (a.val : Int) (x.val : Int)) (a.val : Int) = 0 := by decide +kernel
theorem self_fin : ∀ a : Fin 16, bits .andNot .i64 (a.val : Int) (a.val : Int) = 0 := by decide +kernel
theorem ones_fin : ∀ a : Fin 16, ones (a.val : Int) = ((dimsL (a.val : Int)).length : Int) := by decide +kernel
theorem at_fin : ∀ b : Fin 16, ∀ d ∈ dimsL (b.val : Int), (dimsL (b.val : Int))[(plc (b.val : Int) d).toNat]? = some d := by decide +kernel
theorem sub_fin : ∀ a b : Fin 16, bits .andNot .i64 (b.val : Int) (a.val : Int) = 0 → ∀ d ∈ dimsL (b.val : Int), d ∈ dimsL (a.val : Int) := by decide +kernel
theorem two_fin : ∀ a b c : Fin 16, bits .andNot .i64 (b.val : Int) (a.val : Int) = 0 → bits .andNot .i64 (c.val : Int) (b.val : Int) = 0 → bits .andNot .i64 (c.val : Int) (a.val : Int) = 0 := by decide +kernel
theorem fin_of {a : Int} (h1 : 0 ≤ a) (h2 : a ≤ 15) : ∃ f : Fin 16, a = (f.val : Int) := ⟨⟨a.toNat, by omega⟩, by simp; omega⟩
theorem and_sub (a x : Int) (h1 : 0 ≤ a) (h2 : a ≤ 15) (h3 : 0 ≤ x) (h4 : x ≤ 15) : 0 ≤ bits .and .i64 a x ∧ bits .and .i64 a x ≤ 15 ∧ bits .andNot .i64 (bits .and .i64 a x) a = 0 := by
  obtain ⟨f, rfl⟩ := fin_of h1 h2
  obtain ⟨g, rfl⟩ := fin_of h3 h4
  exact and_fin f g
theorem self_sub (a : Int) (h1 : 0 ≤ a) (h2 : a ≤ 15) : bits .andNot .i64 a a = 0 := by
  obtain ⟨f, rfl⟩ := fin_of h1 h2
  exact self_fin f
theorem two_sub (a b c : Int) (a1 : 0 ≤ a) (a2 : a ≤ 15) (b1 : 0 ≤ b) (b2 : b ≤ 15) (c1 : 0 ≤ c) (c2 : c ≤ 15) (h : bits .andNot .i64 b a = 0) (h' : bits .andNot .i64 c b = 0) : bits .andNot .i64 c a = 0 := by
  obtain ⟨f, rfl⟩ := fin_of a1 a2
  obtain ⟨g, rfl⟩ := fin_of b1 b2
  obtain ⟨k, rfl⟩ := fin_of c1 c2
  exact two_fin f g k h h'
theorem ones_len (a : Int) (h1 : 0 ≤ a) (h2 : a ≤ 15) : ones a = ((dimsL a).length : Int) := by
  obtain ⟨f, rfl⟩ := fin_of h1 h2
  exact ones_fin f
theorem pick_map (b : Int) (h1 : 0 ≤ b) (h2 : b ≤ 15) (f : Int → Int) (d : Int) (hd : d ∈ dimsL b) : pick ((dimsL b).map f) b d = f d := by
  obtain ⟨g, rfl⟩ := fin_of h1 h2
  unfold pick
  rw [List.getElem?_map, at_fin g d hd]
  rfl
theorem narrow_key (a c : Int) (a1 : 0 ≤ a) (a2 : a ≤ 15) (c1 : 0 ≤ c) (c2 : c ≤ 15) (h : bits .andNot .i64 c a = 0) (f : Int → Int) : (dimsL c).map (pick ((dimsL a).map f) a) = (dimsL c).map f := by
  obtain ⟨g, rfl⟩ := fin_of a1 a2
  obtain ⟨k, rfl⟩ := fin_of c1 c2
  exact List.map_congr_left fun d hd => pick_map _ a1 a2 f d (sub_fin g k h d hd)
/-- A row's value in a dimension. -/
def valF (key : List Int) (x : Int) : Int := key[x.toNat]?.getD 0
theorem pk_val (key : List Int) (set : Int) (h1 : 0 ≤ set) (h2 : set ≤ fullB key.length) (h4 : key.length ≤ 4) : pk key set key.length = (dimsL set).map (valF key) := by
  rw [pk_of key set h1 h2 h4]
  unfold ofKey
  refine List.map_congr_left fun x hx => ?_
  obtain ⟨a, b⟩ := dimsL_lt key.length set h1 h2 h4 x hx
  unfold pick valF
  rw [plc_idx key.length x h4 a b]
theorem full_le {d : Nat} (h : d ≤ 4) : fullB d ≤ 15 := by
  rcases (by omega : d = 0 ∨ d = 1 ∨ d = 2 ∨ d = 3 ∨ d = 4) with rfl | rfl | rfl | rfl | rfl <;> decide
theorem sub_le (a c : Int) (a1 : 0 ≤ a) (a2 : a ≤ 15) (c1 : 0 ≤ c) (c2 : c ≤ 15) (h : bits .andNot .i64 c a = 0) : c ≤ a := by
  obtain ⟨f, rfl⟩ := fin_of a1 a2
  obtain ⟨g, rfl⟩ := fin_of c1 c2
  have : ∀ a b : Fin 16, bits .andNot .i64 (b.val : Int) (a.val : Int) = 0 → (b.val : Int) ≤ (a.val : Int) := by decide +kernel
  exact this f g h
end Go.Proofs.YtbkcclmhgnplcaaDoor
