/- Slices of ints of the call's own. -/
import Derived.Test.YtnjalnnbdmmcmaaOwn
namespace Go.Proofs.Ytnjalnnbdmmcmaa
open Go.RowKit
def ints (xs : List Int) : List Value := xs.map (Value.int .i64)
theorem ints_len (xs : List Int) : (ints xs).length = xs.length := by simp [ints]
def IntsOk (xs : List Int) : Prop := ∀ x ∈ xs, inK .i64 x
theorem infoI : (Try.prog.info? 3).map (fun i => (i.zero, i.size, i.bytes)) = some (some (.int .i64 0), 1, 8) := by kernel_rfl
theorem ints_one (xs : List Int) : ∀ u ∈ ints xs, u.oneCell' = true := by
  intro u hu
  simp only [ints, List.mem_map] at hu
  obtain ⟨x, _, rfl⟩ := hu
  rfl
theorem Nums.cells_i {w : World} {P : Option Addr} {n : Nat} {xs : List Int} (h : Nums .i64 w P n xs) {ad : Addr} (hP : P = some ad) : ∀ j u, (ints xs)[j]? = some u → w.cell? (ad.add j) = some u := by
  intro j u hu
  subst hP
  simp only [ints, List.getElem?_map, Option.map_eq_some_iff] at hu
  obtain ⟨x, hx, rfl⟩ := hu
  have hj : j < n := by rw [← h.1]; exact (List.getElem?_eq_some_iff.1 hx).1
  obtain ⟨ad', e, hc⟩ := h.2.2 (by omega)
  injection e with e
  subst e
  exact hc j x hx
/-- A row of ints of the call's own, from block B on. -/
def OI (B : Nat) (w : World) (v : Value) (xs : List Int) : Prop := w.ownsRow B 3 1 v xs.length (ints xs) ∧ IntsOk xs
section
variable {B B' : Nat} {w w' : World} {v : Value} {xs : List Int}
theorem OI.mono (h : OI B w v xs) (hb : B' ≤ B) : OI B' w v xs := ⟨own_mono h.1 hb, h.2⟩
theorem OI.below (h : OI B w v xs) (hb : Below w.heap.size w w') : OI B w' v xs := ⟨own_below h.1 hb (Nat.le_refl _), h.2⟩
theorem OI.nil (B : Nat) (w : World) : OI B w (.slice none 0 0) [] := ⟨World.ownsRow_nil _ _ _ _, fun x h => by cases h⟩
theorem OI.form (h : OI B w v xs) : ∃ P c, v = .slice P xs.length c ∧ xs.length ≤ c ∧ c ≤ maxLen ∧ Nums .i64 w P xs.length xs ∧ (P = none → c = 0) := by
  obtain ⟨P, c, hv, h1, h2, h3⟩ := own_form h.1
  refine ⟨P, c, hv, h1, h2, ⟨rfl, h.2, fun hn => ?_⟩, fun e => ?_⟩
  · obtain ⟨g, rfl, _, hc⟩ := h3 hn
    exact ⟨_, rfl, fun j x hx => by rw [add0]; exact hc j _ (by simp [ints, hx])⟩
  · rcases own_form0 h.1 with ⟨e1, _⟩ | ⟨g, c', e1, _⟩
    · rw [hv] at e1; injection e1
    · rw [hv, e] at e1; injection e1 with e1 _ _; cases e1
end
end Go.Proofs.Ytnjalnnbdmmcmaa
