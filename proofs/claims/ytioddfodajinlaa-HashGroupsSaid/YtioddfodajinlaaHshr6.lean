/- The reference's table: what Put's stores leave. -/
import Derived.Test.YtioddfodajinlaaHshr1
import Derived.Test.YtioddfodajinlaaHsh7
namespace Go.Proofs.Ytioddfodajinlaa
open Go.RowKit
theorem own_neT {T1 T2 : TypeId} {w : World} {g g' : Nat} {l l' : List Value} (h : Own T1 w g l) (h' : Own T2 w g' l') (hT : T1 ≠ T2) : g ≠ g' := fun e => by
  subst e
  unfold Own at h h'
  rw [h] at h'
  injection h' with h'
  injection h' with _ h3
  exact hT h3
/-- Five stores into a row. -/
def put5at (w : World) (g o : Nat) (v : V5) : World := ((((w.setCell ⟨g, o, none⟩ v.a).setCell ⟨g, o + 1, none⟩ v.b).setCell ⟨g, o + 2, none⟩ v.c).setCell ⟨g, o + 3, none⟩ v.d).setCell ⟨g, o + 4, none⟩ v.e
theorem put5at_only (w : World) (g o : Nat) (v : V5) : Only g w (put5at w g o v) := (((((Only.refl g w).setCell _ _).setCell _ _).setCell _ _).setCell _ _).setCell _ _
section
variable {B T gC gI : Nat} {w w' : World} {vs : List (Option V5)} {ts : List (Option Cel)}
theorem RT.cell5 (h : RT B w T gC gI vs ts) {k : Nat} (hk : k < ts.length) {v : V5} {y : Cel} (hv : OwnC B w v y) :
    Own 64 (put5at w gC (k * 5) v) T [.slice (some ⟨gC, 0, none⟩) ts.length ts.length, .slice (some ⟨gI, 0, none⟩) ts.length ts.length, .int .i64 (cellsT ts).length] ∧
    Own 39 (put5at w gC (k * 5) v) gC (flatC (vs.set k (some v))) ∧ Own 4 (put5at w gC (k * 5) v) gI (isV vs) ∧
    ∀ (i : Nat) u t, (vs.set k (some v))[i]? = some u → (ts.set k (some y))[i]? = some t → SlotO B (put5at w gC (k * 5) v) u t := by
  have ho := put5at_only w gC (k * 5) v
  have hkv : k < vs.length := by rw [h.len]; exact hk
  refine ⟨h.bx.only ho (own_neT h.bx h.cs (by decide)), ?_, h.is.only ho (own_neT h.is h.cs (by decide)), fun i u t hu ht => ?_⟩
  · rw [← flatC_set hkv v]
    exact ((((h.cs.set_ (k * 5) v.a).set_ (k * 5 + 1) v.b).set_ (k * 5 + 2) v.c).set_ (k * 5 + 3) v.d).set_ (k * 5 + 4) v.e
  · have hs : SlotO B w u t := by
      rw [List.getElem?_set] at hu ht
      by_cases e : k = i
      · rw [if_pos e, if_pos (by omega)] at hu
        rw [if_pos e, if_pos (by omega)] at ht
        injection hu with hu
        injection ht with ht
        subst hu ht
        exact hv
      · rw [if_neg e] at hu ht
        exact h.at_ i u t hu ht
    exact hs.stay fun o => o.onlyL ho h.cs (by decide)
/-- An entry is written over. -/
theorem RT.over (h : RT B w T gC gI vs ts) {k : Nat} {x : Cel} (hk : ts[k]? = some (some x)) {v : V5} {y : Cel} (hv : OwnC B w v y) : RT B (put5at w gC (k * 5) v) T gC gI (vs.set k (some v)) (ts.set k (some y)) := by
  have hkl := (List.getElem?_eq_some_iff.1 hk).1
  obtain ⟨h1, h2, h3, h4⟩ := h.cell5 hkl hv
  obtain ⟨a, b, e1, e2⟩ := cellsT_split hk
  obtain ⟨u, hu, hso, -, -⟩ := h.slot hk
  have hlen : (cellsT (ts.set k (some y))).length = (cellsT ts).length := by rw [e1, e2]; simp
  refine ⟨by rw [List.length_set, hlen]; exact h1, h2, ?_, by rw [List.length_set, List.length_set, h.len], h4, h.hT, h.hC, h.hI⟩
  have : isV (vs.set k (some v)) = isV vs := by
    unfold isV
    rw [List.map_set]
    have hus : u.isSome = true := by
      cases u with
      | none => exact hso.elim
      | some _ => rfl
    apply List.ext_getElem?
    intro i
    rw [List.getElem?_set]
    split
    · rename_i e
      subst e
      split
      · rw [List.getElem?_map, hu, Option.map_some, hus]; rfl
      · rename_i hl
        rw [List.getElem?_eq_none (by omega)]
    · rfl
  rw [this]; exact h3
/-- A free slot is taken: its cell, its flag, the count. -/
theorem RT.take (h : RT B w T gC gI vs ts) {k : Nat} (hk : ts[k]? = some none) {v : V5} {y : Cel} (hv : OwnC B w v y) {c : Int} (hc : c = ((cellsT ts).length + 1 : Nat)) :
    RT B (((put5at w gC (k * 5) v).setCell ⟨gI, k, none⟩ (.bool true)).setCell ⟨T, 2, none⟩ (.int .i64 c)) T gC gI (vs.set k (some v)) (ts.set k (some y)) := by
  have hkl := (List.getElem?_eq_some_iff.1 hk).1
  obtain ⟨h1, h2, h3, h4⟩ := h.cell5 hkl hv
  have n1 : T ≠ gC := own_neT h.bx h.cs (by decide)
  have n2 : gC ≠ gI := own_neT h.cs h.is (by decide)
  have n3 : T ≠ gI := own_neT h.bx h.is (by decide)
  have o1 := only_setCell gI (put5at w gC (k * 5) v) k (.bool true)
  have o2 := only_setCell T ((put5at w gC (k * 5) v).setCell ⟨gI, k, none⟩ (.bool true)) 2 (.int .i64 c)
  have hb := h1.only o1 n3
  have hc' := h2.only o1 n2
  have hi := h3.set_ k (.bool true)
  refine ⟨?_, hc'.only o2 (fun e => n1 e.symm), ?_, by rw [List.length_set, List.length_set, h.len], fun i u t hu ht => ?_, h.hT, h.hC, h.hI⟩
  · rw [List.length_set, cells_new_len hk, ← hc]
    exact hb.set_ 2 (.int .i64 c)
  · have : isV (vs.set k (some v)) = (isV vs).set k (.bool true) := by unfold isV; rw [List.map_set]; rfl
    rw [this]
    exact hi.only o2 (fun e => n3 e.symm)
  · exact ((h4 i u t hu ht).stay fun o => o.onlyL o1 h3 (by decide)).stay fun o => o.onlyL o2 hb (by decide)
end
end Go.Proofs.Ytioddfodajinlaa
