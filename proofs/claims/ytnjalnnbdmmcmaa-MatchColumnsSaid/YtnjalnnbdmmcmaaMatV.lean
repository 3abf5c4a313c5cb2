/- Rows of the call's own are written. -/
import Derived.Test.YtnjalnnbdmmcmaaMatW
namespace Go.Proofs.Ytnjalnnbdmmcmaa
open Go.RowKit Go.Shelf
theorem only_own {w : World} {b : Nat} {e : TypeId} {s n g i : Nat} {u v : Value} {xs : List Value} (h : w.ownsRow b e s v n xs) (hne : v.ownBlock ≠ some g) : (w.setCell ⟨g, i, none⟩ u).ownsRow b e s v n xs :=
  own_stay h fun k hk => Below.heap_setCell _ _ _ _ fun e => hne (by rw [hk, e])
/-- One number of one row is written. -/
theorem OM.put {B : Nat} {w : World} {v : Value} {M : List (List Int)} {us : List Value} {i j g c : Nat} {r : List Int} (h : OM B w v M us) (hu : us[i]? = some (.slice (some ⟨g, 0, none⟩) r.length c)) (hr : M[i]? = some r) (y : Int) (hy : inK .i64 y) :
    OM B (w.setCell ⟨g, j, none⟩ (.int .i64 y)) v (M.set i (r.set j y)) us := by
  have hrow := h.row i _ r hu hr
  have hvne : v.ownBlock ≠ some g := fun e => by
    rcases own_apart hrow.1 h.own (by decide) with h1 | h1
    · cases h1
    · exact h1 (by rw [e]; rfl)
  refine ⟨by rw [List.length_set]; exact only_own h.own hvne, fun k u r' hk hr' => ?_, h.ap⟩
  by_cases hik : i = k
  · subst hik
    rw [hu] at hk
    injection hk with hk
    subst hk
    rw [List.getElem?_set_self (List.getElem?_eq_some_iff.1 hr).1] at hr'
    injection hr' with hr'
    subst hr'
    exact hrow.put y hy
  · rw [List.getElem?_set_ne hik] at hr'
    have hrk := h.row k u r' hk hr'
    exact ⟨only_own hrk.1 (fun e => h.ap i k _ u hik hu hk g rfl e), hrk.2⟩
/-- A row: where it lies. -/
theorem OM.at_ {B : Nat} {w : World} {v : Value} {M : List (List Int)} {us : List Value} {i : Nat} {r : List Int} (h : OM B w v M us) (hr : M[i]? = some r) :
    ∃ g c u, v = .slice (some ⟨g, 0, none⟩) M.length c ∧ B ≤ g ∧ g < w.heap.size ∧ us[i]? = some u ∧ w.cell? ⟨g, i, none⟩ = some u ∧ w.frozen? ⟨g, i, none⟩ = false ∧ OI B w u r ∧ u.ownBlock ≠ some g := by
  have hi := (List.getElem?_eq_some_iff.1 hr).1
  obtain ⟨u, hu⟩ : ∃ u, us[i]? = some u := ⟨_, List.getElem?_eq_getElem (by rw [h.len]; exact hi)⟩
  have hrow := h.row i u r hu hr
  obtain ⟨A, c, e1, -, -, h3⟩ := own_form h.own
  obtain ⟨g, e2, hg, hc⟩ := h3 (by omega)
  subst e2
  have hgl := (h.own.lt g (by rw [e1]; rfl)).2
  have hfz : w.frozen? ⟨g, i, none⟩ = false := by
    rcases h.own.2 with ⟨e0, _⟩ | ⟨g', cap, cur, e0, _, hh, _⟩
    · rw [e1] at e0; cases e0
    · rw [e1] at e0
      injection e0 with e0 _ _
      injection e0 with e0
      injection e0 with e0
      subst e0
      simp [World.frozen?, hh]
  refine ⟨g, c, u, e1, hg, hgl, hu, hc i u hu, hfz, hrow, fun e => ?_⟩
  rcases own_apart hrow.1 h.own (by decide) with h4 | h4
  · rw [e] at h4; cases h4
  · exact h4 (by rw [e, e1]; rfl)
theorem set_mem {α : Type} {l : List α} {i : Nat} {x y : α} (h : y ∈ l.set i x) : y ∈ l ∨ y = x := by
  rcases List.mem_or_eq_of_mem_set h with h | h
  · exact .inl h
  · exact .inr h
theorem tmod_nat (i k : Nat) : ((i : Int)).tmod (k : Int) = ((i % k : Nat) : Int) := by
  rw [Int.tmod_eq_emod_of_nonneg (by omega)]
  push_cast
  rfl
end Go.Proofs.Ytnjalnnbdmmcmaa
