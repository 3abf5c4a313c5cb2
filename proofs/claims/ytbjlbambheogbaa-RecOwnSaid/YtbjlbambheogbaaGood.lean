/- Rows that may be, said plainly; what a write of one number leaves. -/
import Derived.Test.YtbjlbambheogbaaFactsLaw
import Derived.Test.YtbjlbambheogbaaRowsSet
namespace Go.Proofs.Ytbjlbambheogbaa
open Go.RowKit
/-- Rows that may be, of small numbers. -/
structure Good (cs : List Int) (mm : Nat) (l : List Fact) : Prop where
  right : allRightB cs (mm : Int) l = true
  small : ∀ r ∈ l, (∀ x ∈ r.key, inK .i64 x) ∧ ∀ x ∈ r.m, inK .i64 x
theorem Good.set_m {cs : List Int} {mm i j : Nat} {l : List Fact} {r : Fact} {x : Int} (h : Good cs mm l) (hr : l[i]? = some r) (hx : inK .i64 x) : Good cs mm (l.set i ⟨r.key, r.m.set j x⟩) := by
  obtain ⟨h1, h2⟩ := allRightB_spec h.right
  have hm := List.mem_of_getElem? hr
  refine ⟨allRightB_yes h1 fun y hy => ?_, fun y hy => ?_⟩
  · rcases List.mem_or_eq_of_mem_set hy with hy | rfl
    · exact h2 y hy
    · have := h2 r hm
      simpa [rightB] using this
  · rcases List.mem_or_eq_of_mem_set hy with hy | rfl
    · exact h.small y hy
    · refine ⟨(h.small r hm).1, fun z hz => ?_⟩
      rcases List.mem_or_eq_of_mem_set hz with hz | rfl
      · exact (h.small r hm).2 z hz
      · exact hx
theorem Good.lens {cs : List Int} {mm : Nat} {l : List Fact} (h : Good cs mm l) : cs.length ≤ 4 ∧ mm ≤ 2 ∧ ∀ r ∈ l, r.key.length ≤ 4 ∧ r.m.length ≤ 2 := by
  obtain ⟨h1, h2⟩ := allRightB_spec h.right
  obtain ⟨k1, k2, k3, k4, k5⟩ := checkB_spec h1
  refine ⟨k2, by omega, fun r hr => ?_⟩
  have a := keysB_len (rightB_key (h2 r hr))
  have b := rightB_m (h2 r hr)
  omega
theorem Good.set_key {cs : List Int} {mm i : Nat} {l : List Fact} {r : Fact} {x c : Int} (h : Good cs mm l) (hr : l[i]? = some r) (hc : cs[0]? = some c) (hx : 0 ≤ x ∧ x < c) : Good cs mm (l.set i ⟨r.key.set 0 x, r.m⟩) := by
  obtain ⟨h1, h2⟩ := allRightB_spec h.right
  have hm := List.mem_of_getElem? hr
  have hk := h2 r hm
  have k5 := (checkB_spec h1).2.2.2.2 c (List.mem_of_getElem? hc)
  refine ⟨allRightB_yes h1 fun y hy => ?_, fun y hy => ?_⟩
  · rcases List.mem_or_eq_of_mem_set hy with hy | rfl
    · exact h2 y hy
    · refine rightB_yes ?_ (show (r.m.length : Int) = mm from rightB_m hk) fun k c' v hkl hc' hv => ?_
      · simp only [List.length_set]; exact keysB_len (rightB_key hk)
      · by_cases h0 : k = 0
        · subst h0
          rw [hc] at hc'
          injection hc' with hc'
          subst hc'
          simp only at hv hkl
          rw [List.getElem?_set_self (by simpa using hkl)] at hv
          injection hv with hv
          subst hv
          exact hx
        · simp only at hv
          rw [List.getElem?_set_ne (by omega)] at hv
          exact keysB_at (rightB_key hk) hc' hv
  · rcases List.mem_or_eq_of_mem_set hy with hy | rfl
    · exact h.small y hy
    · refine ⟨fun z hz => ?_, (h.small r hm).2⟩
      rcases List.mem_or_eq_of_mem_set hz with hz | rfl
      · exact (h.small r hm).1 z hz
      · simp only [inK]; omega
theorem FR.good {dims : Int} {cards : List Int} {me : Int} {ns : List Int} {w w' : World} {A : Option Addr} {c : Nat} {D : Option Addr} {d C q mm m : Nat} {cs : List Int} {l : List Fact} (h : FR dims cards me ns w w' A c D d C q mm m cs l) : Good cs mm l := ⟨h.right, h.small⟩
end Go.Proofs.Ytbjlbambheogbaa
