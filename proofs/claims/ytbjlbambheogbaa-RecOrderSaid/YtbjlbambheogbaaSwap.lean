/- Two rows of a list of the call's own change places. -/
import Derived.Test.YtbjlbambheogbaaRowsSet
import Derived.Test.YtbjlbambheogbaaPerm
namespace Go.Proofs.Ytbjlbambheogbaa
open Go.RowKit
theorem cellsV_set : ∀ (vs : List (Value × Value)) (a : Nat) (p : Value × Value), a < vs.length → ((cellsV vs).set (a * 2) p.1).set (a * 2 + 1) p.2 = cellsV (vs.set a p)
  | [], a, _, h => by simp at h
  | q :: t, 0, p, _ => by simp [cellsV]
  | q :: t, a + 1, p, h => by
    have e : ∀ (r : Value × Value) (s : List (Value × Value)), cellsV (r :: s) = r.1 :: r.2 :: cellsV s := fun r s => by simp [cellsV]
    rw [List.set_cons_succ, e, e, show (a + 1) * 2 = a * 2 + 1 + 1 from by omega, List.set_cons_succ, List.set_cons_succ, List.set_cons_succ, List.set_cons_succ, cellsV_set t a p (by simpa using h)]
theorem RowsW.swap {w : World} {Bl Br g n c a b : Nat} {l : List Fact} {x y : Fact} (h : RowsW w Bl Br (.slice (some ⟨g, 0, none⟩) n c) l) (hn : l.length = n) (ha : l[a]? = some x) (hb : l[b]? = some y) :
    ∃ ka ma kb mb, (w.cell? ⟨g, a * 2, none⟩ = some ka ∧ w.cell? ⟨g, a * 2 + 1, none⟩ = some ma) ∧ (w.cell? ⟨g, b * 2, none⟩ = some kb ∧ w.cell? ⟨g, b * 2 + 1, none⟩ = some mb) ∧ (∀ j, w.frozen? ⟨g, j, none⟩ = false) ∧ Bl ≤ g ∧
      ((∃ A d, ka = .slice A x.key.length d) ∧ (∃ A d, ma = .slice A x.m.length d) ∧ (∃ A d, kb = .slice A y.key.length d) ∧ (∃ A d, mb = .slice A y.m.length d)) ∧
      ((∃ u, ((w.setCell ⟨g, a * 2, none⟩ kb).setCell ⟨g, a * 2 + 1, none⟩ mb).cell? ⟨g, b * 2, none⟩ = some u) ∧ ∃ u, ((w.setCell ⟨g, a * 2, none⟩ kb).setCell ⟨g, a * 2 + 1, none⟩ mb).cell? ⟨g, b * 2 + 1, none⟩ = some u) ∧
      RowsW ((((w.setCell ⟨g, a * 2, none⟩ kb).setCell ⟨g, a * 2 + 1, none⟩ mb).setCell ⟨g, b * 2, none⟩ ka).setCell ⟨g, b * 2 + 1, none⟩ ma) Bl Br (.slice (some ⟨g, 0, none⟩) n c) (swapL l a b x y) := by
  obtain ⟨vs, h1, h2, h3⟩ := h
  have hal : a < l.length := (List.getElem?_eq_some_iff.1 ha).1
  have hbl : b < l.length := (List.getElem?_eq_some_iff.1 hb).1
  obtain ⟨p, hp⟩ : ∃ p, vs[a]? = some p := ⟨_, List.getElem?_eq_getElem (by rw [h1]; exact hal)⟩
  obtain ⟨q, hq⟩ : ∃ q, vs[b]? = some q := ⟨_, List.getElem?_eq_getElem (by rw [h1]; exact hbl)⟩
  obtain ⟨c1, c2⟩ := cellsV_at hp
  obtain ⟨d1, d2⟩ := cellsV_at hq
  obtain ⟨p1, p2⟩ := h3 a p x hp ha
  obtain ⟨q1, q2⟩ := h3 b q y hq hb
  rw [hn] at h2
  have cell : ∀ (j : Nat) (u : Value), (cellsV vs)[j]? = some u → w.cell? ⟨g, j, none⟩ = some u := fun j u hu => by
    have hj : j < n * 2 := by
      have := (List.getElem?_eq_some_iff.1 hu).1
      rw [cellsV_len, h1, hn] at this
      exact this
    rw [World.ownsRow.cellAt h2 j hj, hu]
  obtain ⟨A0, c0, e0, _, _, hg⟩ := own_form h2
  obtain ⟨g', e1, hB, _⟩ := hg (by omega)
  injection e0 with e0
  rw [← e0] at e1
  injection e1 with e1
  injection e1 with e1
  have s1 := (h2.stored (a * 2) q.1).1
  have s2 := (s1.stored (a * 2 + 1) q.2).1
  rw [cellsV_set vs a q (by omega)] at s2
  have s3 := (s2.stored (b * 2) p.1).1
  have s4 := (s3.stored (b * 2 + 1) p.2).1
  rw [cellsV_set _ b p (by rw [List.length_set]; omega)] at s4
  refine ⟨p.1, p.2, q.1, q.2, ⟨cell _ _ c1, cell _ _ c2⟩, ⟨cell _ _ d1, cell _ _ d2⟩, fun j => World.ownsRow.frozenAt h2 j, by omega, ⟨?_, ?_, ?_, ?_⟩, ⟨⟨_, (World.ownsRow.cellAt s2 (b * 2) (by omega)).trans (List.getElem?_eq_getElem (by rw [cellsV_len, List.length_set]; omega))⟩, ⟨_, (World.ownsRow.cellAt s2 (b * 2 + 1) (by omega)).trans (List.getElem?_eq_getElem (by rw [cellsV_len, List.length_set]; omega))⟩⟩, (vs.set a q).set b p, by simp [swapL, h1], by rw [swapL_len, hn]; exact s4, ?_⟩
  · obtain ⟨A1, d1, e, _⟩ := own_form p1; exact ⟨A1, d1, e⟩
  · obtain ⟨A1, d1, e, _⟩ := own_form p2; exact ⟨A1, d1, e⟩
  · obtain ⟨A1, d1, e, _⟩ := own_form q1; exact ⟨A1, d1, e⟩
  · obtain ⟨A1, d1, e, _⟩ := own_form q2; exact ⟨A1, d1, e⟩
  · have far : ∀ {u : Value} {k : Nat} {xs : List Value}, w.ownsRow Br 3 1 u k xs → ¬ g ∈ blk u := fun hu hgu => by
      rcases own_apart hu h2 (by decide) with h | h
      · simp [blk, h] at hgu
      · simp [blk, Value.ownBlock] at hgu h
        exact h hgu
    have keep : ∀ {u : Value} {k : Nat} {xs : List Value}, w.ownsRow Br 3 1 u k xs → ((((w.setCell ⟨g, a * 2, none⟩ q.1).setCell ⟨g, a * 2 + 1, none⟩ q.2).setCell ⟨g, b * 2, none⟩ p.1).setCell ⟨g, b * 2 + 1, none⟩ p.2).ownsRow Br 3 1 u k xs := fun hu =>
      own_far (own_far (own_far (own_far hu (far hu) _ _) (far hu) _ _) (far hu) _ _) (far hu) _ _
    intro i r f hi hf
    by_cases hib : i = b
    · subst hib
      rw [List.getElem?_set_self (by rw [List.length_set]; omega)] at hi
      rw [swapL, List.getElem?_set_self (by rw [List.length_set]; omega)] at hf
      injection hi with hi
      injection hf with hf
      subst hi hf
      exact ⟨keep p1, keep p2⟩
    · rw [List.getElem?_set_ne (by omega)] at hi
      rw [swapL, List.getElem?_set_ne (by omega)] at hf
      by_cases hia : i = a
      · subst hia
        rw [List.getElem?_set_self (by omega)] at hi
        rw [List.getElem?_set_self (by omega)] at hf
        injection hi with hi
        injection hf with hf
        subst hi hf
        exact ⟨keep q1, keep q2⟩
      · rw [List.getElem?_set_ne (by omega)] at hi
        rw [List.getElem?_set_ne (by omega)] at hf
        exact ⟨keep (h3 i r f hi hf).1, keep (h3 i r f hi hf).2⟩
end Go.Proofs.Ytbjlbambheogbaa
