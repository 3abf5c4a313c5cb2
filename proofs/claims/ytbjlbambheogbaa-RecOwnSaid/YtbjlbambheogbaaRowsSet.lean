/- One number of one row is written: the list reads as before but for it. -/
import Derived.Test.YtbjlbambheogbaaRowsX
namespace Go.Proofs.Ytbjlbambheogbaa
open Go.RowKit
theorem blks_apart : ∀ {vs : List (Value × Value)} {i j : Nat} {p q : Value × Value} {g : Nat}, (blks vs).Nodup → vs[i]? = some p → vs[j]? = some q → i ≠ j → g ∈ blk p.1 ++ blk p.2 → g ∈ blk q.1 ++ blk q.2 → False
  | [], _, _, _, _, _, _, h, _, _, _, _ => by simp at h
  | r :: t, i, j, p, q, g, hn, hi, hj, hne, hg1, hg2 => by
    have e : blks (r :: t) = (blk r.1 ++ blk r.2) ++ blks t := by simp [blks]
    rw [e, List.nodup_append] at hn
    obtain ⟨_, hn2, hn3⟩ := hn
    have mem : ∀ {k : Nat} {p : Value × Value}, t[k]? = some p → g ∈ blk p.1 ++ blk p.2 → g ∈ blks t := fun hk hg => by
      simp only [blks, List.mem_flatMap]
      exact ⟨_, List.mem_of_getElem? hk, hg⟩
    match i, j with
    | 0, 0 => exact hne rfl
    | 0, j + 1 =>
      simp only [List.getElem?_cons_zero, Option.some.injEq, List.getElem?_cons_succ] at hi hj
      subst hi
      exact hn3 g hg1 g (mem hj hg2) rfl
    | i + 1, 0 =>
      simp only [List.getElem?_cons_zero, Option.some.injEq, List.getElem?_cons_succ] at hi hj
      subst hj
      exact hn3 g hg2 g (mem hi hg1) rfl
    | i + 1, j + 1 =>
      simp only [List.getElem?_cons_succ] at hi hj
      exact blks_apart hn2 hi hj (by omega) hg1 hg2
theorem blks_own : ∀ {vs : List (Value × Value)} {i : Nat} {p : Value × Value} {g : Nat}, (blks vs).Nodup → vs[i]? = some p → g ∈ blk p.1 → g ∈ blk p.2 → False
  | [], _, _, _, _, h, _, _ => by simp at h
  | r :: t, i, p, g, hn, hi, h1, h2 => by
    have e : blks (r :: t) = (blk r.1 ++ blk r.2) ++ blks t := by simp [blks]
    rw [e, List.nodup_append] at hn
    obtain ⟨hn1, hn2, _⟩ := hn
    match i with
    | 0 =>
      simp only [List.getElem?_cons_zero, Option.some.injEq] at hi
      subst hi
      rw [List.nodup_append] at hn1
      exact hn1.2.2 g h1 g h2 rfl
    | i + 1 =>
      simp only [List.getElem?_cons_succ] at hi
      exact blks_own hn2 hi h1 h2
theorem setCell_grown (w : World) (g j : Nat) (u : Value) : w.grownBy (w.setCell ⟨g, j, none⟩ u) (some g) :=
  ⟨rfl, rfl, rfl, by simp [World.setCell], fun k _ hk => Below.heap_setCell _ _ _ _ (fun e => hk (by simp [e]))⟩
theorem own_far {w : World} {b : Nat} {e : TypeId} {s n g : Nat} {v : Value} {xs : List Value} (h : w.ownsRow b e s v n xs) (hg : ¬ g ∈ blk v) (j : Nat) (u : Value) : (w.setCell ⟨g, j, none⟩ u).ownsRow b e s v n xs :=
  h.kept (setCell_grown w g j u) (by
    cases hv : v.ownBlock with
    | none => exact .inl rfl
    | some k => exact .inr fun e => hg (by simp [blk, hv, Option.some.inj e]))
theorem RowsX.at_ {w : World} {B : Nat} {v : Value} {l : List Fact} (h : RowsX w B v l) {i : Nat} {r : Fact} (hr : l[i]? = some r) :
    ∃ gl c kv mv, v = .slice (some ⟨gl, 0, none⟩) l.length c ∧ B ≤ gl ∧ w.cell? ⟨gl, i * 2, none⟩ = some kv ∧ w.cell? ⟨gl, i * 2 + 1, none⟩ = some mv ∧ w.ownsRow B 3 1 kv r.key.length (ints r.key) ∧ w.ownsRow B 3 1 mv r.m.length (ints r.m) := by
  obtain ⟨vs, h1, h2, h3, h4⟩ := h
  have hil : i < l.length := (List.getElem?_eq_some_iff.1 hr).1
  obtain ⟨A, c, hv, _, _, hg⟩ := own_form h2
  obtain ⟨gl, rfl, hb, hcell⟩ := hg (by omega)
  have hp : vs[i]? = some (vs[i]'(by rw [h1]; exact hil)) := List.getElem?_eq_getElem _
  obtain ⟨c1, c2⟩ := cellsV_at hp
  obtain ⟨a1, a2⟩ := h3 i _ r hp hr
  exact ⟨gl, c, _, _, hv, hb, hcell _ _ c1, hcell _ _ c2, a1, a2⟩
theorem RowsX.set_m {w : World} {B : Nat} {v : Value} {l : List Fact} (h : RowsX w B v l) {i j : Nat} {r : Fact} (hr : l[i]? = some r) (hj : j < r.m.length) (x : Int) :
    ∃ gl c g d, v = .slice (some ⟨gl, 0, none⟩) l.length c ∧ w.cell? ⟨gl, i * 2 + 1, none⟩ = some (.slice (some ⟨g, 0, none⟩) r.m.length d) ∧ w.frozen? ⟨g, j, none⟩ = false ∧ (∃ y, w.cell? ⟨g, j, none⟩ = some (.int .i64 y)) ∧ B ≤ g ∧
      RowsX (w.setCell ⟨g, j, none⟩ (.int .i64 x)) B v (l.set i ⟨r.key, r.m.set j x⟩) := by
  obtain ⟨vs, h1, h2, h3, h4⟩ := h
  have hil : i < l.length := (List.getElem?_eq_some_iff.1 hr).1
  obtain ⟨A, c, hv, _, _, hg⟩ := own_form h2
  obtain ⟨gl, rfl, hb, hcell⟩ := hg (by omega)
  have hp : vs[i]? = some (vs[i]'(by rw [h1]; exact hil)) := List.getElem?_eq_getElem _
  obtain ⟨c1, c2⟩ := cellsV_at hp
  obtain ⟨a1, a2⟩ := h3 i _ r hp hr
  generalize vs[i]'(by rw [h1]; exact hil) = p at hp c1 c2 a1 a2
  obtain ⟨kv, mv⟩ := p
  obtain ⟨A2, d, hmv, _, _, hg2⟩ := own_form a2
  obtain ⟨g, rfl, hgB, hgc⟩ := hg2 (by omega)
  simp only at hmv
  subst hmv
  have hgm : g ∈ blk (.slice (some ⟨g, 0, none⟩) r.m.length d) := by simp [blk, Value.ownBlock]
  refine ⟨gl, c, g, d, hv, hcell _ _ c2, World.ownsRow.frozenAt a2 j, ⟨_, hgc j (.int .i64 r.m[j]) (by simp [ints, hj])⟩, hgB, vs, by simp [h1], ?_, ?_, h4⟩
  · rw [List.length_set]
    exact h2.kept (setCell_grown w g j _) (own_apart h2 a2 (by decide))
  · intro k p' r' hp' hr'
    by_cases hk : k = i
    · subst hk
      rw [hp] at hp'
      injection hp' with hp'
      subst hp'
      rw [List.getElem?_set_self hil] at hr'
      injection hr' with hr'
      subst hr'
      refine ⟨own_far a1 (fun hx => blks_own h4 hp hx hgm) j _, ?_⟩
      have := (a2.stored j (.int .i64 x)).1
      simpa [ints, List.map_set] using this
    · rw [List.getElem?_set_ne (by omega)] at hr'
      obtain ⟨b1, b2⟩ := h3 k p' r' hp' hr'
      exact ⟨own_far b1 (fun hx => blks_apart h4 hp hp' (by omega) (List.mem_append_right _ hgm) (List.mem_append_left _ hx)) j _,
        own_far b2 (fun hx => blks_apart h4 hp hp' (by omega) (List.mem_append_right _ hgm) (List.mem_append_right _ hx)) j _⟩
theorem RowsX.set_key {w : World} {B : Nat} {v : Value} {l : List Fact} (h : RowsX w B v l) {i j : Nat} {r : Fact} (hr : l[i]? = some r) (hj : j < r.key.length) (x : Int) :
    ∃ gl c g d, v = .slice (some ⟨gl, 0, none⟩) l.length c ∧ w.cell? ⟨gl, i * 2, none⟩ = some (.slice (some ⟨g, 0, none⟩) r.key.length d) ∧ w.frozen? ⟨g, j, none⟩ = false ∧ (∃ y, w.cell? ⟨g, j, none⟩ = some (.int .i64 y)) ∧ B ≤ g ∧
      RowsX (w.setCell ⟨g, j, none⟩ (.int .i64 x)) B v (l.set i ⟨r.key.set j x, r.m⟩) := by
  obtain ⟨vs, h1, h2, h3, h4⟩ := h
  have hil : i < l.length := (List.getElem?_eq_some_iff.1 hr).1
  obtain ⟨A, c, hv, _, _, hg⟩ := own_form h2
  obtain ⟨gl, rfl, hb, hcell⟩ := hg (by omega)
  have hp : vs[i]? = some (vs[i]'(by rw [h1]; exact hil)) := List.getElem?_eq_getElem _
  obtain ⟨c1, c2⟩ := cellsV_at hp
  obtain ⟨a1, a2⟩ := h3 i _ r hp hr
  generalize vs[i]'(by rw [h1]; exact hil) = p at hp c1 c2 a1 a2
  obtain ⟨kv, mv⟩ := p
  obtain ⟨A2, d, hmv, _, _, hg2⟩ := own_form a1
  obtain ⟨g, rfl, hgB, hgc⟩ := hg2 (by omega)
  simp only at hmv
  subst hmv
  have hgm : g ∈ blk (.slice (some ⟨g, 0, none⟩) r.key.length d) := by simp [blk, Value.ownBlock]
  refine ⟨gl, c, g, d, hv, hcell _ _ c1, World.ownsRow.frozenAt a1 j, ⟨_, hgc j (.int .i64 r.key[j]) (by simp [ints, hj])⟩, hgB, vs, by simp [h1], ?_, ?_, h4⟩
  · rw [List.length_set]
    exact h2.kept (setCell_grown w g j _) (own_apart h2 a1 (by decide))
  · intro k p' r' hp' hr'
    by_cases hk : k = i
    · subst hk
      rw [hp] at hp'
      injection hp' with hp'
      subst hp'
      rw [List.getElem?_set_self hil] at hr'
      injection hr' with hr'
      subst hr'
      refine ⟨?_, own_far a2 (fun hx => blks_own h4 hp hgm hx) j _⟩
      have := (a1.stored j (.int .i64 x)).1
      simpa [ints, List.map_set] using this
    · rw [List.getElem?_set_ne (by omega)] at hr'
      obtain ⟨b1, b2⟩ := h3 k p' r' hp' hr'
      exact ⟨own_far b1 (fun hx => blks_apart h4 hp hp' (by omega) (List.mem_append_left _ hgm) (List.mem_append_left _ hx)) j _,
        own_far b2 (fun hx => blks_apart h4 hp hp' (by omega) (List.mem_append_left _ hgm) (List.mem_append_right _ hx)) j _⟩
end Go.Proofs.Ytbjlbambheogbaa
