/- The law CellOwn. -/
import Derived.Test.YtioddfodajinlaaMake
import Derived.Test.YtioddfodajinlaaRfacts
namespace Go.Proofs.Ytioddfodajinlaa
open Go.RowKit Go.Shelf
/-- A row of cells of the call's own, whatever they hold. -/
def GRe (B : Nat) (X : World) (v : Value) (us : List V5) : Prop := X.ownsRow B 39 5 v us.length (flatV us) ∧ ∀ u ∈ us, ∃ x, OwnC B X u x
theorem GRs.e {B : Nat} {X : World} {v : Value} {us : List V5} {J : List Cel} (h : GRs B X v us J) : GRe B X v us := ⟨h.1, fun u hu => by
  obtain ⟨i, hi⟩ := List.getElem?_of_mem hu
  have hl := (List.getElem?_eq_some_iff.1 hi).1
  obtain ⟨x, hx⟩ : ∃ x, J[i]? = some x := ⟨_, List.getElem?_eq_getElem (by rw [← h.len]; exact hl)⟩
  exact ⟨x, h.2.2 i u x hi hx⟩⟩
theorem GRe.below {B : Nat} {X Y : World} {v : Value} {us : List V5} (h : GRe B X v us) (hb : Below X.heap.size X Y) : GRe B Y v us := ⟨own_below h.1 hb (Nat.le_refl _), fun u hu => by
  obtain ⟨x, hx⟩ := h.2 u hu
  exact ⟨x, hx.stay fun o => o.below hb⟩⟩
theorem OI.write {B g : Nat} (k : Nat) {W : World} {v : Value} {xs : List Int} {y : Int} (h : OI B W v xs) (hy : inK .i64 y) : ∃ xs', xs'.length = xs.length ∧ OI B (W.setCell ⟨g, k, none⟩ (.int .i64 y)) v xs' := by
  by_cases hne : v.ownBlock = some g
  · rcases h.1.2 with ⟨e, -⟩ | ⟨g', cap, -, e, -⟩
    · rw [e] at hne; cases hne
    · have h' := h
      rw [e] at hne h' ⊢
      injection hne with hne
      subst hne
      exact ⟨xs.set k y, by simp, h'.put y hy⟩
  · exact ⟨xs, rfl, h.other _ hne⟩
theorem OwnC.write {B g : Nat} (k : Nat) {W : World} {u : V5} {x : Cel} {y : Int} (h : OwnC B W u x) (hy : inK .i64 y) : ∃ x', OwnC B (W.setCell ⟨g, k, none⟩ (.int .i64 y)) u x' := by
  obtain ⟨h1, ⟨a, b, c, d⟩, h3⟩ := h
  obtain ⟨a', -, oa⟩ := a.write (g := g) k hy
  obtain ⟨b', -, ob⟩ := b.write (g := g) k hy
  obtain ⟨c', -, oc⟩ := c.write (g := g) k hy
  obtain ⟨d', -, od⟩ := d.write (g := g) k hy
  exact ⟨⟨a', x.cnt, b', c', d'⟩, h1, ⟨oa, ob, oc, od⟩, h3⟩
/-- A number is written into one of the cells' own slices. -/
theorem GRe.write {B g : Nat} (k : Nat) {W : World} {v t : Value} {us : List V5} {ys : List Int} {y : Int} (h : GRe B W v us) (ht : OI B W t ys) (hg : t.ownBlock = some g) (hy : inK .i64 y) : GRe B (W.setCell ⟨g, k, none⟩ (.int .i64 y)) v us :=
  ⟨own_stay h.1 fun j hj => Below.heap_setCell _ _ _ _ (fun e => by
    rcases own_apart ht.1 h.1 (by decide) with h0 | h0
    · rw [h0] at hg; cases hg
    · exact h0 (by rw [hg, hj, e])), fun u hu => by
    obtain ⟨x, hx⟩ := h.2 u hu
    exact hx.write k hy⟩
theorem flatV_cnt : ∀ (us : List V5) (i : Nat) (u : V5) (z : Value), us[i]? = some u → (flatV us).set (i * 5 + 1) z = flatV (us.set i ⟨u.a, z, u.c, u.d, u.e⟩)
  | [], i, u, z, h => by simp at h
  | p :: t, 0, u, z, h => by
    simp only [List.getElem?_cons_zero, Option.some.injEq] at h
    subst h
    simp [flatV, V5.l]
  | p :: t, i + 1, u, z, h => by
    rw [List.set_cons_succ, flatV_cons, flatV_cons, ← flatV_cnt t i u z (by simpa using h), show (i + 1) * 5 + 1 = i * 5 + 1 + 1 + 1 + 1 + 1 + 1 by omega]
    simp only [List.set_cons_succ]
/-- A cell's count is written. -/
theorem GRe.cnt {B g c i : Nat} {W : World} {us : List V5} {u : V5} {y : Int} (h : GRe B W (.slice (some ⟨g, 0, none⟩) us.length c) us) (hu : us[i]? = some u) (hy : inK .i64 y) : GRe B (W.setCell ⟨g, i * 5 + 1, none⟩ (.int .i64 y)) (.slice (some ⟨g, 0, none⟩) us.length c) (us.set i ⟨u.a, .int .i64 y, u.c, u.d, u.e⟩) := by
  have s1 := (h.1.stored (i * 5 + 1) (.int .i64 y)).1
  rw [flatV_cnt us i u _ hu] at s1
  have stay : ∀ {w : Value} {xs : List Int}, OI B W w xs → OI B (W.setCell ⟨g, i * 5 + 1, none⟩ (.int .i64 y)) w xs := fun o => o.farC h.1 rfl
  refine ⟨by rw [List.length_set]; exact s1, fun q hq => ?_⟩
  rcases List.mem_or_eq_of_mem_set hq with h0 | h0
  · obtain ⟨x, hx⟩ := h.2 q h0
    exact ⟨x, hx.stay fun o => stay o⟩
  · obtain ⟨x, -, hx, -⟩ := h.2 u (List.mem_of_getElem? hu)
    subst h0
    exact ⟨⟨x.key, y, x.sum, x.mn, x.mx⟩, rfl, ⟨stay hx.key, stay hx.sum, stay hx.mn, stay hx.mx⟩, hy⟩
theorem GRe.cells {B c N : Nat} {P : Option Addr} {W : World} {us : List V5} (h : GRe B W (.slice P N c) us) : N = us.length ∧ (0 < N → ∃ g, P = some ⟨g, 0, none⟩ ∧ B ≤ g ∧ (∀ j, W.frozen? ⟨g, j, none⟩ = false) ∧ ∀ j u, (flatV us)[j]? = some u → W.cell? ⟨g, j, none⟩ = some u) := by
  have hN : N = us.length := by
    obtain ⟨P', c', e, -⟩ := own_form h.1
    injection e
  refine ⟨hN, fun hp => ?_⟩
  obtain ⟨P', c', e, -, -, hc⟩ := own_form h.1
  obtain ⟨g, rfl, h1, h2⟩ := hc (by omega)
  injection e with e1 _ _
  subst e1
  subst hN
  exact ⟨g, rfl, h1, fun j => World.ownsRow.frozenAt h.1 j, h2⟩
end Go.Proofs.Ytioddfodajinlaa
