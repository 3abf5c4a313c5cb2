/- Package cell: a copy of a row of cells. -/
import Derived.Test.YtmolfcccfekcpaaCel5
namespace Go.Proofs.Ytmolfcccfekcpaa
open Go.RowKit
theorem infoC : (Try.prog.info? 44).map (fun i => (i.zero, i.size, i.bytes)) = some (some (.agg #[.slice none 0 0, .int .i64 0, .slice none 0 0, .slice none 0 0, .slice none 0 0]), 5, 104) := by kernel_rfl
/-- Five values. -/
structure V5 where
  a : Value
  b : Value
  c : Value
  d : Value
  e : Value
def V5.l (v : V5) : List Value := [v.a, v.b, v.c, v.d, v.e]
def flatV (vs : List V5) : List Value := vs.flatMap V5.l
theorem flatV_len (vs : List V5) : (flatV vs).length = vs.length * 5 := by
  induction vs with
  | nil => rfl
  | cons v t ih => simp [flatV, V5.l] at ih ⊢; omega
theorem flatV_at : ∀ {vs : List V5} {i : Nat} {v : V5}, vs[i]? = some v → (flatV vs)[i * 5]? = some v.a ∧ (flatV vs)[i * 5 + 1]? = some v.b ∧ (flatV vs)[i * 5 + 2]? = some v.c ∧ (flatV vs)[i * 5 + 3]? = some v.d ∧ (flatV vs)[i * 5 + 4]? = some v.e
  | v :: t, 0, _, h => by
    simp only [List.getElem?_cons_zero, Option.some.injEq] at h
    subst h
    simp [flatV, V5.l]
  | v :: t, i + 1, u, h => by
    have ih := flatV_at (vs := t) (i := i) (v := u) (by simpa using h)
    have e : flatV (v :: t) = v.a :: v.b :: v.c :: v.d :: v.e :: flatV t := by simp [flatV, V5.l]
    rw [e, show (i + 1) * 5 = i * 5 + 5 by omega]
    simpa using ih
/-- What five values are told to be. -/
def Reads (w : World) (v : V5) (x : Cel) : Prop := v.b = .int .i64 x.cnt ∧ CR w v.a v.c v.d v.e x ∧ inK .i64 x.cnt
theorem Reads.keep {w w' : World} {v : V5} {x : Cel} (h : Reads w v x) (hk : Keeps w w') : Reads w' v x := ⟨h.1, h.2.1.keep hk, h.2.2⟩
def ReadsL (w : World) (vs : List V5) (l : List Cel) : Prop := vs.length = l.length ∧ ∀ (i : Nat) (v : V5) (x : Cel), vs[i]? = some v → l[i]? = some x → Reads w v x
theorem ReadsL.keep {w w' : World} {vs : List V5} {l : List Cel} (h : ReadsL w vs l) (hk : Keeps w w') : ReadsL w' vs l := ⟨h.1, fun i v x hv hx => (h.2 i v x hv hx).keep hk⟩
theorem oneCell_ri {w : World} {v : Value} {xs : List Int} (h : RI w v xs) : v.oneCell' = true := by
  obtain ⟨P, c, rfl, _⟩ := h
  rfl
theorem Reads.one {w : World} {v : V5} {x : Cel} (h : Reads w v x) : ∀ u ∈ v.l, u.oneCell' = true := by
  intro u hu
  obtain ⟨h1, h2, _⟩ := h
  simp only [V5.l, List.mem_cons, List.mem_nil_iff, or_false] at hu
  rcases hu with rfl | rfl | rfl | rfl | rfl
  · exact oneCell_ri h2.key
  · rw [h1]; rfl
  · exact oneCell_ri h2.sum
  · exact oneCell_ri h2.mn
  · exact oneCell_ri h2.mx
theorem ReadsL.one {w : World} {vs : List V5} {l : List Cel} (h : ReadsL w vs l) : ∀ u ∈ flatV vs, u.oneCell' = true := by
  intro u hu
  simp only [flatV, List.mem_flatMap] at hu
  obtain ⟨v, hv, hu⟩ := hu
  obtain ⟨i, hi⟩ := List.getElem?_of_mem hv
  obtain ⟨x, hx⟩ : ∃ x, l[i]? = some x := ⟨_, List.getElem?_eq_getElem (by rw [← h.1]; exact (List.getElem?_eq_some_iff.1 hi).1)⟩
  exact (h.2 i v x hi hx).one u hu
/-- A row of cells in memory, by its values. -/
theorem CellsR.vals {w : World} {ad : Addr} : ∀ {l : List Cel}, CellsR w ad l → ∃ vs, ReadsL w vs l ∧ ∀ j u, (flatV vs)[j]? = some u → w.cell? (ad.add j) = some u := by
  intro l
  induction l generalizing ad with
  | nil => exact fun _ => ⟨[], ⟨rfl, fun i v x h => by simp at h⟩, fun j u h => by simp [flatV] at h⟩
  | cons x t ih =>
    intro h
    obtain ⟨vk, vs, vn, vm, a0, a1, a2, a3, a4, hcr, hck⟩ := h.first
    obtain ⟨us, hr, hc⟩ := ih (ad := ad.add 5) (h.drop 1)
    have o : ∀ k u, 0 < k → w.cell? ⟨ad.block, ad.off + k, none⟩ = some u → w.cell? (ad.add k) = some u := fun k u hk h => by
      rw [show ad.add k = ⟨ad.block, ad.off + k, none⟩ from by simp [Addr.add]; omega]
      exact h
    refine ⟨⟨vk, .int .i64 x.cnt, vs, vn, vm⟩ :: us, ⟨by simp [hr.1], fun i v y hv hy => ?_⟩, fun j u hu => ?_⟩
    · cases i with
      | zero =>
        simp only [List.getElem?_cons_zero, Option.some.injEq] at hv hy
        subst hv hy
        exact ⟨rfl, hcr, hck⟩
      | succ i => exact hr.2 i v y (by simpa using hv) (by simpa using hy)
    · have e : flatV (⟨vk, .int .i64 x.cnt, vs, vn, vm⟩ :: us) = vk :: .int .i64 x.cnt :: vs :: vn :: vm :: flatV us := by simp [flatV, V5.l]
      rw [e] at hu
      match j, hu with
      | 0, hu => simp at hu; subst hu; rw [show ad.add 0 = ad from by simp [Addr.add]]; exact a0
      | 1, hu => simp at hu; subst hu; exact o 1 _ (by omega) a1
      | 2, hu => simp at hu; subst hu; exact o 2 _ (by omega) a2
      | 3, hu => simp at hu; subst hu; exact o 3 _ (by omega) a3
      | 4, hu => simp at hu; subst hu; exact o 4 _ (by omega) a4
      | j + 5, hu => rw [show j + 5 = 5 + j by omega, ← add_of_add]; exact hc j u (by simpa using hu)
theorem cells_of_vals {w : World} {ad : Addr} {vs : List V5} {l : List Cel} (hr : ReadsL w vs l) (hc : ∀ j u, (flatV vs)[j]? = some u → w.cell? (ad.add j) = some u) : CellsR w ad l := fun i x hx => by
  obtain ⟨v, hv⟩ : ∃ v, vs[i]? = some v := ⟨_, List.getElem?_eq_getElem (by rw [hr.1]; exact (List.getElem?_eq_some_iff.1 hx).1)⟩
  obtain ⟨f0, f1, f2, f3, f4⟩ := flatV_at hv
  obtain ⟨g1, g2, g3⟩ := hr.2 i v x hv hx
  have o : ∀ k u, 0 < k → w.cell? ((ad.add (i * 5)).add k) = some u → w.cell? ⟨(ad.add (i * 5)).block, (ad.add (i * 5)).off + k, none⟩ = some u := fun k u hk h => by
    rwa [show (ad.add (i * 5)).add k = ⟨(ad.add (i * 5)).block, (ad.add (i * 5)).off + k, none⟩ from by rw [Addr.add, if_neg (by omega)]] at h
  have q : ∀ k u, (flatV vs)[i * 5 + k]? = some u → w.cell? ((ad.add (i * 5)).add k) = some u := fun k u h => by
    rw [add_of_add]; exact hc _ u h
  exact ⟨v.a, v.c, v.d, v.e, hc _ _ f0, o 1 _ (by omega) (q 1 _ (g1 ▸ f1)), o 2 _ (by omega) (q 2 _ f2), o 3 _ (by omega) (q 3 _ f3), o 4 _ (by omega) (q 4 _ f4), g2, g3⟩
end Go.Proofs.Ytmolfcccfekcpaa
