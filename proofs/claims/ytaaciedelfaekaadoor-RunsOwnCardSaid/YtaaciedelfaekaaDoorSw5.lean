/- Rows of cells of one key each: turned about, and one of two rows written. -/
import Derived.Test.YtaaciedelfaekaaDoorKeyRow
namespace Go.Proofs.YtaaciedelfaekaaDoor
open Go.RowKit Go.Shelf
theorem riseB_no {L : List Cel} {k : Nat} {a b : Cel} (ha : L[k]? = some a) (hb : L[k + 1]? = some b) (h : ¬ cmpL a.key b.key < 0) : riseB L = false := by
  unfold riseB
  rw [List.all_eq_false]
  refine ⟨(a, b), ?_, by simpa using h⟩
  have : (prs L)[k]? = some (a, b) := by
    unfold prs
    rw [List.getElem?_zip_eq_some]
    exact ⟨ha, by rw [List.getElem?_drop, Nat.add_comm]; exact hb⟩
  exact List.mem_of_getElem? this
theorem cK_lt {n x y : Int} : cmpL (cK n x).key (cK n y).key < 0 ↔ x < y := by
  simp only [cK, cmpL, cmpI]
  rcases Int.lt_trichotomy x y with h | h | h
  · simp [h]
  · subst h; simp
  · have h2 : ¬ x < y := by omega
    simp [h, h2]
theorem rise_keys {n : Int} {ks : List Int} (h : ks.Pairwise (· < ·)) : RiseC (ks.map (cK n)) := by
  unfold RiseC
  rw [List.pairwise_map]
  exact h.imp fun h => cK_lt.2 h
theorem keys_at {ks : List Int} (h : ks.Pairwise (· < ·)) {k : Nat} {x y : Int} (hx : ks[k]? = some x) (hy : ks[k + 1]? = some y) : x < y := by
  obtain ⟨h1, e1⟩ := List.getElem?_eq_some_iff.1 hx
  obtain ⟨h2, e2⟩ := List.getElem?_eq_some_iff.1 hy
  have := List.pairwise_iff_getElem.1 h k (k + 1) h1 h2 (by omega)
  rw [e1, e2] at this
  exact this
theorem GRs.setO {B B' g a n : Nat} {X : World} {v v2 : Value} {us2 : List V5} {J2 : List Cel} {ys : List Value} {q : V5} (h : GRs B X v2 us2 J2) (ho : X.ownsRow B' 41 5 v n ys) (hg : v.ownBlock = some g) (hne : v2.ownBlock ≠ some g) : GRs B (Go.Proofs.YtaaciedelfaekaaDoor.setF X g a q) v2 us2 J2 := by
  have st : ∀ (Y : World) (i : Nat) (z : Value), Y.ownsRow B 41 5 v2 us2.length (flatV us2) → (Y.setCell ⟨g, i, none⟩ z).ownsRow B 41 5 v2 us2.length (flatV us2) := fun Y i z h => own_stay h fun k hk => Below.heap_setCell _ _ _ _ (fun e => hne (by rw [hk, e]))
  have hr := st _ (a * 5 + 4) q.e (st _ (a * 5 + 3) q.d (st _ (a * 5 + 2) q.c (st _ (a * 5 + 1) q.b (st _ (a * 5) q.a h.1))))
  refine ⟨hr, h.2.stay fun o => ?_⟩
  exact ⟨own_stay o.1 fun k hk => by
    have hk2 : k ≠ g := fun e => by
      rcases own_apart o.1 ho (by decide) with h0 | h0
      · rw [h0] at hk; cases hk
      · exact h0 (by rw [hk, hg, e])
    have f : ∀ (Y : World) (i : Nat) (z : Value), (Y.setCell ⟨g, i, none⟩ z).heap[k]? = Y.heap[k]? := fun Y i z => Below.heap_setCell _ _ _ _ (fun e => hk2 e)
    unfold Go.Proofs.YtaaciedelfaekaaDoor.setF
    rw [f, f, f, f, f], o.2⟩
theorem GRs.setF' {B g c n : Nat} {X : World} {us : List V5} {J : List Cel} (h : GRs B X (.slice (some ⟨g, 0, none⟩) n c) us J) (a : Nat) (q : V5) : ∃ ys, (Go.Proofs.YtaaciedelfaekaaDoor.setF X g a q).ownsRow B 41 5 (.slice (some ⟨g, 0, none⟩) n c) us.length ys := by
  obtain ⟨P, c', e, -⟩ := h.form
  injection e with e1 e2 e3
  subst e1 e2 e3
  exact ⟨_, (((((((((h.1.stored (a * 5) q.a).1).stored (a * 5 + 1) q.b).1).stored (a * 5 + 2) q.c).1).stored (a * 5 + 3) q.d).1).stored (a * 5 + 4) q.e).1⟩
theorem GRs.cellG {B g c n : Nat} {X : World} {us : List V5} {J : List Cel} (h : GRs B X (.slice (some ⟨g, 0, none⟩) n c) us J) {j : Nat} {u : Value} (hu : (flatV us)[j]? = some u) : X.cell? ⟨g, j, none⟩ = some u := by
  obtain ⟨P, c', e, -, -, h2, -⟩ := h.form
  have hw : 0 < us.length := by
    rcases Nat.eq_zero_or_pos us.length with z | z
    · rw [List.length_eq_zero_iff] at z; subst z; simp [flatV] at hu
    · exact z
  obtain ⟨g', rfl, -, -, -, h3⟩ := h2 hw
  injection e with e1 _ _
  injection e1 with e1
  injection e1 with e1
  rw [e1]
  exact h3 j u hu
theorem GRs.five {B g c n k : Nat} {X : World} {us : List V5} {J : List Cel} {p : V5} (h : GRs B X (.slice (some ⟨g, 0, none⟩) n c) us J) (hp : us[k]? = some p) : X.cell? ⟨g, k * 5, none⟩ = some p.a ∧ X.cell? ⟨g, k * 5 + 1, none⟩ = some p.b ∧ X.cell? ⟨g, k * 5 + 2, none⟩ = some p.c ∧ X.cell? ⟨g, k * 5 + 3, none⟩ = some p.d ∧ X.cell? ⟨g, k * 5 + 4, none⟩ = some p.e := by
  obtain ⟨c0, c1, c2, c3, c4⟩ := flatV_five hp
  exact ⟨h.cellG c0, h.cellG c1, h.cellG c2, h.cellG c3, h.cellG c4⟩
theorem GRs.froz {B g c n : Nat} {X : World} {us : List V5} {J : List Cel} (h : GRs B X (.slice (some ⟨g, 0, none⟩) n c) us J) (j : Nat) : X.frozen? ⟨g, j, none⟩ = false := by
  obtain ⟨P, c', e, -⟩ := h.form
  injection e with e1 e2 e3
  subst e1 e2 e3
  exact World.ownsRow.frozenAt h.1 j
/-- One cell is written over by another one. -/
theorem GRs.setN {B g c n a : Nat} {X : World} {us : List V5} {J : List Cel} {q : V5} {x : Cel} (h : GRs B X (.slice (some ⟨g, 0, none⟩) n c) us J) (hn : us.length = n) (hq : OwnC B X q x) (ha : a < n) :
    GRs B (Go.Proofs.YtaaciedelfaekaaDoor.setF X g a q) (.slice (some ⟨g, 0, none⟩) n c) (us.set a q) (J.set a x) ∧ (∀ (u : V5) (y : Cel), OwnC B X u y → OwnC B (Go.Proofs.YtaaciedelfaekaaDoor.setF X g a q) u y) := by
  subst hn
  exact h.setF hq ha
end Go.Proofs.YtaaciedelfaekaaDoor
