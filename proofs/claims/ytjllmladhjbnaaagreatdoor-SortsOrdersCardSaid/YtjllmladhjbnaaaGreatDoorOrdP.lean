/- The dimensions of an order, set one after another. -/
import Derived.Test.YtjllmladhjbnaaaGreatDoorSrtA
namespace Go.Proofs.YtjllmladhjbnaaaGreatDoor
open Go.RowKit
def setTo (r : List Int) (k : Nat) : Int := (r.take k).foldl (fun a x => bits .or .i64 a (wrap64 (2 ^ x.toNat))) 0
theorem setTo_succ {r : List Int} {k : Nat} {x : Int} (h : r[k]? = some x) : setTo r (k + 1) = bits .or .i64 (setTo r k) (wrap64 (2 ^ x.toNat)) := by
  unfold setTo
  rw [List.take_add_one, h, List.foldl_append]; rfl
def okO (s : Int) (r : List Int) : Bool := !(r.isPerm (dimsL s)) || ((List.range 4).all (fun k => decide (r.length ≤ k) || (setTo r k / 2 ^ (r.getD k 0).toNat % 2 == 0 && decide (0 ≤ setTo r k) && decide (setTo r k ≤ 15))) && setTo r r.length == s)
theorem ok0 : ∀ s : Fin 16, okO (s.val : Int) [] = true := by decide +kernel
theorem ok1 : ∀ s : Fin 16, ∀ a : Fin 4, okO (s.val : Int) [(a.val : Int)] = true := by decide +kernel
theorem ok2 : ∀ s : Fin 16, ∀ a b : Fin 4, okO (s.val : Int) [(a.val : Int), (b.val : Int)] = true := by decide +kernel
theorem ok3 : ∀ s : Fin 16, ∀ a b c : Fin 4, okO (s.val : Int) [(a.val : Int), (b.val : Int), (c.val : Int)] = true := by decide +kernel
theorem ok4 : ∀ s : Fin 16, ∀ a b c d : Fin 4, okO (s.val : Int) [(a.val : Int), (b.val : Int), (c.val : Int), (d.val : Int)] = true := by decide +kernel
theorem fin4 {x : Int} (h : 0 ≤ x ∧ x ≤ 3) : ∃ a : Fin 4, x = (a.val : Int) := ⟨⟨x.toNat, by omega⟩, by show x = (x.toNat : Int); omega⟩
theorem okO_all {s : Int} {r : List Int} (h0 : 0 ≤ s) (h1 : s ≤ 15) (hp : r.Perm (dimsL s)) : okO s r = true := by
  have hx : ∀ x ∈ r, 0 ≤ x ∧ x ≤ 3 := fun x hx => by
    have := dimsL_lt 4 s h0 (by unfold fullB; omega) (Nat.le_refl _) x (hp.mem_iff.1 hx)
    omega
  have hl : r.length ≤ 4 := by rw [hp.length_eq]; exact dimsL_le s
  obtain ⟨z, hz⟩ : ∃ z : Fin 16, s = (z.val : Int) := ⟨⟨s.toNat, by omega⟩, by show s = (s.toNat : Int); omega⟩
  rw [hz]
  clear hz h0 h1 hp
  match r, hx, hl with
  | [], _, _ => exact ok0 z
  | [a], hx, _ => obtain ⟨a', rfl⟩ := fin4 (hx a (by simp)); exact ok1 z a'
  | [a, b], hx, _ => obtain ⟨a', rfl⟩ := fin4 (hx a (by simp)); obtain ⟨b', rfl⟩ := fin4 (hx b (by simp)); exact ok2 z a' b'
  | [a, b, c], hx, _ => obtain ⟨a', rfl⟩ := fin4 (hx a (by simp)); obtain ⟨b', rfl⟩ := fin4 (hx b (by simp)); obtain ⟨c', rfl⟩ := fin4 (hx c (by simp)); exact ok3 z a' b' c'
  | [a, b, c, d], hx, _ => obtain ⟨a', rfl⟩ := fin4 (hx a (by simp)); obtain ⟨b', rfl⟩ := fin4 (hx b (by simp)); obtain ⟨c', rfl⟩ := fin4 (hx c (by simp)); obtain ⟨d', rfl⟩ := fin4 (hx d (by simp)); exact ok4 z a' b' c' d'
  | a :: b :: c :: d :: e :: t, _, hl => simp at hl
theorem okO_parts {s : Int} {r : List Int} (h0 : 0 ≤ s) (h1 : s ≤ 15) (hp : r.Perm (dimsL s)) : (∀ k x, r[k]? = some x → setTo r k / 2 ^ x.toNat % 2 = 0 ∧ 0 ≤ setTo r k ∧ setTo r k ≤ 15) ∧ setTo r r.length = s := by
  have h := okO_all h0 h1 hp
  have hl : r.length ≤ 4 := by rw [hp.length_eq]; exact dimsL_le s
  unfold okO at h
  rw [List.isPerm_iff.2 hp] at h
  simp only [Bool.not_true, Bool.false_or, Bool.and_eq_true, List.all_eq_true, beq_iff_eq, Bool.or_eq_true, decide_eq_true_eq, List.mem_range] at h
  refine ⟨fun k x hk => ?_, h.2⟩
  have hkl := (List.getElem?_eq_some_iff.1 hk).1
  have h2 := h.1 k (by omega)
  rw [List.getD_eq_getElem?_getD, hk] at h2
  rcases h2 with h2 | h2
  · omega
  · exact ⟨h2.1.1, h2.1.2, h2.2⟩
end Go.Proofs.YtjllmladhjbnaaaGreatDoor
