/- How many keys there may be: each is a number below the product of the cards. -/
import Derived.Test.YtaopanclnaimpaaDoorRlat
import Derived.Test.YtaopanclnaimpaaDoorCnt
namespace Go.Proofs.YtaopanclnaimpaaDoor
open Go.RowKit Go.Shelf
/-- The dimensions of a set, up to one. -/
def pk (key : List Int) (set : Int) : Nat → List Int
  | 0 => []
  | i + 1 => if set / 2 ^ i % 2 = 1 then pk key set i ++ [key.getD i 0] else pk key set i
theorem pk_le (key : List Int) (set : Int) : ∀ i, (pk key set i).length ≤ i
  | 0 => Nat.le_refl _
  | i + 1 => by
    have := pk_le key set i
    unfold pk
    split
    · simp; omega
    · omega
theorem pk_same (k1 k2 : List Int) (set : Int) : ∀ i, (pk k1 set i).length = (pk k2 set i).length
  | 0 => rfl
  | i + 1 => by
    have := pk_same k1 k2 set i
    unfold pk
    split
    · simp [this]
    · exact this
/-- A key's number. -/
def codeTo (cs key : List Int) (set : Int) : Nat → Int
  | 0 => 0
  | i + 1 => if set / 2 ^ i % 2 = 1 then codeTo cs key set i * cs.getD i 0 + key.getD i 0 else codeTo cs key set i
/-- A key whose values may be. -/
def KeyIn (cs key : List Int) : Prop := ∀ i, i < cs.length → 0 ≤ key.getD i 0 ∧ key.getD i 0 < cs.getD i 0
theorem codeTo_bd {cs key : List Int} (set : Int) (hc : ∀ x ∈ cs, 1 ≤ x ∧ x ≤ 16) (hk : KeyIn cs key) : ∀ i, i ≤ cs.length → 0 ≤ codeTo cs key set i ∧ codeTo cs key set i < keysTo cs set i
  | 0, _ => ⟨Int.le_refl 0, by show (0 : Int) < 1; omega⟩
  | i + 1, h => by
    obtain ⟨a, b⟩ := codeTo_bd set hc hk i (by omega)
    obtain ⟨c, d⟩ := hk i (by omega)
    unfold codeTo keysTo
    split
    · have p := Int.mul_nonneg a (show 0 ≤ cs.getD i 0 by omega)
      have q := Int.mul_le_mul_of_nonneg_right (show codeTo cs key set i + 1 ≤ keysTo cs set i by omega) (show 0 ≤ cs.getD i 0 by omega)
      rw [Int.add_mul, Int.one_mul] at q
      omega
    · exact ⟨a, b⟩
theorem codeTo_inj {cs k1 k2 : List Int} (set : Int) (h1 : KeyIn cs k1) (h2 : KeyIn cs k2) : ∀ i, i ≤ cs.length → codeTo cs k1 set i = codeTo cs k2 set i → pk k1 set i = pk k2 set i
  | 0, _, _ => rfl
  | i + 1, h, e => by
    obtain ⟨a, b⟩ := h1 i (by omega)
    obtain ⟨c, d⟩ := h2 i (by omega)
    unfold codeTo at e
    unfold pk
    split at e
    · rename_i hb
      rw [if_pos hb, if_pos hb]
      have e1 : (codeTo cs k1 set i * cs.getD i 0 + k1.getD i 0) / cs.getD i 0 = codeTo cs k1 set i := by
        rw [Int.add_comm, Int.add_mul_ediv_right _ _ (by omega), Int.ediv_eq_zero_of_lt a b, Int.zero_add]
      have e2 : (codeTo cs k2 set i * cs.getD i 0 + k2.getD i 0) / cs.getD i 0 = codeTo cs k2 set i := by
        rw [Int.add_comm, Int.add_mul_ediv_right _ _ (by omega), Int.ediv_eq_zero_of_lt c d, Int.zero_add]
      have e3 : codeTo cs k1 set i = codeTo cs k2 set i := by rw [← e1, e, e2]
      rw [e3] at e
      have e4 : k1.getD i 0 = k2.getD i 0 := by omega
      rw [codeTo_inj set h1 h2 i (by omega) e3, e4]
    · rename_i hb
      rw [if_neg hb, if_neg hb]
      exact codeTo_inj set h1 h2 i (by omega) e
theorem nodup_le : ∀ (N : Nat) (l : List Int), l.Nodup → (∀ x ∈ l, 0 ≤ x ∧ x < N) → l.length ≤ N
  | 0, l, _, h => by
    cases l with
    | nil => simp
    | cons a t => have := h a (by simp); omega
  | N + 1, l, hn, h => by
    by_cases hm : (N : Int) ∈ l
    · have h1 := List.length_erase_of_mem hm
      have h2 := nodup_le N (l.erase (N : Int)) (hn.erase _) (fun x hx => by
        have hx2 := h x (List.mem_of_mem_erase hx)
        have : x ≠ (N : Int) := fun e => by subst e; exact (List.Nodup.not_mem_erase hn) hx
        omega)
      omega
    · have := nodup_le N l hn (fun x hx => by
        have hx2 := h x hx
        have : x ≠ (N : Int) := fun e => hm (e ▸ hx)
        omega)
      omega
/-- Keys that are no two the same are no more than there may be. -/
theorem keys_few {cs : List Int} {set : Int} (hc : ∀ x ∈ cs, 1 ≤ x ∧ x ≤ 16) (s1 : 0 ≤ set) (s2 : set ≤ fullB cs.length) (h4 : cs.length ≤ 4) (R : List (List Int)) (hR : ∀ r ∈ R, KeyIn cs r) (hn : (R.map fun r => pk r set cs.length).Nodup) : (R.length : Int) ≤ keysN cs set := by
  have hk := keysN_bd hc s1 s2 h4
  have h := nodup_le (keysN cs set).toNat (R.map fun r => codeTo cs r set cs.length) (by
    rw [List.Nodup, List.pairwise_map] at hn ⊢
    refine hn.imp_of_mem fun {a b} ha hb hab e => hab (codeTo_inj set (hR a ha) (hR b hb) cs.length (Nat.le_refl _) e)) (fun x hx => by
    obtain ⟨r, hr, rfl⟩ := List.mem_map.1 hx
    have := codeTo_bd set hc (hR r hr) cs.length (Nat.le_refl _)
    rw [keysTo_all cs set s1 s2 h4] at this
    omega)
  rw [List.length_map] at h
  omega
end Go.Proofs.YtaopanclnaimpaaDoor
