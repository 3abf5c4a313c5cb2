/- A key as a text, as mathematics. -/
import Derived.Test.YtmolfcccfekcpaaHshH
namespace Go.Proofs.Ytmolfcccfekcpaa
open Go.RowKit
/-- A number from 0 to 19, as text; a blank behind it. -/
def decT (v : Int) : List UInt8 := if v < 10 then [(48 + v.toNat).toUInt8, 32] else [49, (38 + v.toNat).toUInt8, 32]
def textL (key : List Int) : List UInt8 := key.flatMap decT
theorem textL_snoc (k : List Int) (v : Int) : textL (k ++ [v]) = textL k ++ decT v := by simp [textL, List.flatMap_append]
theorem decT_len (v : Int) : (decT v).length ≤ 3 := by unfold decT; split <;> simp
theorem textL_len : ∀ k : List Int, (textL k).length ≤ 3 * k.length
  | [] => by simp [textL]
  | v :: k => by
    have h1 := textL_len k
    have h2 := decT_len v
    rw [textL, List.flatMap_cons, List.length_append, List.length_cons]
    rw [textL] at h1
    omega
theorem dec_fin : ∀ a b : Fin 16, a ≠ b → (decT (a.val : Int)).isPrefixOf (decT (b.val : Int)) = false := by decide +kernel
theorem pre_fin (a b : List UInt8) (r s : List UInt8) (h : a ++ r = b ++ s) : a.isPrefixOf b = true ∨ b.isPrefixOf a = true := by
  rcases Nat.le_total a.length b.length with hl | hl
  · left
    rw [List.isPrefixOf_iff_prefix]
    exact List.prefix_of_prefix_length_le (List.prefix_append a r) (h ▸ List.prefix_append b s) hl
  · right
    rw [List.isPrefixOf_iff_prefix]
    exact List.prefix_of_prefix_length_le (List.prefix_append b s) (h ▸ List.prefix_append a r) hl
theorem dec_inj {a b : Int} {r s : List UInt8} (ha : 0 ≤ a ∧ a ≤ 15) (hb : 0 ≤ b ∧ b ≤ 15) (h : decT a ++ r = decT b ++ s) : a = b ∧ r = s := by
  obtain ⟨x, hx⟩ : ∃ x : Fin 16, (x.val : Int) = a := ⟨⟨a.toNat, by omega⟩, by simp; omega⟩
  obtain ⟨y, hy⟩ : ∃ y : Fin 16, (y.val : Int) = b := ⟨⟨b.toNat, by omega⟩, by simp; omega⟩
  subst hx hy
  by_cases e : x = y
  · subst e
    exact ⟨rfl, List.append_cancel_left h⟩
  · rcases pre_fin _ _ _ _ h with h1 | h1
    · rw [dec_fin x y e] at h1; cases h1
    · rw [dec_fin y x (fun e' => e e'.symm)] at h1; cases h1
theorem textL_inj : ∀ {k1 k2 : List Int}, (∀ v ∈ k1, 0 ≤ v ∧ v ≤ 15) → (∀ v ∈ k2, 0 ≤ v ∧ v ≤ 15) → textL k1 = textL k2 → k1 = k2
  | [], [], _, _, _ => rfl
  | [], v :: k, _, _, h => by
    exfalso
    have := congrArg List.length h
    rw [textL, textL, List.flatMap_cons, List.length_append] at this
    have h2 : 2 ≤ (decT v).length := by unfold decT; split <;> simp
    simp only [List.flatMap_nil, List.length_nil] at this
    omega
  | v :: k, [], _, _, h => by
    exfalso
    have := congrArg List.length h
    rw [textL, textL, List.flatMap_cons, List.length_append] at this
    have h2 : 2 ≤ (decT v).length := by unfold decT; split <;> simp
    simp only [List.flatMap_nil, List.length_nil] at this
    omega
  | v :: k1, u :: k2, h1, h2, h => by
    rw [textL, textL, List.flatMap_cons, List.flatMap_cons] at h
    obtain ⟨rfl, h3⟩ := dec_inj (h1 v List.mem_cons_self) (h2 u List.mem_cons_self) h
    rw [textL_inj (fun x hx => h1 x (List.mem_cons_of_mem _ hx)) (fun x hx => h2 x (List.mem_cons_of_mem _ hx)) h3]
end Go.Proofs.Ytmolfcccfekcpaa
