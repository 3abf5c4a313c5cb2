/- The hash of a key. -/
import Derived.RowKit
namespace Go.Proofs.Ytmolfcccfekcpaa
/-- A key's place among so many slots. -/
def hashI (key : List Int) : Int := key.foldl (fun h v => (31 * h + v + 1) % 1000003) 7
def plcN (key : List Int) (n : Nat) : Nat := (hashI key).toNat % n
theorem plcN_lt (key : List Int) {n : Nat} (h : 0 < n) : plcN key n < n := Nat.mod_lt _ h
theorem hashI_snoc (key : List Int) (v : Int) : hashI (key ++ [v]) = (31 * hashI key + v + 1) % 1000003 := by
  unfold hashI
  rw [List.foldl_append]; rfl
theorem hashI_take {key : List Int} {k : Nat} {v : Int} (h : key[k]? = some v) : hashI (key.take (k + 1)) = (31 * hashI (key.take k) + v + 1) % 1000003 := by
  rw [List.take_add_one, h]; exact hashI_snoc _ v
theorem hashI_in (key : List Int) : 0 ≤ hashI key ∧ hashI key ≤ 1000002 := by
  unfold hashI
  have : ∀ (l : List Int) (h : Int), 0 ≤ h ∧ h ≤ 1000002 → 0 ≤ l.foldl (fun h v => (31 * h + v + 1) % 1000003) h ∧ l.foldl (fun h v => (31 * h + v + 1) % 1000003) h ≤ 1000002 := by
    intro l
    induction l with
    | nil => intro h hh; exact hh
    | cons v l ih => intro h _; exact ih _ (by show 0 ≤ (31 * h + v + 1) % 1000003 ∧ (31 * h + v + 1) % 1000003 ≤ 1000002; omega)
  exact this key 7 (by omega)
theorem plcN_mod (key : List Int) (n : Nat) : (plcN key n : Int) = hashI key % (n : Int) := by
  have := hashI_in key
  unfold plcN
  rw [Int.natCast_emod, Int.toNat_of_nonneg this.1]
end Go.Proofs.Ytmolfcccfekcpaa
