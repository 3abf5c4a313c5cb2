/- The reference's table in memory; its Place, New. -/
import Derived.IntWalk
import Derived.Test.YtioddfodajinlaaHsh6
import Derived.Test.YtioddfodajinlaaHshR
namespace Go.Proofs.Ytioddfodajinlaa
open Go.RowKit
attribute [local go_sem] Oper.semAt_some
def slotC : Option V5 → List Value
  | none => [.slice none 0 0, .int .i64 0, .slice none 0 0, .slice none 0 0, .slice none 0 0]
  | some v => v.l
def flatC (vs : List (Option V5)) : List Value := vs.flatMap slotC
theorem slotC_len : ∀ v : Option V5, (slotC v).length = 5
  | none => rfl
  | some _ => rfl
theorem flatC_len : ∀ vs : List (Option V5), (flatC vs).length = vs.length * 5
  | [] => rfl
  | v :: vs => by rw [flatC, List.flatMap_cons, List.length_append, slotC_len]; have := flatC_len vs; rw [flatC] at this; rw [this, List.length_cons]; omega
theorem flatC_at : ∀ {vs : List (Option V5)} {i : Nat} {v : Option V5}, vs[i]? = some v → ∀ j, j < 5 → (flatC vs)[i * 5 + j]? = (slotC v)[j]?
  | [], i, v, h, _, _ => by simp at h
  | u :: vs, 0, v, h, j, hj => by
    simp only [List.getElem?_cons_zero, Option.some.injEq] at h
    subst h
    rw [flatC, List.flatMap_cons, List.getElem?_append_left (by rw [slotC_len]; omega)]
    simp
  | u :: vs, i + 1, v, h, j, hj => by
    rw [List.getElem?_cons_succ] at h
    have := flatC_at h j hj
    rw [flatC, List.flatMap_cons, List.getElem?_append_right (by rw [slotC_len]; omega), slotC_len, show (i + 1) * 5 + j - 5 = i * 5 + j by omega]
    exact this
theorem flatC_cut {vs : List (Option V5)} {i : Nat} (h : i < vs.length) (u : Option V5) : flatC (vs.set i u) = flatC (vs.take i) ++ slotC u ++ flatC (vs.drop (i + 1)) := by
  rw [List.set_eq_take_append_cons_drop, if_pos h]
  simp [flatC]
theorem setC5 (a b : List Value) (u0 u1 u2 u3 u4 v0 v1 v2 v3 v4 : Value) (k : Nat) (hk : a.length = k) : (((((a ++ [u0, u1, u2, u3, u4] ++ b).set k v0).set (k + 1) v1).set (k + 2) v2).set (k + 3) v3).set (k + 4) v4 = a ++ [v0, v1, v2, v3, v4] ++ b := by
  subst hk
  simp [List.set_append_right, List.append_assoc, Nat.add_sub_cancel_left]
theorem flatC_set {vs : List (Option V5)} {i : Nat} (h : i < vs.length) (v : V5) : (((((flatC vs).set (i * 5) v.a).set (i * 5 + 1) v.b).set (i * 5 + 2) v.c).set (i * 5 + 3) v.d).set (i * 5 + 4) v.e = flatC (vs.set i (some v)) := by
  rw [flatC_cut h (some v)]
  have e : flatC vs = flatC (vs.take i) ++ slotC vs[i] ++ flatC (vs.drop (i + 1)) := by
    rw [← flatC_cut h, List.set_getElem_self]
  have hl : (flatC (vs.take i)).length = i * 5 := by rw [flatC_len, List.length_take]; omega
  rw [e]
  match slotC vs[i], slotC_len vs[i] with
  | [u0, u1, u2, u3, u4], _ => exact setC5 _ _ _ _ _ _ _ _ _ _ _ _ _ hl
theorem flatC_new (n : Nat) : (madeCells #[.slice none 0 0, .int .i64 0, .slice none 0 0, .slice none 0 0, .slice none 0 0] (n * 5)).toList = flatC (List.replicate n none) := by
  apply List.ext_getElem?
  intro p
  rcases Nat.lt_or_ge p (n * 5) with h | h
  · have h1 : p / 5 < n := by omega
    have h2 := flatC_at (vs := List.replicate n none) (i := p / 5) (v := none) (by rw [List.getElem?_replicate, if_pos h1]) (p % 5) (by omega)
    rw [show p / 5 * 5 + p % 5 = p by omega] at h2
    rw [h2]
    unfold madeCells
    simp only [Array.toList_map, Array.toList_range, List.getElem?_map, List.getElem?_range h, Option.map_some]
    have h3 : p % 5 < 5 := by omega
    match p % 5, h3 with
    | 0, _ => simp [slotC]
    | 1, _ => simp [slotC]
    | 2, _ => simp [slotC]
    | 3, _ => simp [slotC]
    | 4, _ => simp [slotC]
  · rw [List.getElem?_eq_none (l := flatC _) (by rw [flatC_len, List.length_replicate]; exact h), List.getElem?_eq_none (by unfold madeCells; simpa using h)]
/-- Which slots are taken. -/
def isV (vs : List (Option V5)) : List Value := vs.map fun v => .bool v.isSome
/-- The reference's table: its box, its cells, which are taken. -/
structure RT (B : Nat) (w : World) (T gC gI : Nat) (vs : List (Option V5)) (ts : List (Option Cel)) : Prop where
  bx : Own 64 w T [.slice (some ⟨gC, 0, none⟩) ts.length ts.length, .slice (some ⟨gI, 0, none⟩) ts.length ts.length, .int .i64 (cellsT ts).length]
  cs : Own 39 w gC (flatC vs)
  is : Own 4 w gI (isV vs)
  len : vs.length = ts.length
  at_ : ∀ (i : Nat) v t, vs[i]? = some v → ts[i]? = some t → SlotO B w v t
  hT : B ≤ T
  hC : B ≤ gC
  hI : B ≤ gI
section
variable {B B' T gC gI : Nat} {w w' : World} {vs : List (Option V5)} {ts : List (Option Cel)}
theorem RT.below (h : RT B w T gC gI vs ts) (hb : Below w.heap.size w w') : RT B w' T gC gI vs ts := ⟨h.bx.below hb h.bx.lt, h.cs.below hb h.cs.lt, h.is.below hb h.is.lt, h.len, fun i v t hv ht => (h.at_ i v t hv ht).stay fun o => o.below hb, h.hT, h.hC, h.hI⟩
theorem RT.slot (h : RT B w T gC gI vs ts) {i : Nat} {t : Option Cel} (ht : ts[i]? = some t) : ∃ v, vs[i]? = some v ∧ SlotO B w v t ∧ (∀ j, j < 5 → ∀ u, (slotC v)[j]? = some u → w.cell? ⟨gC, i * 5 + j, none⟩ = some u) ∧ w.cell? ⟨gI, i, none⟩ = some (.bool v.isSome) := by
  have hi : i < vs.length := by rw [h.len]; exact (List.getElem?_eq_some_iff.1 ht).1
  have hv : vs[i]? = some vs[i] := List.getElem?_eq_getElem hi
  exact ⟨vs[i], hv, h.at_ i _ t hv ht, fun j hj u hu => h.cs.cell (by rw [flatC_at hv j hj]; exact hu), h.is.cell (by unfold isV; simp [hi])⟩
end
set_option maxRecDepth 100000 in
set_option maxHeartbeats 1000000 in
theorem rPlace_any (P : Option Addr) (c K n : Nat) (key : List Int) (w : World) (hx : Nums .i64 w P K key) (hok : okK key = true) (hK : K ≤ 1000) (hn1 : 1 ≤ n) (hn2 : n ≤ 10000) :
    Calls Try.prog 49 #[.slice P K c, .int .i64 n] w fun e w' => e = .returned (.int .i64 (plcN key n : Nat)) ∧ w = w' := by
  have HN := Lib.hid hx
  have HO : Hid (∀ v ∈ key, 0 ≤ v ∧ v ≤ 15) := Lib.hid (fun v hv => by
    unfold okK at hok
    rw [List.all_eq_true] at hok
    exact of_decide_eq_true (hok v hv))
  have hKL : key.length = K := hx.1
  have HKL := Lib.hid hKL
  have hPm : (hashI key).tmod (n : Int) = (plcN key n : Nat) := by rw [Int.tmod_eq_emod_of_nonneg (hashI_in key).1, plcN_mod]
  obtain ⟨PL, hPL⟩ : ∃ PL, PL = plcN key n := ⟨_, rfl⟩
  rw [← hPL] at hPm ⊢
  have hnz : ¬ n = 0 := by omega
  have hn0 : ((n : Int) == 0) = false := by simp; omega
  clear hx hok hKL hPL
  go_enter Try.func49, Try.ntmps49
  go_wp2_with fail
  go_loopw [5, 6] (fun h i wr => ∃ j : Nat, i = .int .i64 j ∧ j ≤ K ∧ h = .int .i64 (hashI (key.take j)) ∧ w = wr) (fun _ i _ => K - (intOf i).toNat)
  case atStart => exact ⟨0, rfl, Nat.zero_le _, rfl, rfl⟩
  case round =>
    obtain ⟨j, rfl, hj, rfl, rfl⟩ := hrel
    by_cases hjK : j < K
    · obtain ⟨ad, v, rfl, hv, -, hcv⟩ := HN.out.at_ hjK
      obtain ⟨v0, v1⟩ := HO.out v (List.mem_of_getElem? hv)
      obtain ⟨g0, g1⟩ := hashI_in (key.take j)
      have HS := Lib.hid (hashI_take hv)
      obtain ⟨h, hh⟩ : ∃ h, h = hashI (key.take j) := ⟨_, rfl⟩
      rw [← hh] at g0 g1 HS ⊢
      have j0 : (0 : Int) ≤ (j : Int) := by omega
      have j1 : (j : Int) < (K : Int) := by omega
      clear hv hh hPm
      go_wp2
      go_roundw
      case rel => exact ⟨j + 1, by go_num, by omega, by rw [HS.out], trivial⟩
      case measure => simp [intOf]; omega
    · obtain rfl : j = K := by omega
      have ht : key.take j = key := List.take_of_length_le (by rw [HKL.out]; exact Nat.le_refl _)
      rw [ht]
      go_wp2
      go_ret
      exact ⟨rfl, rfl⟩
end Go.Proofs.Ytioddfodajinlaa
