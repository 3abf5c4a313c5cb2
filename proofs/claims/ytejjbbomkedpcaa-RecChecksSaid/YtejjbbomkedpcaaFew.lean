/- The walk of the law's Few: whether raw rows are not too much. -/
import Derived.Test.YtejjbbomkedpcaaRef1
import Derived.Test.YtejjbbomkedpcaaRec1
namespace Go.Proofs.Ytejjbbomkedpcaa
open Go.RowKit
def fewB (n : Nat) (l : List Fact) : Bool := decide (n ≤ 20) && decide (l.length ≤ 60) && l.all fun r => decide (r.key.length ≤ 20) && decide (r.m.length ≤ 20)
theorem fewB_no {n : Nat} {l : List Fact} (h : 20 < n ∨ 60 < l.length) : fewB n l = false := by
  unfold fewB
  rcases h with h | h
  · rw [decide_eq_false (by omega)]; rfl
  · rw [decide_eq_false (p := l.length ≤ 60) (by omega), Bool.and_false]; rfl
theorem fewB_no_at {n k : Nat} {l : List Fact} {r : Fact} (hk : l[k]? = some r) (h : 20 < r.key.length ∨ 20 < r.m.length) : fewB n l = false := by
  rw [fewB, Bool.and_eq_false_iff]
  right
  rw [List.all_eq_false]
  refine ⟨r, List.mem_of_getElem? hk, ?_⟩
  simp
  omega
theorem fewB_yes {n : Nat} {l : List Fact} (h1 : n ≤ 20) (h2 : l.length ≤ 60) (h : ∀ r ∈ l, r.key.length ≤ 20 ∧ r.m.length ≤ 20) : fewB n l = true := by
  simp only [fewB, Bool.and_eq_true, decide_eq_true_eq, List.all_eq_true]
  exact ⟨⟨h1, h2⟩, h⟩
theorem fewB_spec {n : Nat} {l : List Fact} (h : fewB n l = true) : n ≤ 20 ∧ l.length ≤ 60 ∧ ∀ r ∈ l, r.key.length ≤ 20 ∧ r.m.length ≤ 20 := by
  simp only [fewB, Bool.and_eq_true, decide_eq_true_eq, List.all_eq_true] at h
  exact ⟨h.1.1, h.1.2, h.2⟩
theorem few_take {p : Fact → Prop} {l : List Fact} {k : Nat} {r : Fact} (h : ∀ x ∈ l.take k, p x) (hk : l[k]? = some r) (hp : p r) : ∀ x ∈ l.take (k + 1), p x := by
  rw [List.take_add_one, hk]
  intro x hx
  rcases List.mem_append.1 hx with hx | hx
  · exact h x hx
  · simp at hx; subst hx; exact hp
set_option maxHeartbeats 2000000 in
theorem Few_any (A B : Option Addr) (n c m d : Nat) (me : Int) (l : List Fact) (w : World) (hr : Facts w B m l) (hn : n ≤ 9223372036854775807) (hn2 : m ≤ 9223372036854775807) (hn3 : ∀ r ∈ l, r.key.length ≤ 9223372036854775807 ∧ r.m.length ≤ 9223372036854775807) :
    Calls Try.prog 5 #[.agg #[.slice A n c, .int .i64 me], .slice B m d] w fun e w' => e = .returned (.bool (fewB n l)) ∧ Below w.heap.size w w' := by
  by_cases h : n ≤ 20 ∧ m ≤ 60
  · obtain ⟨h1, h2⟩ := h
    go_enter Try.func5, Try.ntmps5
    go_wp2
    go_loop [5] (fun i => ∃ k : Nat, k ≤ m ∧ i = .int .i64 k ∧ ∀ r ∈ l.take k, r.key.length ≤ 20 ∧ r.m.length ≤ 20) (fun i => m - (intOf i).toNat)
    case atStart => exact ⟨0, by omega, rfl, by simp⟩
    case round =>
      obtain ⟨k, hk, rfl, ht⟩ := hrel
      have Ht := Lib.hid ht
      clear ht
      by_cases hlt : k < m
      · obtain ⟨ad, r, rfl, hrk, hrow⟩ := (hr.keep ((Keeps.refl _).alloc (.cells #[.slice A n c, .int .i64 me] 24))).at_ hlt
        have Hr := Lib.hid hrk
        obtain ⟨hn4, hn5⟩ := hn3 r (List.mem_of_getElem? hrk)
        obtain ⟨A1, c1, B1, d1, q1, q2, h3, h4⟩ := hrow
        have l3 := Lib.hid h3.len
        have l4 := Lib.hid h4.len
        obtain ⟨x, hx⟩ : ∃ x, x = r.key.length := ⟨_, rfl⟩
        obtain ⟨y, hy⟩ : ∃ y, y = r.m.length := ⟨_, rfl⟩
        rw [← hx] at hn4 q1
        rw [← hy] at hn5 q2
        have Hx := Lib.hid hx
        have Hy := Lib.hid hy
        clear hrk h3 h4 hx hy
        by_cases hok : x ≤ 20 ∧ y ≤ 20
        · obtain ⟨h5, h6⟩ := hok
          go_wp2
          exact ⟨⟨k + 1, by omega, by go_num, few_take (p := fun r => r.key.length ≤ 20 ∧ r.m.length ≤ 20) Ht.out Hr.out ⟨by rw [← Hx.out]; exact h5, by rw [← Hy.out]; exact h6⟩⟩, by simp [intOf]; omega⟩
        · have hf := Lib.hid (fewB_no_at (n := n) Hr.out (by rw [← Hx.out, ← Hy.out]; omega))
          have hok' : 20 < x ∨ x ≤ 20 ∧ 20 < y := by omega
          clear hok
          rcases hok' with h5 | ⟨h5, h6⟩
          all_goals
            go_wp2
            go_ret
            exact ⟨by rw [hf.out]; rfl, (Below.refl _ _).alloc (Nat.le_refl _) _⟩
      · go_wp2
        go_ret
        obtain rfl : k = m := by omega
        have := Ht.out
        rw [List.take_of_length_le (by rw [hr.1]; omega)] at this
        exact ⟨by rw [fewB_yes h1 (by rw [hr.1]; exact h2) this]; rfl, (Below.refl _ _).alloc (Nat.le_refl _) _⟩
  · have hf := Lib.hid (fewB_no (n := n) (l := l) (by rw [hr.1]; omega))
    have h' : 20 < n ∨ n ≤ 20 ∧ 60 < m := by omega
    clear h
    rcases h' with h | ⟨h1, h⟩
    all_goals
      go_enter Try.func5, Try.ntmps5
      go_wp2
      go_ret
      exact ⟨by rw [hf.out]; rfl, (Below.refl _ _).alloc (Nat.le_refl _) _⟩
end Go.Proofs.Ytejjbbomkedpcaa
