/- Package rec: Check. -/
import Derived.Test.YtjllmladhjbnaaaGreatDoorProg
import Derived.Test.YtjllmladhjbnaaaGreatDoorPure
namespace Go.Proofs.YtjllmladhjbnaaaGreatDoor
open Go.RowKit
set_option maxHeartbeats 1000000 in
theorem Check_any (A : Option Addr) (n c : Nat) (cs : List Int) (me : Int) (w : World) (hl : Nums .i64 w A n cs) (hn : n ≤ 4611686018427387904) (hm : inK .i64 me) :
    Calls Tryz.prog 39 #[.agg #[.slice A n c, .int .i64 me]] w fun e w' => e = .returned (.bool (checkB cs me)) ∧ Below w.heap.size w w' := by
  obtain ⟨hm1, hm2⟩ := hm
  by_cases h : 1 ≤ n ∧ n ≤ 4 ∧ 0 ≤ me ∧ me ≤ 2
  · obtain ⟨h1, h2, h3, h4⟩ := h
    go_enter Tryz.func39, Tryz.ntmps39
    go_wp2
    go_loop [4, 19] (fun _ i => ∃ k : Nat, k ≤ n ∧ i = .int .i64 k ∧ ∀ x ∈ cs.take k, 1 ≤ x ∧ x ≤ 16) (fun _ i => n - (intOf i).toNat)
    case atStart => exact ⟨0, by omega, rfl, by simp⟩
    case round =>
      obtain ⟨k, hk, rfl, ht⟩ := hrel
      have Ht := Lib.hid ht
      clear ht
      by_cases hlt : k < n
      · obtain ⟨ad, x, rfl, hx, ⟨hx1, hx2⟩, hxc⟩ := hl.at_ hlt
        have Hx := Lib.hid hx
        have hxc2 : ∀ o, (w.alloc o).cell? (ad.add k) = some (.int .i64 x) := fun o => ((Keeps.refl _).alloc o) _ _ hxc
        clear hx hxc
        by_cases hok : 1 ≤ x ∧ x ≤ 16
        · obtain ⟨h5, h6⟩ := hok
          go_wp2
          exact ⟨⟨k + 1, by omega, by go_num, all_take (p := fun x => 1 ≤ x ∧ x ≤ 16) Ht.out Hx.out ⟨h5, h6⟩⟩, by simp [intOf]; omega⟩
        · have hf := Lib.hid (checkB_no_at (me := me) Hx.out hok)
          have hok' : x < 1 ∨ 16 < x := by omega
          clear hok
          rcases hok' with h5 | h5
          · go_wp2
            go_ret
            exact ⟨by rw [hf.out]; rfl, (Below.refl _ _).alloc (Nat.le_refl _) _⟩
          · have hd : decide (x ≤ 16) = false := by simp; omega
            go_wp2
            go_ret
            exact ⟨by rw [hf.out]; rfl, (Below.refl _ _).alloc (Nat.le_refl _) _⟩
      · go_wp2
        go_ret
        obtain rfl : k = n := by omega
        have := Ht.out
        rw [List.take_of_length_le (by rw [hl.len]; omega)] at this
        exact ⟨by rw [checkB_yes (by rw [hl.len]; omega) (by rw [hl.len]; omega) h3 h4 this]; rfl, (Below.refl _ _).alloc (Nat.le_refl _) _⟩
  · have hf := Lib.hid (checkB_no (cs := cs) (me := me) (by rw [hl.len]; exact h))
    have h' : n < 1 ∨ 4 < n ∨ (1 ≤ n ∧ n ≤ 4 ∧ me < 0) ∨ (1 ≤ n ∧ n ≤ 4 ∧ 2 < me) := by omega
    clear h
    have hd : 2 < me → decide (me ≤ 2) = false := fun h => by simp; omega
    have hd2 : 4 < n → decide ((n : Int) ≤ 4) = false := fun h => by simp; omega
    rcases h' with h | h | ⟨h1, h2, h⟩ | ⟨h1, h2, h⟩
    all_goals
      first | have hd := hd h | have hd := hd2 h | skip
      go_enter Tryz.func39, Tryz.ntmps39
      go_wp2
      go_ret
      exact ⟨by rw [hf.out]; rfl, (Below.refl _ _).alloc (Nat.le_refl _) _⟩

end Go.Proofs.YtjllmladhjbnaaaGreatDoor
