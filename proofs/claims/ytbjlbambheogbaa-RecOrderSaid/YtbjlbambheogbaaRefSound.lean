/- Walks of the document's own Sound (reference): it returns what the plain function gives. -/
import Derived.Test.YtbjlbambheogbaaRef1
namespace Go.Proofs.Ytbjlbambheogbaa
open Go.RowKit
set_option maxHeartbeats 4000000 in
theorem rSound_any (A B : Option Addr) (n c m d me : Nat) (l : List Fact) (w : World) (hr : Facts w B m l) (hn2 : m ≤ 4611686018427387904) (hme : me ≤ 1000) (hrl : ∀ r ∈ l, me ≤ r.m.length) :
    Calls Try.prog 28 #[.agg #[.slice A n c, .int .i64 me], .slice B m d] w fun e w' => e = .returned (.bool (soundsB me l)) ∧ Below w.heap.size w w' := by
  go_enter Try.func28, Try.ntmps28
  go_wp2
  go_loopw [5, 6, 7, 8] (fun i _ _ _ wr => ∃ k : Nat, k ≤ me ∧ i = .int .i64 k ∧ (∀ j, j < k → fitsB (col l j) = true) ∧ Below (w.heap.size + 1) (w.alloc (.cells #[.slice A n c, .int .i64 me] 24)) wr) (fun i _ _ _ _ => me - (intOf i).toNat)
  case atStart => exact ⟨0, by omega, rfl, by intros; omega, Below.refl _ _⟩
  case round =>
    obtain ⟨k, hk, rfl, ht, hb⟩ := hrel
    have Ht := Lib.hid ht
    have hB := ((Below.refl w.heap.size w).alloc (Nat.le_refl _) _).trans (hb.mono (by omega))
    have hs1 : wr.cell? ⟨w.heap.size, 1, none⟩ = some (.int .i64 me) := box_at hb (by omega) _
    have hz : w.heap.size < wr.heap.size := by have := hb.size; simp at this; omega
    have HB := Lib.hid hB
    have Hb := Lib.hid hb
    clear ht hB hb
    by_cases hlt : k < me
    · go_wp2_with fail
      obtain ⟨wo, hwo⟩ : ∃ wo : World, wo = wr := ⟨_, rfl⟩
      rw [← hwo] at HB Hb
      have Hwo := Lib.hid hwo
      clear hwo
      go_loop [6, 7, 8] (fun a b i => ∃ j : Nat, j ≤ m ∧ i = .int .i64 j ∧ ∃ up down : Int, a = .int .i64 up ∧ b = .int .i64 down ∧ 0 ≤ up ∧ up ≤ 9223372036854775807 ∧ -9223372036854775808 ≤ down ∧ down ≤ 0 ∧ up = upS ((col l k).take j) ∧ down = dnS ((col l k).take j)) (fun _ _ i => m - (intOf i).toNat)
      case atStart => exact ⟨0, by omega, rfl, _, _, rfl, rfl, by omega, by omega, by omega, by omega, rfl, rfl⟩
      case round =>
        obtain ⟨j, hj, rfl, up, down, rfl, rfl, b1, b2, b3, b4, e1, e2⟩ := hrel
        have E1 := Lib.hid e1
        have E2 := Lib.hid e2
        clear e1 e2
        by_cases hlj : j < m
        · obtain ⟨ad, r, rfl, hrk, hrow⟩ := (hr.keep (Keeps.of_below (by have := HB.out; rwa [Hwo.out] at this : Below w.heap.size w wr))).at_ hlj
          have hmr := hrl r (List.mem_of_getElem? hrk)
          obtain ⟨A1, c1, B1, d1, h1, h2, h3, h4⟩ := hrow
          obtain ⟨md, x, rfl, hx, ⟨hx1, hx2⟩, hxc⟩ := h4.at_ (k := k) (by omega)
          have Hu := Lib.hid (upS_snoc (col_at hrk hx))
          have Hd := Lib.hid (dnS_snoc (col_at hrk hx))
          have hkl : k < r.m.length := by omega
          clear hx hrk hr h3 h4 hmr
          have hx3 : x < 0 ∨ x = 0 ∨ 0 < x := by omega
          rcases hx3 with hp | rfl | hp
          all_goals
            go_wp2
            all_goals first
              | exact ⟨⟨j + 1, by omega, by go_num, _, _, rfl, rfl, by omega, by omega, by omega, by omega, by rw [Hu.out, ← E1.out]; omega, by rw [Hd.out, ← E2.out]; omega⟩, by simp [intOf]; omega⟩
              | (go_ret
                 refine ⟨?_, by have := HB.out; rwa [Hwo.out] at this⟩
                 first
                   | (rw [soundsB_no hlt (fitsB_up (j + 1) (by rw [Hu.out, ← E1.out]; omega))]; rfl)
                   | (rw [soundsB_no hlt (fitsB_dn (j + 1) (by rw [Hd.out, ← E2.out]; omega))]; rfl))
        · obtain rfl : j = m := by omega
          have hfit : fitsB (col l k) = true := by
            have f1 := E1.out
            have f2 := E2.out
            rw [List.take_of_length_le (by rw [col_len]; exact Nat.le_of_eq hr.1)] at f1 f2
            exact fitsB_yes (f1 ▸ b2) (f2 ▸ b3)
          have Hfit := Lib.hid hfit
          clear hfit
          go_wp2
          exact ⟨⟨k + 1, by omega, by go_num, lt_succ_all Ht.out Hfit.out, by have := Hb.out; rwa [Hwo.out] at this⟩, by simp [intOf]; omega⟩
    · go_wp2
      go_ret
      obtain rfl : k = me := by omega
      exact ⟨by rw [soundsB_yes Ht.out]; rfl, HB.out⟩
end Go.Proofs.Ytbjlbambheogbaa
