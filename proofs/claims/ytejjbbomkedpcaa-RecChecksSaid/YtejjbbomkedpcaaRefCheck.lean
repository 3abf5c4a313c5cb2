/- Walks of the document's own Check and Right (reference): they return what the plain functions give. -/
import Derived.Test.YtejjbbomkedpcaaRef1
import Derived.Test.YtejjbbomkedpcaaRec1
namespace Go.Proofs.Ytejjbbomkedpcaa
open Go.RowKit
set_option maxHeartbeats 1000000 in
theorem rCheck_any (A : Option Addr) (n c : Nat) (cs : List Int) (me : Int) (w : World) (hl : Nums .i64 w A n cs) (hn : n ≤ 4611686018427387904) (hm : inK .i64 me) :
    Calls Try.prog 8 #[.agg #[.slice A n c, .int .i64 me]] w fun e w' => e = .returned (.bool (checkB cs me)) ∧ Below w.heap.size w w' := by
  obtain ⟨hm1, hm2⟩ := hm
  by_cases h : 1 ≤ n ∧ n ≤ 4 ∧ 0 ≤ me ∧ me ≤ 2
  · obtain ⟨h1, h2, h3, h4⟩ := h
    go_enter Try.func8, Try.ntmps8
    go_wp2
    go_loop [3] (fun i => ∃ k : Nat, k ≤ n ∧ i = .int .i64 k ∧ ∀ x ∈ cs.take k, 1 ≤ x ∧ x ≤ 16) (fun i => n - (intOf i).toNat)
    case atStart => exact ⟨0, by omega, rfl, by simp⟩
    case round =>
      obtain ⟨k, hk, rfl, ht⟩ := hrel
      have Ht := Lib.hid ht
      clear ht
      by_cases hlt : k < n
      · obtain ⟨ad, x, rfl, hx, ⟨hx1, hx2⟩, hxc⟩ := hl.at_ hlt
        have Hx := Lib.hid hx
        have hxc2 : ∀ o, (w.alloc o).cell? (ad.add k) = some (.int .i64 x) := fun o => ((Keeps.refl _).alloc o) _ _ hxc
        clear hx hxc
        by_cases hok : 1 ≤ x ∧ x ≤ 16
        · obtain ⟨h5, h6⟩ := hok
          go_wp2
          exact ⟨⟨k + 1, by omega, by go_num, all_take (p := fun x => 1 ≤ x ∧ x ≤ 16) Ht.out Hx.out ⟨h5, h6⟩⟩, by simp [intOf]; omega⟩
        · have hf := Lib.hid (checkB_no_at (me := me) Hx.out hok)
          have hok' : x < 1 ∨ 1 ≤ x ∧ 16 < x := by omega
          clear hok
          rcases hok' with h5 | ⟨h5, h6⟩
          all_goals
            go_wp2
            go_ret
            exact ⟨by rw [hf.out]; rfl, (Below.refl _ _).alloc (Nat.le_refl _) _⟩
      · go_wp2
        go_ret
        obtain rfl : k = n := by omega
        have := Ht.out
        rw [List.take_of_length_le (by rw [hl.len]; omega)] at this
        exact ⟨by rw [checkB_yes (by rw [hl.len]; omega) (by rw [hl.len]; omega) h3 h4 this]; rfl, (Below.refl _ _).alloc (Nat.le_refl _) _⟩
  · have hf := Lib.hid (checkB_no (cs := cs) (me := me) (by rw [hl.len]; exact h))
    have h' : n < 1 ∨ (1 ≤ n ∧ 4 < n) ∨ (1 ≤ n ∧ n ≤ 4 ∧ me < 0) ∨ (1 ≤ n ∧ n ≤ 4 ∧ 0 ≤ me ∧ 2 < me) := by omega
    clear h
    rcases h' with h | ⟨h1, h⟩ | ⟨h1, h2, h⟩ | ⟨h1, h2, h3, h⟩
    all_goals
      go_enter Try.func8, Try.ntmps8
      go_wp2
      go_ret
      exact ⟨by rw [hf.out]; rfl, (Below.refl _ _).alloc (Nat.le_refl _) _⟩
set_option maxHeartbeats 2000000 in
theorem rRight_any (A B D : Option Addr) (n c nk ck nm cm : Nat) (cs : List Int) (me : Int) (r : Fact) (w : World) (hl : Nums .i64 w A n cs) (hk : Nums .i64 w B nk r.key) (hM : Nums .i64 w D nm r.m)
    (hn : n ≤ 4611686018427387904) (hn2 : nk ≤ 4611686018427387904) (_hn3 : nm ≤ 4611686018427387904) (hm : inK .i64 me) :
    Calls Try.prog 10 #[.agg #[.slice A n c, .int .i64 me], .agg #[.slice B nk ck, .slice D nm cm]] w fun e w' => e = .returned (.bool (rightB cs me r)) ∧ Below w.heap.size w w' := by
  obtain ⟨hm1, hm2⟩ := hm
  by_cases h : nk = n
  · subst h
    by_cases h : (nm : Int) = me
    · subst h
      go_enter Try.func10, Try.ntmps10
      go_wp2
      go_loopw [5] (fun i wr => ∃ k : Nat, k ≤ nk ∧ i = .int .i64 k ∧ (∀ j c v, j < k → cs[j]? = some c → r.key[j]? = some v → 0 ≤ v ∧ v < c) ∧ ∃ q, wr = World.drewN ((w.alloc (.cells #[.slice A nk c, .int .i64 nm] 24)).alloc (.cells #[.slice B nk ck, .slice D nm cm] 33)) q) (fun i _ => nk - (intOf i).toNat)
      case atStart => exact ⟨0, by omega, rfl, by intros; omega, 0, rfl⟩
      case round =>
        obtain ⟨k, hkk, rfl, ht, q, rfl⟩ := hrel
        have Ht := Lib.hid ht
        clear ht
        by_cases hlt : k < nk
        · obtain ⟨ad, x, rfl, hx, ⟨hx1, hx2⟩, hxc⟩ := hl.at_ hlt
          obtain ⟨bd, y, rfl, hy, ⟨hy1, hy2⟩, hyc⟩ := hk.at_ hlt
          have Hx := Lib.hid hx
          have Hy := Lib.hid hy
          have hxc2 : ∀ o p, ((w.alloc o).alloc p).cell? (ad.add k) = some (.int .i64 x) := fun o p => (((Keeps.refl _).alloc o).alloc p) _ _ hxc
          have hyc2 : ∀ o p, ((w.alloc o).alloc p).cell? (bd.add k) = some (.int .i64 y) := fun o p => (((Keeps.refl _).alloc o).alloc p) _ _ hyc
          clear hx hxc hy hyc
          by_cases hok : 0 ≤ y ∧ y < x
          · have Hok := Lib.hid hok
            obtain ⟨h5, h6⟩ := hok
            go_wp2
            go_quiet (fail)
            go_wp2
            refine ⟨⟨k + 1, by omega, by go_num, fun j c' v' hj hc' hv' => ?_, _, rfl⟩, by simp [intOf]; omega⟩
            by_cases hjk : j < k
            · exact Ht.out j c' v' hjk hc' hv'
            · obtain rfl : j = k := by omega
              have e1 := Hx.out; have e2 := Hy.out; rw [e1] at hc'; rw [e2] at hv'
              injection hc' with hc'; injection hv' with hv'; subst hc' hv'
              exact Hok.out
          · have hf := Lib.hid (rightB_no_at (me := nm) Hx.out Hy.out hok)
            have hok' : y < 0 ∨ 0 ≤ y ∧ x ≤ y := by omega
            clear hok
            rcases hok' with h5 | ⟨h5, h6⟩
            all_goals
              go_wp2
              go_quiet (fail)
              go_wp2
              go_ret
              exact ⟨by rw [hf.out]; rfl, below_drewN (below_drewN (((Below.refl _ _).alloc (Nat.le_refl _) _).alloc (by simp) _) _) _⟩
        · go_wp2
          go_ret
          obtain rfl : k = nk := by omega
          exact ⟨by rw [rightB_yes (hk.len.trans hl.len.symm) (by rw [hM.len]) (fun j c v hj => Ht.out j c v (by rw [hk.len] at hj; exact hj))]; rfl, below_drewN (((Below.refl _ _).alloc (Nat.le_refl _) _).alloc (by simp) _) _⟩
    · have hf := Lib.hid (rightB_len (cs := cs) (me := me) (r := r) (by rw [hM.len]; omega))
      have hne : ((nm : Int) != me) = true := by rw [bne_iff_ne]; exact h
      clear h
      go_enter Try.func10, Try.ntmps10
      go_wp2
      go_ret
      exact ⟨by rw [hf.out]; rfl, ((Below.refl _ _).alloc (Nat.le_refl _) _).alloc (by simp) _⟩
  · have hf := Lib.hid (rightB_len (cs := cs) (me := me) (r := r) (by rw [hk.len, hl.len]; omega))
    have hne : ((nk : Int) != (n : Int)) = true := by rw [bne_iff_ne]; omega
    clear h
    go_enter Try.func10, Try.ntmps10
    go_wp2
    go_ret
    exact ⟨by rw [hf.out]; rfl, ((Below.refl _ _).alloc (Nat.le_refl _) _).alloc (by simp) _⟩
end Go.Proofs.Ytejjbbomkedpcaa
