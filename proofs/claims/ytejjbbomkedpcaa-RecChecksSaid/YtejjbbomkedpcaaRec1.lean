/- Walks of package rec: Check, Right, sumsFit return what the plain functions give; what was there stays. -/
import Derived.Test.YtejjbbomkedpcaaProg
import Derived.Test.YtejjbbomkedpcaaPure
namespace Go.Proofs.Ytejjbbomkedpcaa
open Go.RowKit
set_option maxHeartbeats 1000000 in
theorem sumsFit_any (A : Option Addr) (n c : Nat) (l : List Fact) (m : Int) (w : World) (hl : Facts w A n l) (hn : n ≤ 4611686018427387904) (hm : 0 ≤ m) (hr : ∀ r ∈ l, m < r.m.length) :
    Calls Try.prog 26 #[.slice A n c, .int .i64 m] w fun e w' => e = .returned (.bool (fitsB (col l m.toNat))) ∧ Below w.heap.size w w' := by
  obtain ⟨m, rfl⟩ := Int.eq_ofNat_of_zero_le hm
  simp only [Int.toNat_natCast]
  go_enter Try.func26, Try.ntmps26
  go_wp2
  go_loopw [5, 6, 13] (fun a b i wr => ∃ k : Nat, k ≤ n ∧ i = .int .i64 k ∧ ∃ up down : Int, a = .int .i64 up ∧ b = .int .i64 down ∧ 0 ≤ up ∧ up ≤ 9223372036854775807 ∧ -9223372036854775808 ≤ down ∧ down ≤ 0 ∧ up = upS ((col l m).take k) ∧ down = dnS ((col l m).take k) ∧ Below w.heap.size w wr) (fun _ _ i _ => n - (intOf i).toNat)
  case atStart => exact ⟨0, by omega, rfl, _, _, rfl, rfl, by omega, by omega, by omega, by omega, rfl, rfl, Below.refl _ _⟩
  case round =>
    obtain ⟨k, hk, rfl, up, down, rfl, rfl, b1, b2, b3, b4, e1, e2, hb⟩ := hrel
    have E1 := Lib.hid e1
    have E2 := Lib.hid e2
    clear e1 e2
    by_cases hlt : k < n
    · obtain ⟨ad, r, rfl, hrk, hrow⟩ := (hl.keep (Keeps.of_below hb)).at_ hlt
      have hmr := hr r (List.mem_of_getElem? hrk)
      clear hr
      obtain ⟨A1, c1, B1, d1, h1, h2, h3, h4⟩ := hrow
      obtain ⟨md, x, rfl, hx, ⟨hx1, hx2⟩, hxc⟩ := h4.at_ (k := m) (by omega)
      have Hu := Lib.hid (upS_snoc (col_at hrk hx))
      have Hd := Lib.hid (dnS_snoc (col_at hrk hx))
      clear hx hrk
      have hxc2 : ∀ o, (wr.alloc o).cell? (md.add m) = some (.int .i64 x) := fun o => ((Keeps.refl _).alloc o) _ _ hxc
      clear hl h3 h4 hxc
      have hx3 : x < 0 ∨ x = 0 ∨ 0 < x := by omega
      rcases hx3 with hp | rfl | hp
      all_goals
        go_wp2
        go_quiet (fail)
        go_wp2
        all_goals first
          | exact ⟨⟨k + 1, by omega, by go_num, _, _, rfl, rfl, by omega, by omega, by omega, by omega, by rw [Hu.out, ← E1.out]; omega, by rw [Hd.out, ← E2.out]; omega, below_drewN (hb.alloc hb.size _) _⟩, by simp [intOf]; omega⟩
          | (go_ret
             refine ⟨?_, below_drewN (hb.alloc hb.size _) _⟩
             first
               | (rw [fitsB_up (k + 1) (by rw [Hu.out, ← E1.out]; omega)]; rfl)
               | (rw [fitsB_dn (k + 1) (by rw [Hd.out, ← E2.out]; omega)]; rfl))
    · go_wp2
      go_ret
      obtain rfl : k = n := by omega
      rw [List.take_of_length_le (by rw [col_len]; exact Nat.le_of_eq hl.1)] at E1 E2
      refine ⟨?_, hb⟩
      rw [fitsB_yes (E1.out ▸ b2) (E2.out ▸ b3)]
      rfl
set_option maxHeartbeats 1000000 in
theorem Check_any (A : Option Addr) (n c : Nat) (cs : List Int) (me : Int) (w : World) (hl : Nums .i64 w A n cs) (hn : n ≤ 4611686018427387904) (hm : inK .i64 me) :
    Calls Try.prog 7 #[.agg #[.slice A n c, .int .i64 me]] w fun e w' => e = .returned (.bool (checkB cs me)) ∧ Below w.heap.size w w' := by
  obtain ⟨hm1, hm2⟩ := hm
  by_cases h : 1 ≤ n ∧ n ≤ 4 ∧ 0 ≤ me ∧ me ≤ 2
  · obtain ⟨h1, h2, h3, h4⟩ := h
    go_enter Try.func7, Try.ntmps7
    go_wp2
    go_loop [4, 19] (fun _ i => ∃ k : Nat, k ≤ n ∧ i = .int .i64 k ∧ ∀ x ∈ cs.take k, 1 ≤ x ∧ x ≤ 16) (fun _ i => n - (intOf i).toNat)
    case atStart => exact ⟨0, by omega, rfl, by simp⟩
    case round =>
      obtain ⟨k, hk, rfl, ht⟩ := hrel
      have Ht := Lib.hid ht
      clear ht
      by_cases hlt : k < n
      · obtain ⟨ad, x, rfl, hx, ⟨hx1, hx2⟩, hxc⟩ := hl.at_ hlt
        have Hx := Lib.hid hx
        have hxc2 : ∀ o, (w.alloc o).cell? (ad.add k) = some (.int .i64 x) := fun o => ((Keeps.refl _).alloc o) _ _ hxc
        clear hx hxc
        by_cases hok : 1 ≤ x ∧ x ≤ 16
        · obtain ⟨h5, h6⟩ := hok
          go_wp2
          exact ⟨⟨k + 1, by omega, by go_num, all_take (p := fun x => 1 ≤ x ∧ x ≤ 16) Ht.out Hx.out ⟨h5, h6⟩⟩, by simp [intOf]; omega⟩
        · have hf := Lib.hid (checkB_no_at (me := me) Hx.out hok)
          have hok' : x < 1 ∨ 16 < x := by omega
          clear hok
          rcases hok' with h5 | h5
          · go_wp2
            go_ret
            exact ⟨by rw [hf.out]; rfl, (Below.refl _ _).alloc (Nat.le_refl _) _⟩
          · have hd : decide (x ≤ 16) = false := by simp; omega
            go_wp2
            go_ret
            exact ⟨by rw [hf.out]; rfl, (Below.refl _ _).alloc (Nat.le_refl _) _⟩
      · go_wp2
        go_ret
        obtain rfl : k = n := by omega
        have := Ht.out
        rw [List.take_of_length_le (by rw [hl.len]; omega)] at this
        exact ⟨by rw [checkB_yes (by rw [hl.len]; omega) (by rw [hl.len]; omega) h3 h4 this]; rfl, (Below.refl _ _).alloc (Nat.le_refl _) _⟩
  · have hf := Lib.hid (checkB_no (cs := cs) (me := me) (by rw [hl.len]; exact h))
    have h' : n < 1 ∨ 4 < n ∨ (1 ≤ n ∧ n ≤ 4 ∧ me < 0) ∨ (1 ≤ n ∧ n ≤ 4 ∧ 2 < me) := by omega
    clear h
    have hd : 2 < me → decide (me ≤ 2) = false := fun h => by simp; omega
    have hd2 : 4 < n → decide ((n : Int) ≤ 4) = false := fun h => by simp; omega
    rcases h' with h | h | ⟨h1, h2, h⟩ | ⟨h1, h2, h⟩
    all_goals
      first | have hd := hd h | have hd := hd2 h | skip
      go_enter Try.func7, Try.ntmps7
      go_wp2
      go_ret
      exact ⟨by rw [hf.out]; rfl, (Below.refl _ _).alloc (Nat.le_refl _) _⟩

set_option maxHeartbeats 1000000 in
theorem Right_any (A B D : Option Addr) (n c nk ck nm cm : Nat) (cs : List Int) (me : Int) (r : Fact) (w : World) (hl : Nums .i64 w A n cs) (hk : Nums .i64 w B nk r.key) (hM : Nums .i64 w D nm r.m)
    (hn : n ≤ 4611686018427387904) (hn2 : nk ≤ 4611686018427387904) (_hn3 : nm ≤ 4611686018427387904) (hm : inK .i64 me) :
    Calls Try.prog 9 #[.agg #[.slice A n c, .int .i64 me], .agg #[.slice B nk ck, .slice D nm cm]] w fun e w' => e = .returned (.bool (rightB cs me r)) ∧ Below w.heap.size w w' := by
  obtain ⟨hm1, hm2⟩ := hm
  by_cases h : nk = n
  · subst h
    by_cases h : (nm : Int) = me
    · subst h
      go_enter Try.func9, Try.ntmps9
      go_wp2
      go_loop [5, 6, 25] (fun _ _ i => ∃ k : Nat, k ≤ nk ∧ i = .int .i64 k ∧ ∀ j c v, j < k → cs[j]? = some c → r.key[j]? = some v → 0 ≤ v ∧ v < c) (fun _ _ i => nk - (intOf i).toNat)
      case atStart => exact ⟨0, by omega, rfl, by intros; omega⟩
      case round =>
        obtain ⟨k, hkk, rfl, ht⟩ := hrel
        have Ht := Lib.hid ht
        clear ht
        by_cases hlt : k < nk
        · obtain ⟨ad, x, rfl, hx, ⟨hx1, hx2⟩, hxc⟩ := hl.at_ hlt
          obtain ⟨bd, y, rfl, hy, ⟨hy1, hy2⟩, hyc⟩ := hk.at_ hlt
          have Hx := Lib.hid hx
          have Hy := Lib.hid hy
          have hxc2 : ∀ o p, ((w.alloc o).alloc p).cell? (ad.add k) = some (.int .i64 x) := fun o p => (((Keeps.refl _).alloc o).alloc p) _ _ hxc
          have hyc2 : ∀ o p, ((w.alloc o).alloc p).cell? (bd.add k) = some (.int .i64 y) := fun o p => (((Keeps.refl _).alloc o).alloc p) _ _ hyc
          clear hx hxc hy hyc
          by_cases hok : 0 ≤ y ∧ y < x
          · have Hok := Lib.hid hok
            obtain ⟨h5, h6⟩ := hok
            go_wp2
            refine ⟨⟨k + 1, by omega, by go_num, fun j c' v' hj hc' hv' => ?_⟩, by simp [intOf]; omega⟩
            by_cases hjk : j < k
            · exact Ht.out j c' v' hjk hc' hv'
            · obtain rfl : j = k := by omega
              have e1 := Hx.out; have e2 := Hy.out; rw [e1] at hc'; rw [e2] at hv'
              injection hc' with hc'; injection hv' with hv'; subst hc' hv'
              exact Hok.out
          · have hf := Lib.hid (rightB_no_at (me := nm) Hx.out Hy.out hok)
            have hok' : y < 0 ∨ 0 ≤ y ∧ x ≤ y := by omega
            clear hok
            rcases hok' with h5 | ⟨h5, h6⟩
            all_goals
              go_wp2
              go_ret
              exact ⟨by rw [hf.out]; rfl, ((Below.refl _ _).alloc (Nat.le_refl _) _).alloc (by simp) _⟩
        · go_wp2
          go_ret
          obtain rfl : k = nk := by omega
          exact ⟨by rw [rightB_yes (hk.len.trans hl.len.symm) (by rw [hM.len]) (fun j c v hj => Ht.out j c v (by rw [hk.len] at hj; exact hj))]; rfl, ((Below.refl _ _).alloc (Nat.le_refl _) _).alloc (by simp) _⟩
    · have hf := Lib.hid (rightB_len (cs := cs) (me := me) (r := r) (by rw [hM.len]; omega))
      have hne : ((nm : Int) != me) = true := by rw [bne_iff_ne]; exact h
      clear h
      go_enter Try.func9, Try.ntmps9
      go_wp2
      go_ret
      exact ⟨by rw [hf.out]; rfl, ((Below.refl _ _).alloc (Nat.le_refl _) _).alloc (by simp) _⟩
  · have hf := Lib.hid (rightB_len (cs := cs) (me := me) (r := r) (by rw [hk.len, hl.len]; omega))
    have hne : ((nk : Int) != (n : Int)) = true := by rw [bne_iff_ne]; omega
    clear h
    go_enter Try.func9, Try.ntmps9
    go_wp2
    go_ret
    exact ⟨by rw [hf.out]; rfl, ((Below.refl _ _).alloc (Nat.le_refl _) _).alloc (by simp) _⟩
end Go.Proofs.Ytejjbbomkedpcaa
