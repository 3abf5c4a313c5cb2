/- Package match's restsOf. -/
import Derived.Test.YtnjalnnbdmmcmaaMat4
namespace Go.Proofs.Ytnjalnnbdmmcmaa
open Go.RowKit Go.Shelf
attribute [local go_sem] Oper.semAt_some
/-- What is filled from t on. -/
def fillL (M : List (List Int)) (N t : Nat) : List Int := (List.range N).map fun s => if s < t then 0 else restV M s
theorem fillL_len (M : List (List Int)) (N t : Nat) : (fillL M N t).length = N := by simp [fillL]
theorem fillL_at (M : List (List Int)) {N t s : Nat} (h : s < N) (ht : t ≤ s) : (fillL M N t)[s]? = some (restV M s) := by
  unfold fillL
  rw [List.getElem?_map, List.getElem?_range h]
  simp; omega
theorem fillL_set (M : List (List Int)) {N s : Nat} : (fillL M N (s + 1)).set s (restV M s) = fillL M N s := by
  apply List.ext_getElem
  · simp [fillL]
  · intro i h1 h2
    simp only [fillL, List.getElem_set, List.getElem_map, List.getElem_range]
    by_cases h : s = i
    · subst h; simp
    · by_cases h3 : i < s
      · rw [if_neg h, if_pos (by omega), if_pos h3]
      · rw [if_neg h, if_neg (by omega), if_neg h3]
theorem fillL_skip (M : List (List Int)) {N s : Nat} (h : restV M s = 0) : fillL M N (s + 1) = fillL M N s := by
  unfold fillL
  apply List.map_congr_left
  intro i _
  by_cases h1 : i < s
  · rw [if_pos (by omega), if_pos h1]
  · by_cases h2 : i = s
    · subst h2; rw [if_pos (by omega), if_neg (by omega), h]
    · rw [if_neg (by omega), if_neg h1]
theorem fillL_all (M : List (List Int)) (N : Nat) : fillL M N N = List.replicate N 0 := by
  apply List.ext_getElem
  · simp [fillL]
  · intro i h1 h2
    simp only [fillL, List.getElem_map, List.getElem_range, List.getElem_replicate]
    rw [if_pos (by simpa [fillL] using h1)]
theorem fillL_zero (M : List (List Int)) {N t s : Nat} (h : s < N) (ht : s < t) : (fillL M N t)[s]? = some 0 := by
  unfold fillL
  rw [List.getElem?_map, List.getElem?_range h]
  simp; omega
theorem box3 (w : World) (t1 t2 t3 : TypeId) (v1 v2 v3 : Value) : (((w.alloc (.cells #[v1] t1)).alloc (.cells #[v2] t2)).alloc (.cells #[v3] t3)).cell? ⟨w.heap.size, 0, none⟩ = some v1 ∧
    (((w.alloc (.cells #[v1] t1)).alloc (.cells #[v2] t2)).alloc (.cells #[v3] t3)).cell? ⟨w.heap.size + 1, 0, none⟩ = some v2 ∧ (((w.alloc (.cells #[v1] t1)).alloc (.cells #[v2] t2)).alloc (.cells #[v3] t3)).cell? ⟨w.heap.size + 2, 0, none⟩ = some v3 := by
  refine ⟨(((Boxed.new w t1 v1).alloc _).alloc _).cell, ?_, ?_⟩
  · have := ((Boxed.new (w.alloc (.cells #[v1] t1)) t2 v2).alloc (.cells #[v3] t3)).cell
    rwa [World.size_alloc] at this
  · have := (Boxed.new ((w.alloc (.cells #[v1] t1)).alloc (.cells #[v2] t2)) t3 v3).cell
    rwa [World.size_alloc, World.size_alloc] at this
/-- The rests of all sets of columns. -/
def restL (M : List (List Int)) : List Int := fillL M (2 ^ wid M) 0
/-- Costs that may be, as numbers. -/
theorem okM_spec {M : List (List Int)} (h : okM M = true) : wid M ≤ 12 ∧ M.length ≤ wid M ∧ ∀ r ∈ M, r.length = wid M ∧ ∀ x ∈ r, 0 ≤ x ∧ x ≤ 1000000 := by
  unfold okM at h
  simp only [Bool.and_eq_true, decide_eq_true_eq, List.all_eq_true] at h
  obtain ⟨h1, h2, h3⟩ := h
  refine ⟨h1, h2, fun r hr => ?_⟩
  have := h3 r hr
  unfold okRow at this
  simp only [Bool.and_eq_true, decide_eq_true_eq, List.all_eq_true] at this
  refine ⟨this.1, fun x hx => ?_⟩
  have := this.2 x hx
  unfold okC at this
  simpa using this
theorem or_gt {s k m : Nat} (h : k ∈ free m s) (hs : s < 2 ^ m) : s < s ||| 2 ^ k ∧ s ||| 2 ^ k < 2 ^ m := by
  obtain ⟨h1, h2⟩ := mem_free.1 h
  refine ⟨?_, Nat.or_lt_two_pow hs (Nat.pow_lt_pow_right (by omega) h1)⟩
  have a : s ≤ s ||| 2 ^ k := Nat.left_le_or
  have b : s ≠ s ||| 2 ^ k := fun e => by
    have := or_bit s k k
    rw [← e, h2] at this
    simp at this
  omega
theorem pcN_le (s : Nat) : pcN s ≤ 12 := by
  unfold pcN
  exact Nat.le_trans List.countP_le_length (by simp)
set_option maxRecDepth 100000 in
set_option maxHeartbeats 4000000 in
theorem restsOf_any (A : Option Addr) (n c : Nat) (M : List (List Int)) (w : World) (hM : Mat w A n M) (hok : okM M = true) :
    Calls Try.prog 9 #[.slice A n c] w fun e w' => ∃ G, e = .returned (.slice (some ⟨G, 0, none⟩) (2 ^ wid M) (2 ^ wid M)) ∧ Arr .i64 3 w' G (restL M) ∧ w.heap.size ≤ G ∧ Below w.heap.size w w' := by
  obtain ⟨k1, k2, k3⟩ := okM_spec hok
  have HW := Lib.hid (width_any A n c M w hM)
  have HK := Lib.hid k3
  have hlen := hM.1
  have HM := Lib.hid hM
  unfold restL
  obtain ⟨m, hm⟩ : ∃ m, m = wid M := ⟨_, rfl⟩
  rw [← hm] at k1 k2 HW HK ⊢
  rw [hlen] at k2
  obtain ⟨N, hN⟩ : ∃ N, N = 2 ^ m := ⟨_, rfl⟩
  have n1 : 1 ≤ N := by rw [hN]; exact Nat.one_le_two_pow
  have n2 : N ≤ 4096 := by
    rw [hN]
    have : 2 ^ m ≤ 2 ^ 12 := Nat.pow_le_pow_right (by omega) k1
    omega
  have hsh : wrap64 (2 ^ m) = (N : Int) := by rw [pow_wrap m (by omega), hN]
  rw [← hN]
  obtain ⟨i0, hi, hz0, hz1, hz2⟩ := info_parts infoI
  have hmk := make_ints (P := Try.prog) 30 3 i0 Try.underlying30 hi hz0 hz1 hz2 N (by omega) w
  have HMK := Lib.hid hmk
  have harr := Arr.made w 3 N
  rw [← fillL_all M N] at harr
  have hb2 : Below w.heap.size w (w.alloc (.cells (madeCells #[.int .i64 0] N) 3)) := (Below.refl _ w).alloc (Nat.le_refl _) _
  obtain ⟨w2, hw2⟩ : ∃ w2, w2 = w.alloc (.cells (madeCells #[.int .i64 0] N) 3) := ⟨_, rfl⟩
  rw [← hw2] at hmk harr hb2
  obtain ⟨G, hG⟩ : ∃ G, G = w.heap.size := ⟨_, rfl⟩
  rw [← hG] at hmk harr
  have hGw : w.heap.size ≤ G := by omega
  have Harr := Lib.hid harr
  have Hb2 := Lib.hid hb2
  have HNp := Lib.hid hN
  have HL := Lib.hid hlen
  clear hw2 harr hb2 hG HMK i0 hi hz0 hz1 hz2 hN hm hlen hM k3 hok
  go_enter Try.func9, Try.ntmps9
  go_wp2_with fail
  refine HW.out.mono ?_
  rintro e w' ⟨rfl, rfl⟩
  go_wp2
  rw [hsh]
  go_loopw [4] (fun p wr => ∃ t : Nat, p = .int .i64 ((t : Int) - 1) ∧ t ≤ N ∧ Arr .i64 3 wr G (fillL M N t) ∧ Below w.heap.size w wr) (fun p _ => (intOf p + 1).toNat)
  case atStart => exact ⟨N, rfl, Nat.le_refl _, Harr.out, Hb2.out⟩
  case round =>
    obtain ⟨t, rfl, ht, harr, hb⟩ := hrel
    rename World => wr
    have HA := Lib.hid harr
    have HB := Lib.hid hb
    have hGl := harr.lt
    clear harr hb
    cases t with
    | zero =>
      have hneg : ¬ (0 ≤ (((0 : Nat) : Int) - 1)) := by omega
      go_wp2
      go_ret
      exact ⟨G, rfl, HA.out, hGw, HB.out⟩
    | succ s =>
      rw [show (((s + 1 : Nat) : Int) - 1) = (s : Int) by omega]
      have hs0 : (0 : Int) ≤ (s : Int) := by omega
      have hNX := Lib.hid (next_any s wr (by omega))
      have hpc := pcN_le s
      by_cases hrow : pcN s < n
      · obtain ⟨ad, r, B, d, rfl, hr, hcx, hnr⟩ := (HM.out.keep (Keeps.of_below HB.out)).at_ hrow
        obtain ⟨rl, rb⟩ := HK.out r (List.mem_of_getElem? hr)
        have hrv := restV_row hr (by omega)
        rw [rl] at hrv hcx hnr
        have hd : decide (((pcN s : Nat) : Int) < (n : Int)) = true := decide_eq_true (by omega)
        have hsN : s < N := by omega
        have HF := Lib.hid (offers_any (.slice (some ⟨G, 0, none⟩) N N) (.slice B m d) (s : Int) ⟨⟨_, _, _, rfl⟩, ⟨_, _, _, rfl⟩⟩ wr)
        have hbO : Below wr.heap.size wr (((wr.alloc (.cells #[.slice (some ⟨G, 0, none⟩) N N] 30)).alloc (.cells #[.slice B m d] 22)).alloc (.cells #[.int .i64 (s : Int)] 40)) := (((Below.refl _ wr).alloc (Nat.le_refl _) _).alloc (by simp) _).alloc (by simp; omega) _
        have hO : Off (((wr.alloc (.cells #[.slice (some ⟨G, 0, none⟩) N N] 30)).alloc (.cells #[.slice B m d] 22)).alloc (.cells #[.int .i64 (s : Int)] 40)) (wr.heap.size + 1) (wr.heap.size + 2) wr.heap.size G N m s r (fun k => restV M (s ||| 2 ^ k)) := by
          have kO := Keeps.of_below hbO
          obtain ⟨x3, x1, x2⟩ := box3 wr 30 22 40 (.slice (some ⟨G, 0, none⟩) N N) (.slice B m d) (.int .i64 (s : Int))
          refine ⟨⟨B, d, x1, hnr.keep kO⟩, x2, x3, fun k hk => ?_⟩
          obtain ⟨o1, o2⟩ := or_gt hk (by rw [← HNp.out]; exact hsN)
          rw [← HNp.out] at o2
          have hv := restV_in M (s ||| 2 ^ k) (fun r hr => (HK.out r hr).2) (by rw [HL.out]; omega)
          exact ⟨o2, kO _ _ (HA.out.cell (fillL_at M o2 (by omega))), hv⟩
        have HLE := Lib.hid (least_any _ _ _ G N m s r _ k1 (by omega) rb _ hO)
        obtain ⟨w4, hw4⟩ : ∃ w4, w4 = ((wr.alloc (.cells #[.slice (some ⟨G, 0, none⟩) N N] 30)).alloc (.cells #[.slice B m d] 22)).alloc (.cells #[.int .i64 (s : Int)] 40) := ⟨_, rfl⟩
        rw [← hw4] at HF HLE hbO
        have HBO := Lib.hid hbO
        obtain ⟨g0, hg0⟩ : ∃ g0, g0 = wr.heap.size := ⟨_, rfl⟩
        rw [← hg0] at HF HLE
        obtain ⟨v, hv⟩ : ∃ v, v = restV M s := ⟨_, rfl⟩
        have hve : leastI ((free m s).map (valK r fun k => restV M (s ||| 2 ^ k))) = v := by rw [hv, hrv]; rfl
        rw [hve] at HLE
        have HV := Lib.hid hv
        clear hr rb hrv hnr hO hw4 hbO hg0 hv hve rl
        go_wp2_with fail
        refine hNX.out.mono ?_
        rintro e w' ⟨rfl, rfl⟩
        go_wp2_with fail
        refine HF.out.mono ?_
        rintro e w' ⟨rfl, rfl⟩
        go_wp2_with fail
        refine HLE.out.mono ?_
        rintro e w5 ⟨rfl, hb5⟩
        have hb6 : Below wr.heap.size wr w5 := HBO.out.trans (hb5.mono HBO.out.size)
        have ha5 := HA.out.below hb6 hGl
        have HA5 := Lib.hid ha5
        have hc5 := ha5.cell (fillL_zero M hsN (show s < s + 1 by omega))
        have hfz := ha5.frozen s
        clear hb5 ha5
        have hb7 := HB.out.trans (hb6.mono HB.out.size)
        have HB7 := Lib.hid hb7
        have hsNz : (s : Int) < (N : Int) := by omega
        clear hb6 hb7
        go_wp2
        go_roundw
        case rel => exact ⟨s, rfl, by omega, by rw [← fillL_set, ← HV.out]; exact HA5.out.set_ _ _, HB7.out.setCell hGw _⟩
        case measure => simp [intOf]
      · have hd : decide (((pcN s : Nat) : Int) < (n : Int)) = false := decide_eq_false (by omega)
        have hz := fillL_skip M (N := N) (restV_none (M := M) (s := s) (by rw [HL.out]; omega))
        have HZ := Lib.hid hz
        clear hz
        go_wp2_with fail
        refine hNX.out.mono ?_
        rintro e w' ⟨rfl, rfl⟩
        go_wp2
        go_roundw
        case rel => exact ⟨s, rfl, by omega, by rw [← HZ.out]; exact HA.out, HB.out⟩
        case measure => simp [intOf]
end Go.Proofs.Ytnjalnnbdmmcmaa
