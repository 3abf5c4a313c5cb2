/- Walks of package rec: lists of numbers are taken off bytes. -/
import Derived.Test.YtejjbbomkedpcaaRec6
namespace Go.Proofs.Ytejjbbomkedpcaa
open Go.RowKit
theorem infoInt : (Try.prog.info? 3).map (fun i => (i.zero, i.size, i.bytes)) = some (some (.int .i64 0), 1, 8) := by kernel_rfl

set_option maxHeartbeats 1000000 in
theorem takeAll64 (ad : Addr) (n c cnt : Nat) (xs : List Int) (w : World) (hx : Nums .u8 w (some ad) n xs) (h1 : 8 * cnt ≤ n) (hc : n ≤ c) (hbs : c ≤ 9223372036854775807) (hcnt : cnt ≤ 1000000) :
    Calls Try.prog 20 #[.slice (some ad) n c, .int .i64 cnt] w (TakeAllPost ad 8 cnt n c xs (chunks wrap64 8 cnt xs) w) := by
  obtain ⟨i0, hi, hz0, hz1, hz2⟩ := info_parts infoInt
  have hmk := make_ints (P := Try.prog) 22 3 i0 Try.underlying22 hi hz0 hz1 hz2 cnt (by omega) w
  obtain ⟨w1, hw1⟩ : ∃ w1, w1 = w.alloc (.cells (madeCells #[.int .i64 0] cnt) 3) := ⟨_, rfl⟩
  have harr := Arr.made w 3 cnt
  have hb1 := (Below.refl w.heap.size w).alloc (Nat.le_refl _) (.cells (madeCells #[.int .i64 0] cnt) 3)
  rw [← hw1] at hmk harr hb1
  have Harr := Lib.hid harr
  have Hb1 := Lib.hid hb1
  clear hw1 i0 hi hz0 hz1 hz2 harr hb1
  go_enter Try.func20, Try.ntmps20
  go_wp2
  go_loopw [0, 7, 12] (fun b _ i wr => ∃ k A, k ≤ cnt ∧ i = .int .i64 (k : Nat) ∧ b = .slice (some A) (n - 8 * k) (c - 8 * k) ∧ Tail ad A n (8 * k) xs ∧ Arr .i64 3 wr w.heap.size (chunked wrap64 8 cnt k xs) ∧ Below w.heap.size w wr) (fun _ _ i _ => cnt - (intOf i).toNat)
  case atStart => exact ⟨0, ad, by omega, rfl, rfl, Tail.zero _ _ _, by rw [chunked_0]; exact Harr.out, Hb1.out⟩
  case round =>
    obtain ⟨k, A, hk, rfl, rfl, hn, harr, hb⟩ := hrel
    have Hn := Lib.hid hn
    have Hr := Lib.hid harr
    have Hb := Lib.hid hb
    clear hn harr hb
    by_cases hlt : k < cnt
    · have hcell := Hr.out.cell (chunked_at hlt)
      have hfz := Hr.out.frozen k
      go_wp2_with fail
      refine (take64 A (n - 8 * k) (c - 8 * k) _ wr (Hn.out _ (hx.keep (Keeps.of_below Hb.out))) (by omega) (by omega) (by omega)).mono ?_
      rintro e w2 ⟨A2, rfl, hn2, q, rfl⟩
      have Hn2 := Lib.hid hn2
      clear hn2
      go_wp2
      refine ⟨⟨k + 1, A2, by omega, by go_num, ?_, ?_, ?_, ?_⟩, by simp [intOf]; omega⟩
      · rw [show n - 8 * k - 8 = n - 8 * (k + 1) from by omega, show c - 8 * k - 8 = c - 8 * (k + 1) from by omega]
      · rw [show 8 * (k + 1) = 8 * k + 8 from by omega]
        exact Hn.out.trans Hn2.out
      · rw [← chunked_set hlt]
        exact (Hr.out.drewN q).set_ _ _
      · exact below_setCell (below_drewN Hb.out q) (Nat.le_refl _) _ _
    · go_wp2
      obtain rfl : k = cnt := by omega
      go_ret2
      exact ⟨_, _, rfl, by rw [← chunked_end]; exact Hr.out, Nat.le_refl _, Hn.out, Hb.out⟩

set_option maxHeartbeats 1000000 in
theorem takeAll8 (ad : Addr) (n c cnt : Nat) (xs : List Int) (w : World) (hx : Nums .u8 w (some ad) n xs) (h1 : 1 * cnt ≤ n) (hc : n ≤ c) (hbs : c ≤ 9223372036854775807) (hcnt : cnt ≤ 1000000) :
    Calls Try.prog 19 #[.slice (some ad) n c, .int .i64 cnt] w (TakeAllPost ad 1 cnt n c xs (chunks id 1 cnt xs) w) := by
  obtain ⟨i0, hi, hz0, hz1, hz2⟩ := info_parts infoInt
  have hmk := make_ints (P := Try.prog) 22 3 i0 Try.underlying22 hi hz0 hz1 hz2 cnt (by omega) w
  obtain ⟨w1, hw1⟩ : ∃ w1, w1 = w.alloc (.cells (madeCells #[.int .i64 0] cnt) 3) := ⟨_, rfl⟩
  have harr := Arr.made w 3 cnt
  have hb1 := (Below.refl w.heap.size w).alloc (Nat.le_refl _) (.cells (madeCells #[.int .i64 0] cnt) 3)
  rw [← hw1] at hmk harr hb1
  have Harr := Lib.hid harr
  have Hb1 := Lib.hid hb1
  clear hw1 i0 hi hz0 hz1 hz2 harr hb1
  go_enter Try.func19, Try.ntmps19
  go_wp2
  go_loopw [0, 7, 12] (fun b _ i wr => ∃ k A, k ≤ cnt ∧ i = .int .i64 (k : Nat) ∧ b = .slice (some A) (n - k) (c - k) ∧ Tail ad A n k xs ∧ Arr .i64 3 wr w.heap.size (chunked id 1 cnt k xs) ∧ Below w.heap.size w wr) (fun _ _ i _ => cnt - (intOf i).toNat)
  case atStart => exact ⟨0, ad, by omega, rfl, rfl, Tail.zero _ _ _, by rw [chunked_0]; exact Harr.out, Hb1.out⟩
  case round =>
    obtain ⟨k, A, hk, rfl, rfl, hn, harr, hb⟩ := hrel
    have Hn := Lib.hid hn
    have Hr := Lib.hid harr
    have Hb := Lib.hid hb
    clear hn harr hb
    by_cases hlt : k < cnt
    · have hcell := Hr.out.cell (chunked_at hlt)
      have hfz := Hr.out.frozen k
      go_wp2_with fail
      refine (take8 A (n - k) (c - k) _ wr (Hn.out _ (hx.keep (Keeps.of_below Hb.out))) (by omega) (by omega) (by omega)).mono ?_
      rintro e w2 ⟨A2, rfl, hn2, q, rfl⟩
      have Hn2 := Lib.hid hn2
      clear hn2
      go_wp2
      refine ⟨⟨k + 1, A2, by omega, by go_num, ?_, ?_, ?_, ?_⟩, by simp [intOf]; omega⟩
      · rw [show n - k - 1 = n - (k + 1) from by omega, show c - k - 1 = c - (k + 1) from by omega]
      · exact Hn.out.trans Hn2.out
      · rw [← chunked_set hlt, Nat.one_mul]
        exact (Hr.out.drewN q).set_ _ _
      · exact below_setCell (below_drewN Hb.out q) (Nat.le_refl _) _ _
    · go_wp2
      obtain rfl : k = cnt := by omega
      go_ret2
      exact ⟨_, _, by rw [Nat.one_mul]; rfl, by rw [← chunked_end]; exact Hr.out, Nat.le_refl _, by rw [Nat.one_mul]; exact Hn.out, Hb.out⟩
end Go.Proofs.Ytejjbbomkedpcaa
