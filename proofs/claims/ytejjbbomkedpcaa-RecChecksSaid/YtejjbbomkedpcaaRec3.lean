/- Walks of package rec: numbers are laid into a row of bytes, the highest byte first. -/
import Derived.Test.YtejjbbomkedpcaaWidth
import Derived.Test.YtejjbbomkedpcaaPure
namespace Go.Proofs.Ytejjbbomkedpcaa
open Go.RowKit

set_option maxHeartbeats 1000000 in
theorem put64 (g off n : Nat) (bs : List Int) (x : Int) (w : World) (hB : Buf w g bs) (hn : off + n = bs.length) (h1 : 8 ≤ n) (_hx : 0 ≤ x) (_hx2 : x ≤ 18446744073709551615) (hbs : bs.length ≤ 4611686018427387904) :
    Calls Try.prog 35 #[.slice (some ⟨g, off, none⟩) n n, .int .u64 x] w (PutPost g off n bs (be 8 x) w) := by
  have Hn := Lib.hid hn
  have hle : off + n ≤ 4611686018427387904 := by omega
  clear hn hbs
  go_enter Try.func35, Try.ntmps35
  go_wp2_with (go_at_call 31; refine (width64 _).mono ?_; rintro e w1 ⟨rfl, rfl⟩)
  go_loopw [6, 11] (fun _ i wr => ∃ k : Nat, k ≤ 8 ∧ i = .int .i64 k ∧ Buf wr g (spl bs off ((be 8 x).take k)) ∧ Only g w wr) (fun _ i _ => 8 - (intOf i).toNat)
  case atStart => exact ⟨0, by omega, rfl, by rw [List.take_zero, spl_nil]; exact hB, Only.refl _ _⟩
  case round =>
    obtain ⟨k, hk, rfl, hbuf, hon⟩ := hrel
    by_cases hlt : k < 8
    · have hl : ((be 8 x).take k).length = k := by simp [be_len]; omega
      have hc := spl_some (bs := bs) (off := off) (ys := (be 8 x).take k) (by rw [hl]; have := Hn.out; omega)
      have hsn := spl_snoc (bs := bs) (off := off) (ys := (be 8 x).take k) (by rw [hl]; have := Hn.out; omega) (x / 2 ^ (8 * (8 - 1 - k)) % 256)
      rw [← be_take x hlt, hl] at hsn
      rw [hl] at hc
      obtain ⟨v, hv⟩ := hc
      have hcell := hbuf.cell hv
      have hfz := hbuf.frozen (off + k)
      have Hs := Lib.hid hsn
      have HB := Lib.hid hbuf
      clear hl hv hbuf hB hsn
      go_wp2
      exact ⟨⟨k + 1, by omega, by go_num, by rw [← Hs.out]; exact HB.out.set_ _ _, hon.setCell _ _⟩, by simp [intOf]; omega⟩
    · obtain rfl : k = 8 := by omega
      rw [List.take_of_length_le (by rw [be_len]; omega)] at hbuf
      have HB := Lib.hid hbuf
      clear hbuf
      by_cases h8 : n = 8
      · subst h8
        go_wp2
        go_ret
        exact ⟨_, rfl, ⟨_, by rw [be_len]; rfl, by rw [be_len]; omega⟩, HB.out, hon⟩
      · go_wp2
        go_ret
        exact ⟨_, rfl, ⟨_, by rw [be_len]; rfl, by rw [be_len]; intro; rfl⟩, HB.out, hon⟩

set_option maxHeartbeats 1000000 in
theorem put16 (g off n : Nat) (bs : List Int) (x : Int) (w : World) (hB : Buf w g bs) (hn : off + n = bs.length) (h1 : 2 ≤ n) (_hx : 0 ≤ x) (_hx2 : x ≤ 65535) (hbs : bs.length ≤ 4611686018427387904) :
    Calls Try.prog 34 #[.slice (some ⟨g, off, none⟩) n n, .int .u16 x] w (PutPost g off n bs (be 2 x) w) := by
  have Hn := Lib.hid hn
  have hle : off + n ≤ 4611686018427387904 := by omega
  clear hn hbs
  go_enter Try.func34, Try.ntmps34
  go_wp2_with (go_at_call 30; refine (width16 _).mono ?_; rintro e w1 ⟨rfl, rfl⟩)
  go_loopw [6, 11] (fun _ i wr => ∃ k : Nat, k ≤ 2 ∧ i = .int .i64 k ∧ Buf wr g (spl bs off ((be 2 x).take k)) ∧ Only g w wr) (fun _ i _ => 2 - (intOf i).toNat)
  case atStart => exact ⟨0, by omega, rfl, by rw [List.take_zero, spl_nil]; exact hB, Only.refl _ _⟩
  case round =>
    obtain ⟨k, hk, rfl, hbuf, hon⟩ := hrel
    by_cases hlt : k < 2
    · have hl : ((be 2 x).take k).length = k := by simp [be_len]; omega
      have hc := spl_some (bs := bs) (off := off) (ys := (be 2 x).take k) (by rw [hl]; have := Hn.out; omega)
      have hsn := spl_snoc (bs := bs) (off := off) (ys := (be 2 x).take k) (by rw [hl]; have := Hn.out; omega) (x / 2 ^ (8 * (2 - 1 - k)) % 256)
      rw [← be_take x hlt, hl] at hsn
      rw [hl] at hc
      obtain ⟨v, hv⟩ := hc
      have hcell := hbuf.cell hv
      have hfz := hbuf.frozen (off + k)
      have Hs := Lib.hid hsn
      have HB := Lib.hid hbuf
      clear hl hv hbuf hB hsn
      go_wp2
      exact ⟨⟨k + 1, by omega, by go_num, by rw [← Hs.out]; exact HB.out.set_ _ _, hon.setCell _ _⟩, by simp [intOf]; omega⟩
    · obtain rfl : k = 2 := by omega
      rw [List.take_of_length_le (by rw [be_len]; omega)] at hbuf
      have HB := Lib.hid hbuf
      clear hbuf
      by_cases h8 : n = 2
      · subst h8
        go_wp2
        go_ret
        exact ⟨_, rfl, ⟨_, by rw [be_len]; rfl, by rw [be_len]; omega⟩, HB.out, hon⟩
      · go_wp2
        go_ret
        exact ⟨_, rfl, ⟨_, by rw [be_len]; rfl, by rw [be_len]; intro; rfl⟩, HB.out, hon⟩

set_option maxHeartbeats 1000000 in
theorem put8 (g off n : Nat) (bs : List Int) (x : Int) (w : World) (hB : Buf w g bs) (hn : off + n = bs.length) (h1 : 1 ≤ n) (hx : 0 ≤ x) (hx2 : x ≤ 255) (hbs : bs.length ≤ 4611686018427387904) :
    Calls Try.prog 33 #[.slice (some ⟨g, off, none⟩) n n, .int .u8 x] w (PutPost g off n bs (be 1 x) w) := by
  have Hn := Lib.hid hn
  have hle : off + n ≤ 4611686018427387904 := by omega
  clear hn hbs
  go_enter Try.func33, Try.ntmps33
  go_wp2_with (go_at_call 29; refine (width8 _).mono ?_; rintro e w1 ⟨rfl, rfl⟩)
  go_loopw [6, 11] (fun _ i wr => ∃ k : Nat, k ≤ 1 ∧ i = .int .i64 k ∧ Buf wr g (spl bs off ((be 1 x).take k)) ∧ Only g w wr) (fun _ i _ => 1 - (intOf i).toNat)
  case atStart => exact ⟨0, by omega, rfl, by rw [List.take_zero, spl_nil]; exact hB, Only.refl _ _⟩
  case round =>
    obtain ⟨k, hk, rfl, hbuf, hon⟩ := hrel
    by_cases hlt : k < 1
    · obtain rfl : k = 0 := by omega
      have hl : ((be 1 x).take 0).length = 0 := by simp
      have ev : x / 2 ^ (8 * (1 - 1 - 0)) % 256 = x := by simp; omega
      have hc := spl_some (bs := bs) (off := off) (ys := (be 1 x).take 0) (by rw [hl]; have := Hn.out; omega)
      have hsn := spl_snoc (bs := bs) (off := off) (ys := (be 1 x).take 0) (by rw [hl]; have := Hn.out; omega) (x / 2 ^ (8 * (1 - 1 - 0)) % 256)
      rw [← be_take x hlt, hl, ev] at hsn
      clear ev
      rw [hl] at hc
      obtain ⟨v, hv⟩ := hc
      have hcell := hbuf.cell hv
      have hfz := hbuf.frozen (off + 0)
      rw [Nat.add_zero] at hcell hfz hsn
      have Hs := Lib.hid hsn
      have HB := Lib.hid hbuf
      clear hl hv hbuf hB hsn
      go_wp2
      exact ⟨⟨0 + 1, by omega, by go_num, by rw [← Hs.out]; exact HB.out.set_ _ _, hon.setCell _ _⟩, by simp [intOf]⟩
    · obtain rfl : k = 1 := by omega
      rw [List.take_of_length_le (by rw [be_len]; omega)] at hbuf
      have HB := Lib.hid hbuf
      clear hbuf
      by_cases h8 : n = 1
      · subst h8
        go_wp2
        go_ret
        exact ⟨_, rfl, ⟨_, by rw [be_len]; rfl, by rw [be_len]; omega⟩, HB.out, hon⟩
      · go_wp2
        go_ret
        exact ⟨_, rfl, ⟨_, by rw [be_len]; rfl, by rw [be_len]; intro; rfl⟩, HB.out, hon⟩

set_option maxHeartbeats 1000000 in
theorem putAll8 (g off n : Nat) (bs xs : List Int) (A : Option Addr) (m c : Nat) (w0 w : World) (hw : Below w0.heap.size w0 w) (hg : w0.heap.size ≤ g) (hx : Nums .i64 w0 A m xs) (hB : Buf w g bs) (hn : off + n = bs.length) (hm : m ≤ n) (hbs : bs.length ≤ 4611686018427387904) (h8 : ∀ x ∈ xs, 0 ≤ x ∧ x ≤ 255) :
    Calls Try.prog 23 #[.slice (some ⟨g, off, none⟩) n n, .slice A m c] w (PutPost g off n bs (xs.flatMap (be 1)) w) := by
  have Hn := Lib.hid hn
  have hle : off + n ≤ 4611686018427387904 := by omega
  clear hn hbs
  go_enter Try.func23, Try.ntmps23
  go_wp2
  go_loopw [0, 6, 9] (fun b _ i wr => ∃ k : Nat, k ≤ m ∧ i = .int .i64 k ∧ Rest g (off + k) (n - k) b ∧ Buf wr g (spl bs off ((xs.take k).flatMap (be 1))) ∧ Only g w wr) (fun _ _ i _ => m - (intOf i).toNat)
  case atStart => exact ⟨0, by omega, rfl, ⟨_, rfl, fun _ => rfl⟩, by rw [List.take_zero, List.flatMap_nil, spl_nil]; exact hB, Only.refl _ _⟩
  case round =>
    obtain ⟨k, hk, rfl, ⟨ad, rfl, had⟩, hbuf, hon⟩ := hrel
    have hl := flat_len (be 1) 1 (by intro x; exact be_len _ _) (xs.take k)
    rw [List.length_take, hx.len, Nat.min_eq_left hk, Nat.one_mul] at hl
    have hb2 := hw.trans (hon.below hg hw.size)
    have Hl := Lib.hid hl
    have HB := Lib.hid hbuf
    have Hb2 := Lib.hid hb2
    clear hl hbuf hb2 hB
    by_cases hlt : k < m
    · obtain ⟨bd, x, rfl, hxk, ⟨hx1, hx2⟩, hxc⟩ := (hx.keep (Keeps.of_below Hb2.out)).at_ hlt
      obtain rfl := had (by omega)
      have Hx := Lib.hid hxk
      obtain ⟨hx3, hx4⟩ := h8 x (List.mem_of_getElem? hxk)
      clear hxk had
      go_wp2_with fail
      refine (put8 g (off + k) (n - k) _ x wr HB.out (by rw [spl_len (by rw [Hl.out]; have := Hn.out; omega)]; have := Hn.out; omega) (by omega) (by omega) (by omega) (by rw [spl_len (by rw [Hl.out]; have := Hn.out; omega)]; have := Hn.out; omega)).mono ?_
      rintro e w2 ⟨v, rfl, ⟨ad, rfl, had⟩, hbuf2, hon2⟩
      have Had := Lib.hid had
      have HB2 := Lib.hid hbuf2
      clear had hbuf2
      go_wp2
      refine ⟨⟨k + 1, by omega, by go_num, ⟨ad, ?_, ?_⟩, ?_, hon.trans hon2⟩, by simp [intOf]; omega⟩
      · rw [be_len, show n - k - 1 = n - (k + 1) from by omega]
      · have := Had.out
        rw [be_len] at this
        exact fun h => (this (by omega)).trans (by rw [show off + k + 1 = off + (k + 1) from by omega])
      · have := HB2.out
        rw [spl_behind _ Hl.out (by have := Hn.out; omega)] at this
        rw [take_snoc Hx.out, List.flatMap_append]
        simpa using this
    · obtain rfl : k = m := by omega
      go_wp2
      go_ret
      have hxl := hx.len
      refine ⟨_, rfl, ⟨ad, ?_, ?_⟩, ?_, hon⟩
      · rw [flat_len (be 1) 1 (by intro x; exact be_len _ _), Nat.one_mul, hxl]; rfl
      · rw [flat_len (be 1) 1 (by intro x; exact be_len _ _), Nat.one_mul, hxl]; exact had
      · have := HB.out
        rwa [List.take_of_length_le (by omega)] at this

set_option maxHeartbeats 1000000 in
theorem putAll64 (g off n : Nat) (bs xs : List Int) (A : Option Addr) (m c : Nat) (w0 w : World) (hw : Below w0.heap.size w0 w) (hg : w0.heap.size ≤ g) (hx : Nums .i64 w0 A m xs) (hB : Buf w g bs) (hn : off + n = bs.length) (hm : 8 * m ≤ n) (hbs : bs.length ≤ 4611686018427387904) :
    Calls Try.prog 24 #[.slice (some ⟨g, off, none⟩) n n, .slice A m c] w (PutPost g off n bs (xs.flatMap be64) w) := by
  have Hn := Lib.hid hn
  have hle : off + n ≤ 4611686018427387904 := by omega
  clear hn hbs
  go_enter Try.func24, Try.ntmps24
  go_wp2
  go_loopw [0, 6, 9] (fun b _ i wr => ∃ k : Nat, k ≤ m ∧ i = .int .i64 k ∧ Rest g (off + 8 * k) (n - 8 * k) b ∧ Buf wr g (spl bs off ((xs.take k).flatMap be64)) ∧ Only g w wr) (fun _ _ i _ => m - (intOf i).toNat)
  case atStart => exact ⟨0, by omega, rfl, ⟨_, rfl, fun _ => rfl⟩, by rw [List.take_zero, List.flatMap_nil, spl_nil]; exact hB, Only.refl _ _⟩
  case round =>
    obtain ⟨k, hk, rfl, ⟨ad, rfl, had⟩, hbuf, hon⟩ := hrel
    have hl := flat_len be64 8 (by intro x; exact be_len _ _) (xs.take k)
    rw [List.length_take, hx.len, Nat.min_eq_left hk] at hl
    have hb2 := hw.trans (hon.below hg hw.size)
    have Hl := Lib.hid hl
    have HB := Lib.hid hbuf
    have Hb2 := Lib.hid hb2
    clear hl hbuf hb2 hB
    by_cases hlt : k < m
    · obtain ⟨bd, x, rfl, hxk, ⟨hx1, hx2⟩, hxc⟩ := (hx.keep (Keeps.of_below Hb2.out)).at_ hlt
      obtain rfl := had (by omega)
      have Hx := Lib.hid hxk
      clear hxk had
      go_wp2_with fail
      refine (put64 g (off + 8 * k) (n - 8 * k) _ (x % 18446744073709551616) wr HB.out (by rw [spl_len (by rw [Hl.out]; have := Hn.out; omega)]; have := Hn.out; omega) (by omega) (by omega) (by omega) (by rw [spl_len (by rw [Hl.out]; have := Hn.out; omega)]; have := Hn.out; omega)).mono ?_
      rintro e w2 ⟨v, rfl, ⟨ad, rfl, had⟩, hbuf2, hon2⟩
      have Had := Lib.hid had
      have HB2 := Lib.hid hbuf2
      clear had hbuf2
      go_wp2
      refine ⟨⟨k + 1, by omega, by go_num, ⟨ad, ?_, ?_⟩, ?_, hon.trans hon2⟩, by simp [intOf]; omega⟩
      · rw [be_len, show n - 8 * k - 8 = n - 8 * (k + 1) from by omega]
      · have := Had.out
        rw [be_len] at this
        exact fun h => (this (by omega)).trans (by rw [show off + 8 * k + 8 = off + 8 * (k + 1) from by omega])
      · have := HB2.out
        rw [spl_behind _ Hl.out (by have := Hn.out; omega)] at this
        rw [take_snoc Hx.out, List.flatMap_append]
        simpa [be64] using this
    · obtain rfl : k = m := by omega
      go_wp2
      go_ret
      have hxl := hx.len
      refine ⟨_, rfl, ⟨ad, ?_, ?_⟩, ?_, hon⟩
      · rw [flat_len be64 8 (by intro x; exact be_len _ _), hxl]; rfl
      · rw [flat_len be64 8 (by intro x; exact be_len _ _), hxl]; exact had
      · have := HB.out
        rwa [List.take_of_length_le (by omega)] at this
end Go.Proofs.Ytejjbbomkedpcaa
