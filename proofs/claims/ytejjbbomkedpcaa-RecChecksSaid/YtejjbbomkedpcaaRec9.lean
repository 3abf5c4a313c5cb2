import Derived.Test.YtejjbbomkedpcaaRec8
import Derived.StillTailTactics
namespace Go.Proofs.Ytejjbbomkedpcaa
open Go.RowKit
theorem infoRow : (Try.prog.info? 33).map (fun i => (i.zero, i.size, i.bytes)) = some (some (.agg #[.slice none 0 0, .slice none 0 0]), 2, 48) := by kernel_rfl
def dRow (xs : List Int) (i : Nat) : Fact :=
  { key := chunks id 1 (hDims xs) ((xs.drop (8 + hDims xs)).drop (i * (hDims xs + 8 * (hMeas xs).toNat))),
    m := chunks wrap64 8 (hMeas xs).toNat (((xs.drop (8 + hDims xs)).drop (i * (hDims xs + 8 * (hMeas xs).toNat))).drop (hDims xs)) }
def dRows (xs : List Int) : List Fact := (List.range (hRows xs).toNat).map (dRow xs)
def dLen (xs : List Int) : Nat := 8 + hDims xs + (hRows xs).toNat * (hDims xs + 8 * (hMeas xs).toNat)
def decOk (xs : List Int) : Bool := headOk xs && (decide (xs.length = dLen xs) && (dRows xs).all (rightB (hCards xs) (hMeas xs)))
/-- What Decode leaves. -/
def DecPost (xs : List Int) (w : World) (e : Ending) (w' : World) : Prop :=
  Below w.heap.size w w' ∧ ((decOk xs = false ∧ e = .returned (.tuple #[.agg #[.slice none 0 0, .int .i64 0], .slice none 0 0, .int .i64 1])) ∨
    (decOk xs = true ∧ ∃ g h ps, e = .returned (.tuple #[.agg #[sl g (hDims xs), .int .i64 (hMeas xs)], sl h (hRows xs).toNat, .int .i64 0]) ∧
      (w.heap.size ≤ g ∧ w.heap.size ≤ h) ∧ Arr .i64 3 w' g (hCards xs) ∧ Own 33 w' h (rowCells (hDims xs) (hMeas xs).toNat ps) ∧ RowsOwn w' w.heap.size ps (dRows xs)))
theorem decOk_head {xs : List Int} (h : headOk xs = false) : decOk xs = false := by rw [decOk, h, Bool.false_and]
theorem decOk_len {xs : List Int} (h : xs.length ≠ dLen xs) : decOk xs = false := by rw [decOk, decide_eq_false h, Bool.false_and, Bool.and_false]

/-- What holds at the head of Decode's loop, behind k rows. -/
structure DInv (xs : List Int) (w : World) (g h d me r k : Nat) (ps : List (Nat × Nat)) (wr : World) : Prop where
  len : ps.length = k
  rows : RowsOwn wr (h + 1) ps ((dRows xs).take k)
  own : Own 33 wr h (rowCells d me ps ++ List.replicate ((r - k) * 2) (Value.slice none 0 0))
  box : Box2 24 wr w.heap.size (.slice (some ⟨g, 0, none⟩) d d) (.int .i64 me)
  cards : Arr .i64 3 wr g (hCards xs)
  below : Below w.heap.size w wr
  right : ∀ x ∈ (dRows xs).take k, rightB (hCards xs) me x = true
theorem dRows_at {xs : List Int} {k : Nat} (h : k < (hRows xs).toNat) : (dRows xs)[k]? = some (dRow xs k) := by simp [dRows, h]
theorem dRows_len (xs : List Int) : (dRows xs).length = (hRows xs).toNat := by simp [dRows]
/-- The rest's address, where its bytes are taken. -/
theorem tail_nums {ad A : Addr} {n k : Nat} {xs : List Int} (h : Tail ad A n k xs) {w wr : World} (hx : Nums .u8 w (some ad) n xs) (hb : Below w.heap.size w wr) : Nums .u8 wr (some A) (n - k) (xs.drop k) := h wr (hx.keep (Keeps.of_below hb))

set_option maxHeartbeats 4000000 in
theorem Decode_any (A : Option Addr) (n c : Nat) (xs : List Int) (w : World) (hx : Nums .u8 w A n xs) (hc : n ≤ c) (hbs : c ≤ 9223372036854775807) :
    Calls Try.prog 12 #[.slice A n c] w (DecPost xs w) := by
  have Hxl := Lib.hid hx.len
  go_enter Try.func12, Try.ntmps12
  go_wp2_with fail
  have hb0 : Below w.heap.size w (w.alloc (.cells #[.slice none 0 0, .int .i64 0] 24)) := (Below.refl _ _).alloc (Nat.le_refl _) _
  have HB0 := Lib.hid hb0
  clear hb0
  refine (takeHead_any A n c xs _ (hx.keep ((Keeps.refl _).alloc _))).mono ?_
  rintro e w1 ⟨hb1, (⟨hno, rfl⟩ | ⟨hyes, g, rfl, harr1, hg1⟩)⟩
  · have hbx := (Box2.new w 24 (.slice none 0 0) (.int .i64 0)).below hb1 (by simp)
    have hB1 := HB0.out.trans (hb1.mono (by simp))
    have c0 := hbx.cell0
    have c1 := hbx.cell1
    have cf := hbx.frozen
    have Hno := Lib.hid hno
    have Hbx := Lib.hid hbx
    have HB1 := Lib.hid hB1
    clear hno hbx hB1 hb1
    go_wp2
    have hbox := (((Hbx.out.set0 (.slice none 0 0)).set1 (.int .i64 0)).set0 (.slice none 0 0)).set1 (.int .i64 0)
    have hbel := below_setCell (below_setCell (below_setCell (below_setCell HB1.out (Nat.le_refl _) 0 (.slice none 0 0)) (Nat.le_refl _) 1 (.int .i64 0)) (Nat.le_refl _) 0 (.slice none 0 0)) (Nat.le_refl _) 1 (.int .i64 0)
    generalize (((w1.setCell _ _).setCell _ _).setCell _ _).setCell _ _ = W at hbox hbel ⊢
    exact bodyPost_ret (v := .tuple #[.agg #[.slice none 0 0, .int .i64 0], .slice none 0 0, .int .i64 1]) (by simp [results, Try.results12, go_sem, hbox.cell0, hbox.cell1]) rfl ⟨hbel, .inl ⟨decOk_head Hno.out, rfl⟩⟩
  · obtain ⟨d, hd⟩ : ∃ d, d = hDims xs := ⟨_, rfl⟩
    have hmb := hMeas_bd (xs := xs) hx.ok
    have hrb := hRows_bd (xs := xs) hx.ok
    obtain ⟨me, hme⟩ : ∃ me : Nat, me = (hMeas xs).toNat := ⟨_, rfl⟩
    obtain ⟨r, hr⟩ : ∃ r : Nat, r = (hRows xs).toNat := ⟨_, rfl⟩
    have hme2 : hMeas xs = (me : Int) := by omega
    have hr2 : hRows xs = (r : Int) := by omega
    have hok := hyes
    simp only [headOk, Bool.and_eq_true, decide_eq_true_eq] at hok
    obtain ⟨_, hd4, hck, hr300⟩ := hok
    have hm2 := (checkB_spec hck).2.2.2.1
    have hd1 := (checkB_spec hck).1
    rw [hCards_len] at hd1
    rw [hme2, hr2, ← hd]
    rw [hme2] at hm2
    rw [hr2] at hr300
    rw [← hd] at hd1 hd4
    have hbx := (Box2.new w 24 (.slice none 0 0) (.int .i64 0)).below hb1 (by simp)
    have hB1 := HB0.out.trans (hb1.mono (by simp))
    have hgz : w.heap.size < g := by simp at hg1; omega
    have c0 := hbx.cell0
    have c1 := hbx.cell1
    have cf := hbx.frozen
    have hbx2 := (hbx.set0 (.slice (some ⟨g, 0, none⟩) d d)).set1 (.int .i64 me)
    have hB2 := below_setCell (below_setCell hB1 (Nat.le_refl _) 0 (.slice (some ⟨g, 0, none⟩) d d)) (Nat.le_refl _) 1 (.int .i64 me)
    have harr2 := (harr1.only (only_setCell w.heap.size w1 0 (.slice (some ⟨g, 0, none⟩) d d)) (by omega)).only (only_setCell w.heap.size _ 1 (.int .i64 me)) (by omega)
    obtain ⟨w2, hw2⟩ : ∃ w2, w2 = (w1.setCell ⟨w.heap.size, 0, none⟩ (.slice (some ⟨g, 0, none⟩) d d)).setCell ⟨w.heap.size, 1, none⟩ (.int .i64 me) := ⟨_, rfl⟩
    rw [← hw2] at hbx2 hB2 harr2
    have Hw2 := Lib.hid hw2
    have Hbx2 := Lib.hid hbx2
    have HB2 := Lib.hid hB2
    have Harr2 := Lib.hid harr2
    have Hd := Lib.hid hd
    have Hme := Lib.hid hme2
    have Hr := Lib.hid hr2
    have Hyes := Lib.hid hyes
    have Hck := Lib.hid hck
    clear hw2 hbx2 hB2 harr2 hd hme2 hr2 hyes hck hbx hB1 hb1 harr1 hg1 hme hr hmb hrb
    go_wp2_with fail
    rw [← Hw2.out]
    clear c0 c1 cf
    refine (size_any (some ⟨g, 0, none⟩) d d me r w2 hd4 (by omega) (by omega) (by omega) hr300).mono ?_
    rintro e w3 ⟨rfl, hb3⟩
    obtain ⟨L, hL⟩ : ∃ L : Nat, L = dLen xs := ⟨_, rfl⟩
    have hLd : L = 8 + d + r * (d + 8 * me) := by rw [hL, dLen, Hr.out, Hme.out, ← Hd.out]; simp
    rw [show (8 + (d : Int) + (r : Int) * (d + 8 * me)) = (L : Int) from by rw [hLd]; simp]
    have hbx3 := Hbx2.out.below hb3 Hbx2.out.lt
    have harr3 := Harr2.out.below hb3 Harr2.out.lt
    have hB3 := HB2.out.trans (hb3.mono (by have := HB2.out.size; simpa using this))
    have HL := Lib.hid hL
    have HLd := Lib.hid hLd
    have c0 := hbx3.cell0
    have c1 := hbx3.cell1
    have cf := hbx3.frozen
    have Hbx3 := Lib.hid hbx3
    have Harr3 := Lib.hid harr3
    have HB3 := Lib.hid hB3
    clear hL hLd hbx3 harr3 hB3 hb3
    by_cases hne : n = L
    · have hLle : L ≤ 6012 := by
        have h1 : r * (d + 8 * me) ≤ 300 * 20 := Nat.mul_le_mul (by omega) (by omega)
        rw [HLd.out]
        omega
      have Hne := Lib.hid hne
      have hbne : ((n : Int) != (L : Int)) = false := by rw [hne]; simp
      clear hne
      go_wp2_with fail
      refine (size_any (some ⟨g, 0, none⟩) d d me 0 w3 hd4 (by omega) (by omega) (by omega) (by omega)).mono ?_
      rintro e w4 ⟨rfl, hb4⟩
      rw [show (8 + (d : Int) + 0 * ((d : Int) + 8 * (me : Int))) = 8 + (d : Int) from by rw [Int.zero_mul, Int.add_zero]]
      have hbx4 := Hbx3.out.below hb4 Hbx3.out.lt
      have harr4 := Harr3.out.below hb4 Harr3.out.lt
      have hB4 := HB3.out.trans (hb4.mono HB3.out.size)
      obtain ⟨ad, rfl, -⟩ := hx.2.2 (by have := Hne.out; have := HLd.out; omega)
      obtain ⟨i0, hi, hz0, hz1, hz2⟩ := info_parts infoRow
      have hmk := make_rows (P := Try.prog) 25 33 i0 Try.underlying25 hi hz0 hz1 hz2 r (by omega) w4
      obtain ⟨w5, hw5⟩ : ∃ w5, w5 = w4.alloc (.cells (madeCells #[.slice none 0 0, .slice none 0 0] (r * 2)) 33) := ⟨_, rfl⟩
      have hown5 := Own.made_rows w4 33 r
      have hbx5 := hbx4.alloc (.cells (madeCells #[.slice none 0 0, .slice none 0 0] (r * 2)) 33)
      have harr5 := harr4.alloc (.cells (madeCells #[.slice none 0 0, .slice none 0 0] (r * 2)) 33)
      have hB5 := hB4.alloc hB4.size (.cells (madeCells #[.slice none 0 0, .slice none 0 0] (r * 2)) 33)
      have hgl := harr4.lt
      rw [← hw5] at hmk hown5 hbx5 harr5 hB5
      obtain ⟨h, hh⟩ : ∃ h, h = w4.heap.size := ⟨_, rfl⟩
      rw [← hh] at hmk hown5 hgl
      have hwh : w.heap.size < h := by rw [hh]; exact hbx4.lt
      have c0 := hbx4.cell0
      have c1 := hbx4.cell1
      have cf := hbx4.frozen
      have Hmk := Lib.hid hmk
      have Hown5 := Lib.hid hown5
      have Hbx5 := Lib.hid hbx5
      have Harr5 := Lib.hid harr5
      have HB5 := Lib.hid hB5
      have hLd2 : 8 + d ≤ n := by have := Hne.out; have := HLd.out; omega
      clear hbx4 harr4 hB4 hb4 i0 hi hz0 hz1 hz2 hw5 hown5 hbx5 harr5 hB5 hh
      have key : ∃ A2, Tail ad A2 n (8 + d) xs ∧ (c = 8 + d ∧ ad = A2 ∨ c ≠ 8 + d ∧ A2 = ad.add (8 + d)) := by
        by_cases h8 : c = 8 + d
        · exact ⟨ad, by obtain rfl : n = 8 + d := by omega
                        exact Tail.end_ _ _ _ _, .inl ⟨h8, rfl⟩⟩
        · exact ⟨_, Tail.add_ _ _ hLd2, .inr ⟨h8, rfl⟩⟩
      rcases key with ⟨A2, hT, (⟨hcc, rfl⟩ | ⟨hcc, rfl⟩)⟩
      all_goals
        have HT := Lib.hid hT
        clear hT
        go_wp2_with fail
        obtain ⟨W, hW⟩ : ∃ W, W = d + 8 * me := ⟨_, rfl⟩
        have HW := Lib.hid hW
        clear hW
        go_loopw [3, 7, 8, 34] (fun s3 b _ i wr => s3 = .slice (some ⟨h, 0, none⟩) r r ∧ ∃ k A2 ps, k ≤ r ∧ i = .int .i64 (k : Nat) ∧ b = .slice (some A2) (n - (8 + d + k * W)) (c - (8 + d + k * W)) ∧ Tail ad A2 n (8 + d + k * W) xs ∧ DInv xs w g h d me r k ps wr) (fun _ _ _ i _ => r - (intOf i).toNat)
        case atStart =>
          refine ⟨rfl, 0, _, [], by omega, rfl, slice_eq rfl (by rw [Nat.zero_mul]; omega) (by rw [Nat.zero_mul]; omega), by rw [Nat.zero_mul]; exact HT.out, ⟨rfl, by simpa using RowsOwn.nil _ _, by simpa [rowCells] using Hown5.out, Hbx5.out, Harr5.out, HB5.out, by simp⟩⟩
        case round =>
          obtain ⟨rfl, k, A2, ps, hk, rfl, rfl, hT2, hI⟩ := hrel
          have HT2 := Lib.hid hT2
          have HI := Lib.hid hI
          clear hT2 hI
          by_cases hlt : k < r
          · obtain ⟨q, hq⟩ : ∃ q, q = k * W := ⟨_, rfl⟩
            have hq1 : (k + 1) * W ≤ r * W := Nat.mul_le_mul_right W hlt
            have hn1 : 8 + d + q + (d + 8 * me) ≤ n := by
              rw [Nat.succ_mul, ← hq] at hq1
              have h1 := Hne.out; have h2 := HLd.out; rw [← HW.out] at h2
              have h3 := HW.out
              omega
            have Hq := Lib.hid hq
            rw [← hq] at HT2 ⊢
            clear hq hq1
            first
            | exfalso
              omega
            | have c0 := HI.out.box.cell0
              have c1 := HI.out.box.cell1
              go_wp2_with fail
              refine (takeAll8 A2 (n - (8 + d + q)) (c - (8 + d + q)) d _ wr (tail_nums HT2.out hx HI.out.below) (by omega) (by omega) (by omega) (by omega)).mono ?_
              rintro e w7 ⟨g1, A3, rfl, harr7, hg7, ht7, hb7⟩
              rw [Nat.one_mul] at ht7 ⊢
              have hbx7 := HI.out.box.below hb7 HI.out.box.lt
              have hcd7 := HI.out.cards.below hb7 HI.out.cards.lt
              have hrw7 := HI.out.rows.below hb7
              have how7 := HI.out.own.below hb7 HI.out.own.lt
              have hB7 := HI.out.below.trans (hb7.mono HI.out.below.size)
              have hol := HI.out.own.lt
              have hpl := HI.out.len
              have hcl : (rowCells d me ps ++ List.replicate ((r - k) * 2) (Value.slice none 0 0))[k * 2]? = some (Value.slice none 0 0) := by
                rw [List.getElem?_append_right (by rw [rowCells_len, hpl]; omega), rowCells_len, hpl, Nat.sub_self, List.getElem?_replicate_of_lt (by omega)]
              have d0 := how7.cell hcl
              have df := how7.frozen
              have HT7 := Lib.hid (HT2.out.trans ht7)
              have Harr7 := Lib.hid harr7
              have Hbx7 := Lib.hid hbx7
              have Hcd7 := Lib.hid hcd7
              have Hrw7 := Lib.hid hrw7
              have How7 := Lib.hid how7
              have HB7 := Lib.hid hB7
              have Hpl := Lib.hid hpl
              clear c0 c1 hb7 ht7 harr7 hbx7 hcd7 hrw7 how7 hB7 hpl hcl
              have how8 := How7.out.set_ (k * 2) (.slice (some ⟨g1, 0, none⟩) d d)
              have hon8 := only_setCell h w7 (k * 2) (.slice (some ⟨g1, 0, none⟩) d d)
              have hbx8 := Hbx7.out.only hon8 (by omega)
              have hcd8 := Hcd7.out.only hon8 (by omega)
              have hrw8 := Hrw7.out.only hon8 (by omega)
              have har8 := Harr7.out.only hon8 (by omega)
              have hB8 := below_setCell HB7.out (Nat.le_of_lt hwh) (k * 2) (.slice (some ⟨g1, 0, none⟩) d d)
              have e0 := Hbx7.out.cell0
              have e1 := Hbx7.out.cell1
              obtain ⟨w8, hw8⟩ : ∃ w8, w8 = w7.setCell ⟨h, k * 2, none⟩ (.slice (some ⟨g1, 0, none⟩) d d) := ⟨_, rfl⟩
              rw [← hw8] at how8 hbx8 hcd8 hrw8 har8 hB8
              have f0 := hbx8.cell0
              have f1 := hbx8.cell1
              have Hw8 := Lib.hid hw8
              have How8 := Lib.hid how8
              have Hbx8 := Lib.hid hbx8
              have Hcd8 := Lib.hid hcd8
              have Hrw8 := Lib.hid hrw8
              have Har8 := Lib.hid har8
              have HB8 := Lib.hid hB8
              clear hw8 how8 hon8 hbx8 hcd8 hrw8 har8 hB8
              go_wp2_with fail
              rw [← Hw8.out]
              have hN8 := tail_nums HT7.out hx HB8.out
              rw [← Nat.sub_sub] at hN8
              refine (takeAll64 A3 _ (c - (8 + d + q) - d) me _ w8 hN8 (by omega) (by omega) (by omega) (by omega)).mono ?_
              rintro e w9 ⟨g2, A4, rfl, harr9, hg9, ht9, hb9⟩
              have hh8 := How8.out.lt
              have hbx9 := Hbx8.out.below hb9 Hbx8.out.lt
              have hcd9 := Hcd8.out.below hb9 Hcd8.out.lt
              have hrw9 := Hrw8.out.below hb9
              have how9 := How8.out.below hb9 How8.out.lt
              have har9 := Har8.out.below hb9 Har8.out.lt
              have hB9 := HB8.out.trans (hb9.mono HB8.out.size)
              have hT9 : Tail ad A4 n (8 + d + q + d + 8 * me) xs := HT7.out.trans (by rw [← Nat.sub_sub]; exact ht9)
              have hlen := Hpl.out
              have hcl : ((rowCells d me ps ++ List.replicate ((r - k) * 2) (Value.slice none 0 0)).set (k * 2) (.slice (some ⟨g1, 0, none⟩) d d))[k * 2 + 1]? = some (Value.slice none 0 0) := by
                rw [List.getElem?_set_ne (by omega), List.getElem?_append_right (by rw [rowCells_len, hlen]; omega), rowCells_len, hlen, show k * 2 + 1 - k * 2 = 1 from by omega, List.getElem?_replicate_of_lt (by omega)]
              have d1 := how9.cell hcl
              have df := how9.frozen
              have how10 := how9.set_ (k * 2 + 1) (.slice (some ⟨g2, 0, none⟩) me me)
              have hrs := rowCells_set (d := d) (me := me) (g1 := g1) (g2 := g2) hlen hlt
              simp only [sl] at hrs
              rw [hrs] at how10
              have hon10 := only_setCell h w9 (k * 2 + 1) (.slice (some ⟨g2, 0, none⟩) me me)
              have hbx10 := hbx9.only hon10 (by omega)
              have hcd10 := hcd9.only hon10 (by omega)
              have hrw10 := hrw9.only hon10 (by omega)
              have har10 := har9.only hon10 (by omega)
              have har10' := harr9.only hon10 (by omega)
              have hB10 := below_setCell hB9 (Nat.le_of_lt hwh) (k * 2 + 1) (.slice (some ⟨g2, 0, none⟩) me me)
              obtain ⟨w10, hw10⟩ : ∃ w10, w10 = w9.setCell ⟨h, k * 2 + 1, none⟩ (.slice (some ⟨g2, 0, none⟩) me me) := ⟨_, rfl⟩
              rw [← hw10] at how10 hbx10 hcd10 hrw10 har10 har10' hB10
              have Hw10 := Lib.hid hw10
              have How10 := Lib.hid how10
              have Hbx10 := Lib.hid hbx10
              have Hcd10 := Lib.hid hcd10
              have Hrw10 := Lib.hid hrw10
              have Har10 := Lib.hid har10
              have Har10' := Lib.hid har10'
              have HB10 := Lib.hid hB10
              have HT9 := Lib.hid hT9
              clear hw10 how10 hon10 hbx10 hcd10 hrw10 har10 har10' hB10 hbx9 hcd9 hrw9 how9 har9 hB9 harr9 hT9 hcl hrs hN8 ht9 hb9 f0 f1 e0 e1 d0
              go_wp2_with fail
              rw [← Hw10.out]
              clear d1 df
              have hmeN : (hMeas xs).toNat = me := by rw [Hme.out]; simp
              have hrow : dRow xs k = ⟨chunks id 1 d (xs.drop (8 + d + q)), chunks wrap64 8 me (xs.drop (8 + d + q + d))⟩ := by
                unfold dRow
                rw [← Hd.out, hmeN, ← HW.out, List.drop_drop, List.drop_drop, ← Hq.out]
              have hxb : Bytes xs := hx.ok
              have hnk := Har10.out.nums (bytes_i64 (chunks_bytes (hxb.drop _) _))
              have hnm := Har10'.out.nums (chunks_i64 8 me (xs.drop (8 + d + q + d)))
              have hnc := Hcd10.out.nums (bytes_i64 (hCards_bytes hxb))
              rw [chunks_len] at hnk hnm
              rw [hCards_len, ← Hd.out] at hnc
              have hl1 : (ps ++ [(g1, g2)]).length = k + 1 := by rw [List.length_append, Hpl.out]; rfl
              have hcells := rowCells_at (d := d) (me := me) (ps := ps ++ [(g1, g2)]) (i := k) (p := (g1, g2)) (by rw [List.getElem?_append_right (by rw [Hpl.out]; omega), Hpl.out, Nat.sub_self]; rfl)
              have hr0 := How10.out.cell (i := k * 2) (v := .slice (some ⟨g1, 0, none⟩) d d) (by rw [List.getElem?_append_left (by rw [rowCells_len, hl1]; omega)]; exact hcells.1)
              have hr1 := How10.out.cell (i := k * 2 + 1) (v := .slice (some ⟨g2, 0, none⟩) me me) (by rw [List.getElem?_append_left (by rw [rowCells_len, hl1]; omega)]; exact hcells.2)
              have f0 := Hbx10.out.cell0
              have f1 := Hbx10.out.cell1
              have Hnk := Lib.hid hnk
              have Hnm := Lib.hid hnm
              have Hnc := Lib.hid hnc
              have Hrow := Lib.hid hrow
              clear hnk hnm hnc hrow hcells hl1 hmeN hxb
              go_still_tail 5, (by kernel_rfl)
              change wpList _ _ _ _ _ w10.drew
              have hzz : Below w10.heap.size w10 w10.drew := (Below.refl _ _).drew
              have Hzz := Lib.hid hzz
              generalize w10.drew = w11 at hzz ⊢
              go_wp2_with fail
              have hk11 := Keeps.of_below hzz
              refine (Right_any (some ⟨g, 0, none⟩) (some ⟨g1, 0, none⟩) (some ⟨g2, 0, none⟩) d d d d me me (hCards xs) me (dRow xs k) w11 (Hnc.out.keep hk11) (by rw [Hrow.out]; exact Hnk.out.keep hk11) (by rw [Hrow.out]; exact Hnm.out.keep hk11) (by omega) (by omega) (by omega) ⟨by omega, by omega⟩).mono ?_
              rintro e w12 ⟨rfl, hb12⟩
              have hb12 : Below w10.heap.size w10 w12 := hzz.trans (hb12.mono hzz.size)
              have hbx12 := Hbx10.out.below hb12 Hbx10.out.lt
              have Hb12 := Lib.hid hb12
              clear hzz hk11 hb12 f0 f1 hr0 hr1
              cases hrt : rightB (hCards xs) me (dRow xs k) with
              | true =>
                have Hrt := Lib.hid hrt
                have Hbx12 := Lib.hid hbx12
                clear hrt hbx12
                go_wp2
                have hat := dRows_at (xs := xs) (k := k) (by rw [Hr.out]; simpa using hlt)
                refine ⟨⟨rfl, k + 1, A4, ps ++ [(g1, g2)], by omega, by go_num, slice_eq rfl ?_ ?_, ?_, ⟨?_, ?_, ?_, Hbx12.out, ?_, ?_, ?_⟩⟩, by simp [intOf]; omega⟩
                · rw [Nat.succ_mul k W, ← Hq.out, HW.out]; omega
                · rw [Nat.succ_mul k W, ← Hq.out, HW.out]; omega
                · rw [Nat.succ_mul k W, ← Hq.out, HW.out, show 8 + d + (q + (d + 8 * me)) = 8 + d + q + d + 8 * me from by omega]; exact HT9.out
                · rw [List.length_append, Hpl.out]; rfl
                · rw [take_snoc hat]
                  refine (Hrw10.out.below Hb12.out).snoc (by omega) (by omega) ?_ ?_
                  · rw [Hrow.out]; exact Har10.out.below Hb12.out Har10.out.lt
                  · rw [Hrow.out]; exact Har10'.out.below Hb12.out Har10'.out.lt
                · exact How10.out.below Hb12.out How10.out.lt
                · exact Hcd10.out.below Hb12.out Hcd10.out.lt
                · exact HB10.out.trans (Hb12.out.mono HB10.out.size)
                · exact mem_take_snoc HI.out.right hat Hrt.out
              | false =>
                have Hrt := Lib.hid hrt
                have c0 := hbx12.cell0
                have c1 := hbx12.cell1
                have cf := hbx12.frozen
                have Hbx12 := Lib.hid hbx12
                clear hrt hbx12
                go_wp2
                have hat := dRows_at (xs := xs) (k := k) (by rw [Hr.out]; simpa using hlt)
                have hno : decOk xs = false := by
                  have : (dRows xs).all (rightB (hCards xs) (hMeas xs)) = false := by
                    rw [List.all_eq_false]
                    exact ⟨_, List.mem_of_getElem? hat, by rw [Hme.out, Hrt.out]; simp⟩
                  rw [decOk, this, Bool.and_false, Bool.and_false]
                have hbox := ((Hbx12.out.set0 (.slice none 0 0)).set1 (.int .i64 0))
                have hbel := below_setCell (below_setCell (HB10.out.trans (Hb12.out.mono HB10.out.size)) (Nat.le_refl _) 0 (.slice none 0 0)) (Nat.le_refl _) 1 (.int .i64 0)
                generalize (w12.setCell _ _).setCell _ _ = W at hbox hbel ⊢
                exact bodyPost_ret (v := .tuple #[.agg #[.slice none 0 0, .int .i64 0], .slice none 0 0, .int .i64 1]) (by simp [results, Try.results12, go_sem, hbox.cell0, hbox.cell1]) rfl ⟨hbel, .inl ⟨hno, rfl⟩⟩
          · have c0 := HI.out.box.cell0
            have c1 := HI.out.box.cell1
            have cf := HI.out.box.frozen
            obtain rfl : k = r := by omega
            go_wp2
            have hrl : (hRows xs).toNat = k := by rw [Hr.out]; simp
            have hall := HI.out.right
            have hrows := HI.out.rows
            have hown := HI.out.own
            rw [List.take_of_length_le (by rw [dRows_len, hrl]; exact Nat.le_refl _)] at hall hrows
            rw [Nat.sub_self, Nat.zero_mul, List.replicate_zero, List.append_nil] at hown
            have hyes : decOk xs = true := by
              rw [decOk, Hyes.out, decide_eq_true (show xs.length = dLen xs by rw [Hxl.out, Hne.out, HL.out]), Hme.out]
              simpa using hall
            have hbox := ((HI.out.box.set0 (.slice (some ⟨g, 0, none⟩) d d)).set1 (.int .i64 me))
            have hbel := below_setCell (below_setCell HI.out.below (Nat.le_refl _) 0 (.slice (some ⟨g, 0, none⟩) d d)) (Nat.le_refl _) 1 (.int .i64 me)
            have ho1 := only_setCell w.heap.size wr 0 (.slice (some ⟨g, 0, none⟩) d d)
            have ho2 := only_setCell w.heap.size (wr.setCell ⟨w.heap.size, 0, none⟩ (.slice (some ⟨g, 0, none⟩) d d)) 1 (.int .i64 me)
            have hcd := (HI.out.cards.only ho1 (by omega)).only ho2 (by omega)
            have hown := (hown.only ho1 (by omega)).only ho2 (by omega)
            have hrows := (hrows.only ho1 (by omega)).only ho2 (by omega)
            generalize (wr.setCell _ _).setCell _ _ = W2 at hbox hbel hcd hown hrows ⊢
            refine bodyPost_ret (v := .tuple #[.agg #[.slice (some ⟨g, 0, none⟩) d d, .int .i64 me], .slice (some ⟨h, 0, none⟩) k k, .int .i64 0]) (by simp [results, Try.results12, go_sem, hbox.cell0, hbox.cell1]) rfl ⟨hbel, .inr ⟨hyes, g, h, ps, ?_, ⟨by omega, by omega⟩, hcd, ?_, hrows.mono (by omega)⟩⟩
            · rw [hrl, ← Hd.out, Hme.out]; rfl
            · rw [← Hd.out, Hme.out]; exact hown
    · have Hne := Lib.hid (decOk_len (xs := xs) (by rw [← HL.out, Hxl.out]; exact hne))
      have hbne : ((n : Int) != (L : Int)) = true := by rw [bne_iff_ne]; omega
      clear hne
      go_wp2
      have hbox := ((Hbx3.out.set0 (.slice none 0 0)).set1 (.int .i64 0))
      have hbel := below_setCell (below_setCell HB3.out (Nat.le_refl _) 0 (.slice none 0 0)) (Nat.le_refl _) 1 (.int .i64 0)
      generalize (w3.setCell _ _).setCell _ _ = W at hbox hbel ⊢
      exact bodyPost_ret (v := .tuple #[.agg #[.slice none 0 0, .int .i64 0], .slice none 0 0, .int .i64 1]) (by simp [results, Try.results12, go_sem, hbox.cell0, hbox.cell1]) rfl ⟨hbel, .inl ⟨Hne.out, rfl⟩⟩
end Go.Proofs.Ytejjbbomkedpcaa
