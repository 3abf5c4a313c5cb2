import Derived.Test.YtejjbbomkedpcaaRec1
namespace Go.Proofs.Ytejjbbomkedpcaa
open Go.RowKit
set_option maxHeartbeats 1000000 in
theorem allRight_any (A B : Option Addr) (n c m d : Nat) (cs : List Int) (me : Int) (l : List Fact) (w : World) (hl : Nums .i64 w A n cs) (hr : Facts w B m l) (hn : n ≤ 4611686018427387904) (hn2 : m ≤ 4611686018427387904)
    (hn3 : ∀ r ∈ l, r.key.length ≤ 4611686018427387904 ∧ r.m.length ≤ 4611686018427387904) (hm : inK .i64 me) :
    Calls Try.prog 21 #[.agg #[.slice A n c, .int .i64 me], .slice B m d] w fun e w' => e = .returned (.bool (allRightB cs me l)) ∧ Below w.heap.size w w' := by
  have Hm := Lib.hid hm
  clear hm
  go_enter Try.func21, Try.ntmps21
  cases hc : checkB cs me with
  | false =>
    have Hc := Lib.hid hc
    clear hc
    go_wp2_with fail
    refine (Check_any A n c cs me _ (hl.keep ((Keeps.refl _).alloc _)) hn Hm.out).mono ?_
    rintro e w1 ⟨rfl, hb⟩
    rw [Hc.out]
    go_wp2
    go_ret
    exact ⟨by rw [allRightB_chk Hc.out]; rfl, ((Below.refl _ _).alloc (Nat.le_refl _) _).trans (hb.mono (by simp))⟩
  | true =>
    have Hc := Lib.hid hc
    clear hc
    go_wp2_with fail
    refine (Check_any A n c cs me _ (hl.keep ((Keeps.refl _).alloc _)) hn Hm.out).mono ?_
    rintro e w1 ⟨rfl, hb⟩
    rw [Hc.out]
    have hB := ((Below.refl w.heap.size w).alloc (Nat.le_refl _) (.cells #[.slice A n c, .int .i64 me] 24)).trans (hb.mono (by simp))
    have HB := Lib.hid hb
    clear hb
    go_wp2
    go_loopw [6, 12] (fun _ i wr => ∃ k : Nat, k ≤ m ∧ i = .int .i64 k ∧ (∀ r ∈ l.take k, rightB cs me r = true) ∧ Below (w.heap.size + 1) (w.alloc (.cells #[.slice A n c, .int .i64 me] 24)) wr) (fun _ i _ => m - (intOf i).toNat)
    case atStart => exact ⟨0, by omega, rfl, by simp, by simpa using HB.out⟩
    case round =>
      obtain ⟨k, hk, rfl, ht, hb⟩ := hrel
      have Ht := Lib.hid ht
      have hB := ((Below.refl w.heap.size w).alloc (Nat.le_refl _) _).trans (hb.mono (by simp))
      clear ht
      by_cases hlt : k < m
      · obtain ⟨ad, r, rfl, hrk, hrow⟩ := (hr.keep (Keeps.of_below hB)).at_ hlt
        have hmr := hn3 r (List.mem_of_getElem? hrk)
        have Hr := Lib.hid hrk
        obtain ⟨A1, c1, B1, d1, h1, h2, h3, h4⟩ := hrow
        have hs0 : wr.cell? ⟨w.heap.size, 0, none⟩ = some (.slice A n c) := box_at hb (by omega) _
        have hs1 : wr.cell? ⟨w.heap.size, 1, none⟩ = some (.int .i64 me) := box_at hb (by omega) _
        have hz : w.heap.size < wr.heap.size := by have := hb.size; simp at this; omega
        have hK := Keeps.of_below hB
        have HW := Lib.hid hb
        have HB2 := Lib.hid hB
        clear hrk hn3 hb hB
        cases hc : rightB cs me r with
        | true =>
          have Hc2 := Lib.hid hc
          clear hc
          go_wp2_with fail
          refine (Right_any A A1 B1 n c _ c1 _ d1 cs me r _ (hl.keep (hK.alloc _)) (h3.keep ((Keeps.refl _).alloc _)) (h4.keep ((Keeps.refl _).alloc _)) hn hmr.1 hmr.2 Hm.out).mono ?_
          rintro e w2 ⟨rfl, hb2⟩
          rw [Hc2.out]
          go_wp2
          exact ⟨⟨k + 1, by omega, by go_num, mem_take_snoc Ht.out Hr.out Hc2.out, (HW.out.alloc hz _).trans (hb2.mono (by simp; omega))⟩, by simp [intOf]; omega⟩
        | false =>
          have Hc2 := Lib.hid hc
          clear hc
          go_wp2_with fail
          refine (Right_any A A1 B1 n c _ c1 _ d1 cs me r _ (hl.keep (hK.alloc _)) (h3.keep ((Keeps.refl _).alloc _)) (h4.keep ((Keeps.refl _).alloc _)) hn hmr.1 hmr.2 Hm.out).mono ?_
          rintro e w2 ⟨rfl, hb2⟩
          rw [Hc2.out]
          go_wp2
          go_ret
          exact ⟨by rw [allRightB_at Hr.out Hc2.out]; rfl, (HB2.out.alloc (Nat.le_of_lt hz) _).trans (hb2.mono (by simp; omega))⟩
      · go_wp2
        go_ret
        obtain rfl : k = m := by omega
        have := Ht.out
        rw [List.take_of_length_le (Nat.le_of_eq hr.1)] at this
        exact ⟨by rw [allRightB_yes Hc.out this]; rfl, hB⟩

set_option maxHeartbeats 1000000 in
theorem Sound_any (A B : Option Addr) (n c m d : Nat) (cs : List Int) (me : Int) (l : List Fact) (w : World) (hl : Nums .i64 w A n cs) (hr : Facts w B m l) (hn : n ≤ 4611686018427387904) (hn2 : m ≤ 4611686018427387904)
    (hn3 : ∀ r ∈ l, r.key.length ≤ 4611686018427387904 ∧ r.m.length ≤ 4611686018427387904) (hm : inK .i64 me) :
    Calls Try.prog 15 #[.agg #[.slice A n c, .int .i64 me], .slice B m d] w fun e w' => e = .returned (.bool (soundB cs me l)) ∧ Below w.heap.size w w' := by
  have Hm := Lib.hid hm
  clear hm
  go_enter Try.func15, Try.ntmps15
  cases hc : allRightB cs me l with
  | false =>
    have Hc := Lib.hid hc
    clear hc
    go_wp2_with fail
    refine (allRight_any A B n c m d cs me l _ (hl.keep ((Keeps.refl _).alloc _)) (hr.keep ((Keeps.refl _).alloc _)) hn hn2 hn3 Hm.out).mono ?_
    rintro e w1 ⟨rfl, hb⟩
    rw [Hc.out]
    go_wp2
    go_ret
    exact ⟨by rw [soundB, Hc.out]; rfl, ((Below.refl _ _).alloc (Nat.le_refl _) _).trans (hb.mono (by simp))⟩
  | true =>
    have Hc := Lib.hid hc
    clear hc
    go_wp2_with fail
    refine (allRight_any A B n c m d cs me l _ (hl.keep ((Keeps.refl _).alloc _)) (hr.keep ((Keeps.refl _).alloc _)) hn hn2 hn3 Hm.out).mono ?_
    rintro e w1 ⟨rfl, hb⟩
    rw [Hc.out]
    obtain ⟨ck, hrr⟩ := allRightB_spec Hc.out
    have me0 := (checkB_spec ck).2.2.1
    have me2 := (checkB_spec ck).2.2.2.1
    obtain ⟨me, rfl⟩ := Int.eq_ofNat_of_zero_le me0
    have hs1 : w1.cell? ⟨w.heap.size, 1, none⟩ = some (.int .i64 me) := box_at hb (by simp) _
    have HB := Lib.hid (((Below.refl w.heap.size w).alloc (Nat.le_refl _) _).trans (hb.mono (by simp)))
    have HR : Hid (∀ r ∈ l, rightB cs me r = true) := Lib.hid hrr
    clear hb ck hrr
    go_wp2
    go_loopw [5, 12] (fun _ i wr => ∃ k : Nat, k ≤ me ∧ i = .int .i64 k ∧ (∀ j, j < k → fitsB (col l j) = true) ∧ Below w.heap.size w wr) (fun _ i _ => me - (intOf i).toNat)
    case atStart => exact ⟨0, by omega, rfl, by intros; omega, HB.out⟩
    case round =>
      obtain ⟨k, hk, rfl, ht, hb⟩ := hrel
      have Ht := Lib.hid ht
      have HB2 := Lib.hid hb
      clear ht hb
      by_cases hlt : k < me
      · cases hc : fitsB (col l k) with
        | true =>
          have Hc2 := Lib.hid hc
          clear hc
          go_wp2_with fail
          refine (sumsFit_any B m d l k _ (hr.keep (Keeps.of_below HB2.out)) hn2 (by omega) (fun r hr => by have := rightB_m (HR.out r hr); omega)).mono ?_
          rintro e w2 ⟨rfl, hb2⟩
          rw [Int.toNat_natCast, Hc2.out]
          go_wp2
          exact ⟨⟨k + 1, by omega, by go_num, lt_succ_all Ht.out Hc2.out, HB2.out.trans (hb2.mono HB2.out.size)⟩, by simp [intOf]; omega⟩
        | false =>
          have Hc2 := Lib.hid hc
          clear hc
          go_wp2_with fail
          refine (sumsFit_any B m d l k _ (hr.keep (Keeps.of_below HB2.out)) hn2 (by omega) (fun r hr => by have := rightB_m (HR.out r hr); omega)).mono ?_
          rintro e w2 ⟨rfl, hb2⟩
          rw [Int.toNat_natCast, Hc2.out]
          go_wp2
          go_ret
          exact ⟨by rw [soundB, Int.toNat_natCast, soundsB_no hlt Hc2.out, Bool.and_false]; rfl, HB2.out.trans (hb2.mono HB2.out.size)⟩
      · go_wp2
        go_ret
        obtain rfl : k = me := by omega
        exact ⟨by rw [soundB, Hc.out, Int.toNat_natCast, soundsB_yes Ht.out]; rfl, HB2.out⟩
end Go.Proofs.Ytejjbbomkedpcaa
