/- The walk of the law RecMany: the Go text returns true, and writes nothing that was there. -/
import Derived.Test.YtbjlbambheogbaaManyPure
import Derived.Test.YtbjlbambheogbaaRefEncode
import Derived.Test.YtbjlbambheogbaaWithin
import Derived.Laws.OwnMore
namespace Go.Proofs.Ytbjlbambheogbaa
open Go.RowKit
set_option maxRecDepth 100000 in
set_option maxHeartbeats 8000000 in
theorem many_walk (a0 : Int) (w : World) (h0 : inK .i64 a0) :
    Calls Try.prog 8 #[.int .i64 a0] w fun e w' => e = .returned (.bool true) ∧ Below w.heap.size w w' := by
  obtain ⟨r, hr⟩ : ∃ r : Nat, a0 % 12 = r := Int.eq_ofNat_of_zero_le (Int.emod_nonneg a0 (show (12 : Int) ≠ 0 by omega))
  have hr12 : r < 12 := by omega
  have w12 := fun W => lwithin a0 12 W h0 (by omega) (by omega)
  rw [hr] at w12
  have W12 := Lib.hid w12
  clear w12 hr
  go_enter Try.func8, Try.ntmps8
  go_wp2_with fail
  refine (known_any w).mono ?_
  rintro e w1 ⟨rfl, hb1⟩
  have Hb1 := Lib.hid hb1
  clear hb1
  go_wp2_with fail
  refine (W12.out _).mono ?_
  rintro e w2 ⟨rfl, rfl⟩
  obtain ⟨P, hP⟩ : ∃ P, P = w1.heap.size := ⟨_, rfl⟩
  have a1 : Arr .i64 3 ((w1.alloc (.cells #[.int .i64 2] 3)).alloc (.cells #[.slice (some ⟨P, 0, none⟩) 1 1, .int .i64 0] 24)) P [2] := (Arr.new _ .i64 3 [2] P (by simp [hP])).alloc _
  have hbx : Below w1.heap.size w1 ((w1.alloc (.cells #[.int .i64 2] 3)).alloc (.cells #[.slice (some ⟨P, 0, none⟩) 1 1, .int .i64 0] 24)) := ((Below.refl _ _).alloc (Nat.le_refl _) _).alloc (by simp) _
  have HE := Lib.hid (rEncode_any (some ⟨P, 0, none⟩) none 1 1 0 0 [2] 0 [] ((w1.alloc (.cells #[.int .i64 2] 3)).alloc (.cells #[.slice (some ⟨P, 0, none⟩) 1 1, .int .i64 0] 24)) (a1.nums (by simp [inK])) (Facts.nil _ _) (by omega) (by omega) (by simp [inK]) (by simp))
  have Hbx := Lib.hid (Hb1.out.trans (hbx.mono Hb1.out.size))
  have HP := Lib.hid hP
  clear a1 hbx hP
  go_wp2_with fail
  rw [← HP.out]
  generalize (w1.alloc _).alloc _ = w2 at HE Hbx ⊢
  refine HE.out.mono ?_
  rintro e w3 ⟨v, rfl, hv, hb3⟩
  have hv9 : encB [2] 0 [] = [67, 85, 66, 49, 1, 2, 0, 0, 0] := by decide
  rw [hv9] at hv
  obtain ⟨B, hB⟩ : ∃ B, B = w2.heap.size := ⟨_, rfl⟩
  rw [← hB] at hv hb3
  obtain ⟨A, cap, rfl, hc1, hc2, hg⟩ := own_form hv
  obtain ⟨g, rfl, hgB, hcell⟩ := hg (by simp)
  have d7 := hcell 7 (.int .u8 0) (by simp [bytesV])
  have d8 := hcell 8 (.int .u8 0) (by simp [bytesV])
  have f7 := World.ownsRow.frozenAt hv 7
  have f8 := World.ownsRow.frozenAt hv 8
  have hwB : w.heap.size ≤ B := by rw [hB]; exact Hbx.out.size
  have Hb3 := Lib.hid (Hbx.out.trans (hb3.mono hwB))
  have Hv := Lib.hid hv
  have HB := Lib.hid hB
  have hz3 : B ≤ w3.heap.size := by have := hb3.size; rw [← hB] at this; exact this
  clear hb3 hv hB hcell hg
  simp only [List.length_cons, List.length_nil, Nat.zero_add, Nat.reduceAdd] at hc1 ⊢
  go_wp2_with fail
  have hv := ((Hv.out.stored 7 (.int .u8 ((295 + (r : Int)) / 256))).1.stored 8 (.int .u8 ((295 + (r : Int)) % 256))).1
  have hb4 : Below w.heap.size w ((w3.setCell ⟨g, 7, none⟩ (.int .u8 ((295 + (r : Int)) / 256))).setCell ⟨g, 8, none⟩ (.int .u8 ((295 + (r : Int)) % 256))) := (Hb3.out.setCell (by exact Nat.le_trans hwB hgB) _).setCell (by exact Nat.le_trans hwB hgB) _
  have hz4 : B ≤ ((w3.setCell ⟨g, 7, none⟩ (.int .u8 ((295 + (r : Int)) / 256))).setCell ⟨g, 8, none⟩ (.int .u8 ((295 + (r : Int)) % 256))).heap.size := by simp [World.setCell]; exact hz3
  have hm0 : (((bytesV [67, 85, 66, 49, 1, 2, 0, 0, 0]).set 7 (.int .u8 ((295 + (r : Int)) / 256))).set 8 (.int .u8 ((295 + (r : Int)) % 256))) = bytesV (manyB (295 + r) 0) := by
    rw [manyB, many_head _ (by omega)]
    simp [many, bytesV]
  rw [hm0] at hv
  have hml : (manyB (295 + r) 0).length = 9 := by rw [manyB_len]
  have hv' : BytesW ((w3.setCell ⟨g, 7, none⟩ (.int .u8 ((295 + (r : Int)) / 256))).setCell ⟨g, 8, none⟩ (.int .u8 ((295 + (r : Int)) % 256))) B (.slice (some ⟨g, 0, none⟩) 9 cap) (manyB (295 + r) 0) := by unfold BytesW; rw [hml]; exact hv
  generalize (w3.setCell _ _).setCell _ _ = w4 at hv hv' hb4 hz4 ⊢
  have Gv := Lib.hid hv'
  have Gb := Lib.hid hb4
  clear hv hv' hb4 hm0 hml d7 d8 f7 f8 Hv Hb3 hz3
  go_loopw [5, 6] (fun v i wr => ∃ j : Nat, j ≤ 295 + r ∧ i = .int .i64 j ∧ BytesW wr B v (manyB (295 + r) j) ∧ Below w.heap.size w wr ∧ B ≤ wr.heap.size) (fun _ i _ => 295 + r - (intOf i).toNat)
  case atStart => exact ⟨0, by omega, rfl, Gv.out, Gb.out, hz4⟩
  case round =>
    rename World => wj
    obtain ⟨j, hj, rfl, hv, hb, hz⟩ := hrel
    have Jv := Lib.hid hv
    have Jb := Lib.hid hb
    clear hv hb Gv Gb hz4
    by_cases hlt : j < 295 + r
    · have hlt2 : (j : Int) < 295 + (r : Int) := by omega
      obtain ⟨v', w', hrun, hv', hb'⟩ := append_byte wj B _ _ ((j : Int) % 2) wj.heap.size rfl Jv.out (by rw [manyB_len]; omega) hz
      rw [← manyB_snoc] at hv'
      have Hv' := Lib.hid hv'
      have Hz' := Lib.hid (Nat.le_trans hz hb'.size)
      have Hb' := Lib.hid (Jb.out.trans (hb'.mono hwB))
      have Hrun := Lib.hid hrun
      clear hrun hv' hb'
      go_wp2_with (at_builtin; have _t := Hrun; refine wpList_append_eq rfl (.tmp 39) (.tmp 43) 36 rfl _ _ _ _ rfl rfl Hrun.out ?_; clear _t Hrun)
      exact ⟨⟨j + 1, by omega, by go_num, Hv'.out, Hb'.out, Hz'.out⟩, by simp [intOf]; omega⟩
    · obtain rfl : j = 295 + r := by omega
      have hlt2 : ¬ ((295 + r : Nat) : Int) < 295 + (r : Int) := by omega
      obtain ⟨A', cap', hv, hc3, hc4, hn⟩ := own_bytes Jv.out (manyB_bytes _ _)
      rw [manyB_len] at hv hn hc3
      subst hv
      have HD := Lib.hid (Decode_any A' (9 + (295 + r)) cap' (manyB (295 + r) (295 + r)) wj hn hc3 (by simpa [maxLen] using hc4))
      clear hn
      by_cases hk : r ≤ 5
      · have HDb : Hid (Calls Try.prog 23 #[.slice A' (9 + (295 + r)) cap'] wj fun e w' => ∃ g h, e = .returned (.tuple #[.agg #[.slice (some ⟨g, 0, none⟩) 1 1, .int .i64 0], .slice (some ⟨h, 0, none⟩) (295 + r) (295 + r), .int .i64 0]) ∧ Below wj.heap.size wj w') := by
          refine Lib.hid (HD.out.mono ?_)
          intro e w' hd
          rw [manyB_enc] at hd
          obtain ⟨g, h, ps, rfl, -, -, hb, -⟩ := hd.back (many_right _) (by rw [many_len]; omega) (many_small _)
          rw [many_len]
          exact ⟨g, h, rfl, hb⟩
        clear HD
        go_wp2_with fail
        refine HDb.out.mono ?_
        rintro e w5 ⟨g5, h5, rfl, hb5⟩
        have Hb5 := Lib.hid (Jb.out.trans (hb5.mono Jb.out.size))
        clear hb5
        have hk2 : ¬ (300 : Int) < 295 + (r : Int) := by omega
        have hk3 : (((295 + r : Nat) : Int) == 295 + (r : Int)) = true := by simp
        go_wp2
        go_ret
        exact ⟨rfl, Hb5.out.alloc Hb5.out.size _⟩
      · have HDb : Hid (Calls Try.prog 23 #[.slice A' (9 + (295 + r)) cap'] wj fun e w' => e = .returned (.tuple #[.agg #[.slice none 0 0, .int .i64 0], .slice none 0 0, .int .i64 1]) ∧ Below wj.heap.size wj w') := by
          refine Lib.hid (HD.out.mono ?_)
          rintro e w' ⟨hb, (⟨_, rfl⟩ | ⟨hy, _⟩)⟩
          · exact ⟨rfl, hb⟩
          · rw [many_no _ _ (by omega) (by omega)] at hy; cases hy
        clear HD
        go_wp2_with fail
        refine HDb.out.mono ?_
        rintro e w5 ⟨rfl, hb5⟩
        have Hb5 := Lib.hid (Jb.out.trans (hb5.mono Jb.out.size))
        clear hb5
        have hk2 : (300 : Int) < 295 + (r : Int) := by omega
        go_wp2
        go_ret
        exact ⟨rfl, Hb5.out.alloc Hb5.out.size _⟩
end Go.Proofs.Ytbjlbambheogbaa
