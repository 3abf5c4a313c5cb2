import Derived.Test.YtejjbbomkedpcaaBack
namespace Go.Proofs.Ytejjbbomkedpcaa
open Go.RowKit
set_option maxHeartbeats 2000000 in
/-- known: it holds. -/
theorem known_any (w : World) : Calls Try.prog 4 #[] w fun e w' => e = .returned (.bool true) ∧ Below w.heap.size w w' := by
  go_enter Try.func4, Try.ntmps4
  go_wp2_with fail
  refine (Decode_any none 0 0 [] _ (Nums.nil _ _ _) (by omega) (by omega)).mono ?_
  rintro e w1 ⟨hb1, (⟨hno, rfl⟩ | ⟨hyes, _⟩)⟩
  · have HB1 := Lib.hid hb1
    clear hno hb1
    go_wp2_with fail
    obtain ⟨B, hB⟩ : ∃ B, B = w1.heap.size := ⟨_, rfl⟩
    rw [← hB]
    have a1 : Arr .i64 3 ((((((w1.alloc (.cells #[.slice none 0 0, .int .i64 0] 24)).alloc (.cells #[.int .i64 3] 3)).alloc (.cells #[.slice (some ⟨B + 1, 0, none⟩) 1 1, .int .i64 1] 24)).alloc (.cells #[.int .i64 2] 3)).alloc (.cells #[.int .i64 7] 3)).alloc (.cells #[.slice (some ⟨B + 1 + 1 + 1, 0, none⟩) 1 1, .slice (some ⟨B + 1 + 1 + 1 + 1, 0, none⟩) 1 1] 33)) (B + 1) [3] :=
      ((((Arr.new _ .i64 3 [3] (B + 1) (by simp [hB])).alloc _).alloc _).alloc _).alloc _
    have a2 : Arr .i64 3 ((((((w1.alloc (.cells #[.slice none 0 0, .int .i64 0] 24)).alloc (.cells #[.int .i64 3] 3)).alloc (.cells #[.slice (some ⟨B + 1, 0, none⟩) 1 1, .int .i64 1] 24)).alloc (.cells #[.int .i64 2] 3)).alloc (.cells #[.int .i64 7] 3)).alloc (.cells #[.slice (some ⟨B + 1 + 1 + 1, 0, none⟩) 1 1, .slice (some ⟨B + 1 + 1 + 1 + 1, 0, none⟩) 1 1] 33)) (B + 1 + 1 + 1) [2] :=
      ((Arr.new _ .i64 3 [2] (B + 1 + 1 + 1) (by simp [hB])).alloc _).alloc _
    have a3 : Arr .i64 3 ((((((w1.alloc (.cells #[.slice none 0 0, .int .i64 0] 24)).alloc (.cells #[.int .i64 3] 3)).alloc (.cells #[.slice (some ⟨B + 1, 0, none⟩) 1 1, .int .i64 1] 24)).alloc (.cells #[.int .i64 2] 3)).alloc (.cells #[.int .i64 7] 3)).alloc (.cells #[.slice (some ⟨B + 1 + 1 + 1, 0, none⟩) 1 1, .slice (some ⟨B + 1 + 1 + 1 + 1, 0, none⟩) 1 1] 33)) (B + 1 + 1 + 1 + 1) [7] :=
      (Arr.new _ .i64 3 [7] (B + 1 + 1 + 1 + 1) (by simp [hB])).alloc _
    have a4 : Own 33 ((((((w1.alloc (.cells #[.slice none 0 0, .int .i64 0] 24)).alloc (.cells #[.int .i64 3] 3)).alloc (.cells #[.slice (some ⟨B + 1, 0, none⟩) 1 1, .int .i64 1] 24)).alloc (.cells #[.int .i64 2] 3)).alloc (.cells #[.int .i64 7] 3)).alloc (.cells #[.slice (some ⟨B + 1 + 1 + 1, 0, none⟩) 1 1, .slice (some ⟨B + 1 + 1 + 1 + 1, 0, none⟩) 1 1] 33)) (B + 1 + 1 + 1 + 1 + 1) (rowCells 1 1 [(B + 1 + 1 + 1, B + 1 + 1 + 1 + 1)]) :=
      Own.new _ 33 _ (B + 1 + 1 + 1 + 1 + 1) (by simp [hB])
    have a5 : Box2 24 ((((((w1.alloc (.cells #[.slice none 0 0, .int .i64 0] 24)).alloc (.cells #[.int .i64 3] 3)).alloc (.cells #[.slice (some ⟨B + 1, 0, none⟩) 1 1, .int .i64 1] 24)).alloc (.cells #[.int .i64 2] 3)).alloc (.cells #[.int .i64 7] 3)).alloc (.cells #[.slice (some ⟨B + 1 + 1 + 1, 0, none⟩) 1 1, .slice (some ⟨B + 1 + 1 + 1 + 1, 0, none⟩) 1 1] 33)) (B + 1 + 1) (.slice (some ⟨B + 1, 0, none⟩) 1 1) (.int .i64 1) :=
      (((show Box2 24 _ _ _ _ from heap_new _ _ (B + 1 + 1) (by simp [hB])).alloc _).alloc _).alloc _
    have hb : Below w.heap.size w ((((((w1.alloc (.cells #[.slice none 0 0, .int .i64 0] 24)).alloc (.cells #[.int .i64 3] 3)).alloc (.cells #[.slice (some ⟨B + 1, 0, none⟩) 1 1, .int .i64 1] 24)).alloc (.cells #[.int .i64 2] 3)).alloc (.cells #[.int .i64 7] 3)).alloc (.cells #[.slice (some ⟨B + 1 + 1 + 1, 0, none⟩) 1 1, .slice (some ⟨B + 1 + 1 + 1 + 1, 0, none⟩) 1 1] 33)) := by
      have := HB1.out.size
      exact (((((HB1.out.alloc (by omega) _).alloc (by simp; omega) _).alloc (by simp; omega) _).alloc (by simp; omega) _).alloc (by simp; omega) _).alloc (by simp; omega) _
    generalize (((((w1.alloc _).alloc _).alloc _).alloc _).alloc _).alloc _ = w2 at a1 a2 a3 a4 a5 hb ⊢
    have ha : allRightB [3] 1 [⟨[2], [7]⟩] = true := by decide
    have hs : Small [⟨[2], [7]⟩] := by intro r hr x hx; simp at hr; subst hr; simp at hx; subst hx; simp [inK]
    have hnc : Nums .i64 w2 (some ⟨B + 1, 0, none⟩) 1 [3] := a1.nums (by simp [inK])
    have hro : RowsOwn w2 0 [(B + 1 + 1 + 1, B + 1 + 1 + 1 + 1)] [⟨[2], [7]⟩] := by
      have := (RowsOwn.nil w2 0).snoc (r := ⟨[2], [7]⟩) (Nat.zero_le _) (Nat.zero_le _) a2 a3
      simpa using this
    have hfa : Facts w2 (some ⟨B + 1 + 1 + 1 + 1 + 1, 0, none⟩) 1 [⟨[2], [7]⟩] := RowsOwn.facts a4 hro (by intro r hr; simp at hr; subst hr; simp [inK])
    have hn2 : Nums .i64 w2 (some ⟨B + 1 + 1 + 1, 0, none⟩) 1 [2] ∧ Nums .i64 w2 (some ⟨B + 1 + 1 + 1 + 1, 0, none⟩) 1 [7] := ⟨a2.nums (by simp [inK]), a3.nums (by simp [inK])⟩
    have Hn2 := Lib.hid hn2
    have Hnc := Lib.hid hnc
    have Hfa := Lib.hid hfa
    have Ha4 := Lib.hid a4
    have Ha5 := Lib.hid a5
    have Hb := Lib.hid hb
    clear hn2 a1 a2 a3 a4 a5 hb hnc hro hfa HB1 hB
    refine (Encode_any _ _ 1 1 1 1 [3] 1 [⟨[2], [7]⟩] w2 Hnc.out Hfa.out (by omega) ha).mono ?_
    rintro e w3 ⟨g, rfl, hbuf, hb3, hg⟩
    have hbb : Bytes (encB [3] 1 [⟨[2], [7]⟩]) := encB_bytes _ _ _
    have hnum : Nums .u8 w3 (some ⟨g, 0, none⟩) _ _ := Arr.nums (T := 5) hbuf hbb
    have Hb3 := Lib.hid (Hb.out.trans (hb3.mono Hb.out.size))
    have Hkeep := Lib.hid hb3
    have Hnum := Lib.hid hnum
    clear hbuf hb3 hnum hbb
    go_wp2_with fail
    refine (Decode_any _ _ _ _ w3 Hnum.out (by omega) (by decide)).mono ?_
    intro e w4 hd
    obtain ⟨g4, h4, ps4, rfl, hn4, hf4, hb4, -, -, -, -⟩ := hd.back ha (by decide) hs
    have Hk4 := Lib.hid (Hkeep.out.trans (hb4.mono Hkeep.out.size))
    have Hb4 := Lib.hid (Hb3.out.trans (hb4.mono Hb3.out.size))
    have Hn4 := Lib.hid hn4
    have Hf4 := Lib.hid hf4
    clear hd hn4 hf4 hb4
    have hbw : w2.heap.size ≤ w4.heap.size := Hk4.out.size
    obtain ⟨w5, hw5⟩ : ∃ w5, w5 = w4.alloc (.cells #[.slice (some ⟨g4, 0, none⟩) 1 1, .int .i64 1] 24) := ⟨_, rfl⟩
    have hk5 : Below w2.heap.size w2 w5 := by rw [hw5]; exact Hk4.out.alloc hbw _
    have hb5 : Below w.heap.size w w5 := by rw [hw5]; exact Hb4.out.alloc Hb4.out.size _
    have hx4 : Box2 24 w5 (B + 1 + 1) (.slice (some ⟨B + 1, 0, none⟩) 1 1) (.int .i64 1) := Ha5.out.below hk5 Ha5.out.lt
    have hx6 : Box2 24 w5 w4.heap.size (.slice (some ⟨g4, 0, none⟩) 1 1) (.int .i64 1) := by rw [hw5]; exact Box2.new _ _ _ _
    have hrow := Ha4.out.below hk5 Ha4.out.lt
    have r0 : w5.cell? ⟨B + 1 + 1 + 1 + 1 + 1, 0, none⟩ = some (.slice (some ⟨B + 1 + 1 + 1, 0, none⟩) 1 1) := hrow.cell (i := 0) rfl
    have r1 : w5.cell? ⟨B + 1 + 1 + 1 + 1 + 1, 1, none⟩ = some (.slice (some ⟨B + 1 + 1 + 1 + 1, 0, none⟩) 1 1) := hrow.cell (i := 1) rfl
    have hk45 : Keeps w4 w5 := by rw [hw5]; exact (Keeps.refl _).alloc _
    have k0 := cell_regrown hx4.cell0
    have k1 := cell_regrown hx4.cell1
    have k2 := cell_regrown hx6.cell0
    have k3 := cell_regrown hx6.cell1
    have k4 := cell_regrown r0
    have k5 := cell_regrown r1
    have hK : ∀ p : Regrown, Keeps w5 (Go.Sort.grow (redrawn w5 p.d) p.os) := fun p => Keeps.of_below (below_regrown _ _ _)
    have hnc5 := Hnc.out.keep (Keeps.of_below hk5)
    have hfa5 := Hfa.out.keep (Keeps.of_below hk5)
    have hn45 := Hn4.out.keep hk45
    have hf45 := Hf4.out.keep hk45
    have n2 : Nums .i64 w5 (some ⟨B + 1 + 1 + 1, 0, none⟩) 1 [2] ∧ Nums .i64 w5 (some ⟨B + 1 + 1 + 1 + 1, 0, none⟩) 1 [7] := ⟨Hn2.out.1.keep (Keeps.of_below hk5), Hn2.out.2.keep (Keeps.of_below hk5)⟩
    have q1 := fun p : Regrown => Calls.regrown_of (Same_any _ _ _ _ 1 1 1 1 1 1 1 1 [3] [3] 1 1 [⟨[2], [7]⟩] [⟨[2], [7]⟩] _ (hnc5.keep (hK p)) (hfa5.keep (hK p)) (hn45.keep (hK p)) (hf45.keep (hK p)) (by omega) (by omega) (by decide))
    have q2 := fun p : Regrown => Calls.regrown_of (Check_any _ 1 1 [3] 1 _ (hnc5.keep (hK p)) (by omega) (by simp [inK]))
    have q3 := fun p : Regrown => Calls.regrown_of (Right_any _ _ _ 1 1 1 1 1 1 [3] 1 ⟨[2], [7]⟩ _ (hnc5.keep (hK p)) (n2.1.keep (hK p)) (n2.2.keep (hK p)) (by omega) (by omega) (by omega) (by simp [inK]))
    have q4 := fun p : Regrown => Calls.regrown_of (Sound_any _ _ 1 1 1 1 [3] 1 [⟨[2], [7]⟩] _ (hnc5.keep (hK p)) (hfa5.keep (hK p)) (by omega) (by omega) (by decide) (by simp [inK]))
    rw [show sameB [3] 1 [⟨[2], [7]⟩] [3] 1 [⟨[2], [7]⟩] = true from by decide] at q1
    rw [show checkB [3] 1 = true from by decide] at q2
    rw [show rightB [3] 1 ⟨[2], [7]⟩ = true from by decide] at q3
    rw [show soundB [3] 1 [⟨[2], [7]⟩] = true from by decide] at q4
    have Q1 := Lib.hid q1
    have Q2 := Lib.hid q2
    have Q3 := Lib.hid q3
    have Q4 := Lib.hid q4
    have Hb5 := Lib.hid hb5
    clear q1 q2 q3 q4 n2 hnc5 hfa5 hn45 hf45 hK hx4 hx6 hrow r0 r1 hk45 hk5 hb5
    go_wp2_with fail
    rw [← hw5]
    clear hw5
    refine wp_region_quiet_below (by kernel_rfl) (by kernel_rfl) ?_
    repeat (go_big_quiet_step (first | with_reducible exact Q1.out _ | with_reducible exact Q2.out _ | with_reducible exact Q3.out _ | with_reducible exact Q4.out _))
    refine wpQuiet_nil ?_
    intro _ hw'
    obtain ⟨p, rfl⟩ := hw'
    go_wp2
    go_ret
    exact ⟨rfl, Hb5.out.trans ((below_regrown _ _ _).mono Hb5.out.size)⟩
  · exfalso
    revert hyes
    decide
end Go.Proofs.Ytejjbbomkedpcaa
