/- The reference's ledger: contracts of its Take, Give. -/
import Derived.Test.YtmckiokiegcalaaLed1
namespace Go.Proofs.Ytmckiokiegcalaa
open Go.RowKit
set_option maxHeartbeats 1000000 in
theorem rgive_any (g : Nat) (s : LS) (n : Int) (w : World) (h : RefAt w g s) (hs : s.ok) (hn : inK .i64 n) :
    Calls Try.prog 18 #[.pointer (some ⟨g, 0, none⟩), .int .i64 n] w (RefPost g (s.give n) (.bool (s.gives n)) w) := by
  obtain ⟨n1, n2⟩ := hn
  have hs' := hs
  obtain ⟨h1, h2, h3, h4⟩ := hs'
  have c0 := Arr.cell h (i := 1) (x := s.now) rfl
  by_cases hc : 0 ≤ n ∧ n ≤ s.now
  · obtain ⟨k1, k2⟩ := LS.give_yes hc
    rw [k1, k2]
    obtain ⟨c1, c2⟩ := hc
    have f := Arr.frozen h
    have hA : RefAt (w.setCell ⟨g, 1, none⟩ (.int .i64 (s.now - n))) g ⟨s.now - n, s.most, s.all⟩ := Arr.set_ h 1 (s.now - n)
    have hO := (Only.refl g w).setCell 1 (.int .i64 (s.now - n))
    have H := Lib.hid hA
    have HO := Lib.hid hO
    clear h hs k1 k2 hA hO
    go_enter Try.func18, Try.ntmps18
    go_wp2
    go_ret
    exact ⟨rfl, H.out, HO.out⟩
  · obtain ⟨k1, k2⟩ := LS.give_no hc
    rw [k1, k2]
    by_cases c1 : n < 0
    · clear hs k1 k2 hc
      go_enter Try.func18, Try.ntmps18
      go_wp2
      go_ret
      exact ⟨rfl, h, Only.refl _ _⟩
    · have c2 : s.now < n := by omega
      clear hs k1 k2 hc
      go_enter Try.func18, Try.ntmps18
      go_wp2
      go_ret
      exact ⟨rfl, h, Only.refl _ _⟩
set_option maxHeartbeats 2000000 in
theorem rtake_any (g : Nat) (s : LS) (n : Int) (w : World) (h : RefAt w g s) (hs : s.ok) (hn : inK .i64 n) :
    Calls Try.prog 16 #[.pointer (some ⟨g, 0, none⟩), .int .i64 n] w (RefPost g (s.take n) (.bool (s.takes n)) w) := by
  obtain ⟨n1, n2⟩ := hn
  have hs' := hs
  obtain ⟨h1, h2, h3, h4⟩ := hs'
  have c0 := Arr.cell h (i := 0) (x := s.all) rfl
  have c1 := Arr.cell h (i := 1) (x := s.now) rfl
  have c2 := Arr.cell h (i := 2) (x := s.most) rfl
  have hw : IntKind.i64.wrap (s.all - s.now) = s.all - s.now := IntWalk.i64_in _ (by omega)
  by_cases hc : 0 ≤ n ∧ n ≤ s.all - s.now
  · obtain ⟨k1, k2⟩ := LS.take_yes hc
    rw [k1, k2]
    obtain ⟨b1, b2⟩ := hc
    have d1 : decide (n < 0) = false := by simp; omega
    have d2 : decide (s.all - s.now < n) = false := by simp; omega
    have hA : Arr .i64 51 (w.setCell ⟨g, 1, none⟩ (.int .i64 (s.now + n))) g [s.all, s.now + n, s.most] := Arr.set_ h 1 (s.now + n)
    have hO := (Only.refl g w).setCell 1 (.int .i64 (s.now + n))
    have f := Arr.frozen h
    have H := Lib.hid hA
    have HO := Lib.hid hO
    clear h hs k1 k2 hA hO
    go_enter Try.func16, Try.ntmps16
    go_wp2_with fail
    go_quiet (fail)
    go_wp2_with fail
    have HA : Hid (Arr .i64 51 ((w.drewN nq).setCell ⟨g, 1, none⟩ (.int .i64 (s.now + n))) g [s.all, s.now + n, s.most]) := Lib.hid H.out
    have HO' : Hid (Only g w ((w.drewN nq).setCell ⟨g, 1, none⟩ (.int .i64 (s.now + n)))) := Lib.hid ⟨HO.out.os, HO.out.tape, HO.out.output, HO.out.size, HO.out.block⟩
    clear H HO c0 c1 c2 f
    generalize (w.drewN nq).setCell ⟨g, 1, none⟩ (.int .i64 (s.now + n)) = W at HA HO' ⊢
    have c1 := Arr.cell HA.out (i := 1) (x := s.now + n) rfl
    have c2 := Arr.cell HA.out (i := 2) (x := s.most) rfl
    have f := Arr.frozen HA.out
    have hB : ∀ m, RefAt (W.setCell ⟨g, 2, none⟩ (.int .i64 m)) g ⟨s.now + n, m, s.all⟩ := fun m => Arr.set_ HA.out 2 m
    have hP : ∀ m, Only g w (W.setCell ⟨g, 2, none⟩ (.int .i64 m)) := fun m => HO'.out.setCell 2 (.int .i64 m)
    have HB := Lib.hid hB
    have HP := Lib.hid hP
    clear hB hP
    by_cases hm : s.now + n ≤ s.most
    · go_still_tail 12, (by kernel_rfl)
      go_wp2
      go_ret
      have e : max s.most (s.now + n) = s.most := by omega
      rw [e]
      exact ⟨rfl, HB.out s.most, (HP.out s.most).trans ⟨rfl, rfl, rfl, Nat.le_refl _, fun _ _ _ => rfl⟩⟩
    · go_still_tail 12, (by kernel_rfl)
      go_wp2
      go_ret
      have e : max s.most (s.now + n) = s.now + n := by omega
      rw [e]
      exact ⟨rfl, HB.out (s.now + n), (HP.out (s.now + n)).trans ⟨rfl, rfl, rfl, Nat.le_refl _, fun _ _ _ => rfl⟩⟩
  · obtain ⟨k1, k2⟩ := LS.take_no hc
    rw [k1, k2]
    by_cases b1 : n < 0
    · have d1 : decide (n < 0) = true := by simp; omega
      clear hs k1 k2 hc
      go_enter Try.func16, Try.ntmps16
      go_wp2_with fail
      go_quiet (fail)
      go_wp2
      go_ret
      exact ⟨rfl, h, only_drewN (Only.refl _ _) _⟩
    · have b2 : s.all - s.now < n := by omega
      have d1 : decide (n < 0) = false := by simp; omega
      have d2 : decide (s.all - s.now < n) = true := by simp; omega
      clear hs k1 k2 hc
      go_enter Try.func16, Try.ntmps16
      go_wp2_with fail
      go_quiet (fail)
      go_wp2
      go_ret
      exact ⟨rfl, h, only_drewN (Only.refl _ _) _⟩

/-- A step from w that lets stand all that was there. -/
theorem below_only {B : Nat} {a w w' : World} {g : Nat} (h : Below B a w) (ho : Only g w w') (hg : B ≤ g) (hs : B ≤ w.heap.size) : Below B a w' := h.trans (ho.below hg hs)

set_option maxHeartbeats 2000000 in
theorem known3 (w : World) : Calls Try.prog 11 #[] w fun e w' => e = .returned (.bool true) ∧ Below w.heap.size w w' := by
  have hn := LedAt.new w 10
  have hb : Below w.heap.size w (w.alloc (.cells #[.int .i64 0, .int .i64 0, .int .i64 10] 49)) := (Below.refl _ _).alloc (Nat.le_refl _) _
  have Hn := Lib.hid hn
  have Hb := Lib.hid hb
  clear hn hb
  go_enter Try.func11, Try.ntmps11
  go_wp2_with fail
  refine (new_any 10 w).mono ?_
  rintro e w1 ⟨rfl, rfl⟩
  generalize w.alloc (.cells #[.int .i64 0, .int .i64 0, .int .i64 10] 49) = w1 at Hn Hb ⊢
  go_wp2_with fail
  refine (used_any _ _ _ Hn.out).mono ?_
  rintro e w2 ⟨rfl, rfl⟩
  simp only [LS.new]
  go_wp2_with fail
  refine (take_any _ _ 7 _ Hn.out (LS.ok_new (by omega) (by omega)) (by simp [inK])).mono ?_
  rintro e w2 ⟨rfl, h2, h3⟩
  rw [show (LS.new 10).take 7 = ⟨7, 7, 10⟩ from rfl] at h2
  rw [show (LS.new 10).takes 7 = true from rfl]
  have H2 := Lib.hid h2
  have Hb2 := Lib.hid (below_only Hb.out h3 (Nat.le_refl _) Hb.out.size)
  clear h2 h3
  go_wp2_with fail
  refine (used_any _ _ _ H2.out).mono ?_
  rintro e w3 ⟨rfl, rfl⟩
  simp only []
  go_wp2_with fail
  refine (take_any _ _ 4 _ H2.out ⟨by decide, by decide, by decide, by decide⟩ (by simp [inK])).mono ?_
  rintro e w3 ⟨rfl, h3, h4⟩
  rw [show (LS.take ⟨7, 7, 10⟩ 4) = ⟨7, 7, 10⟩ from rfl] at h3
  rw [show LS.takes ⟨7, 7, 10⟩ 4 = false from rfl]
  have H3 := Lib.hid h3
  have Hb3 := Lib.hid (below_only Hb2.out h4 (Nat.le_refl _) Hb2.out.size)
  clear h3 h4
  go_wp2_with fail
  refine (give_any _ _ 3 _ H3.out ⟨by decide, by decide, by decide, by decide⟩ (by simp [inK])).mono ?_
  rintro e w4 ⟨rfl, h4, h5⟩
  rw [show (LS.give ⟨7, 7, 10⟩ 3) = ⟨4, 7, 10⟩ from rfl] at h4
  rw [show LS.gives ⟨7, 7, 10⟩ 3 = true from rfl]
  have H4 := Lib.hid h4
  have Hb4 := Lib.hid (below_only Hb3.out h5 (Nat.le_refl _) Hb3.out.size)
  clear h4 h5
  go_wp2_with fail
  refine (high_any _ _ _ H4.out).mono ?_
  rintro e w5 ⟨rfl, rfl⟩
  simp only []
  go_wp2
  go_ret
  exact ⟨rfl, Hb4.out⟩
end Go.Proofs.Ytmckiokiegcalaa
