/- Ledgers: what one holds, what a take, a give make of it; contracts of package ledger alone; what the law knows of it. -/
import Derived.Test.YtnabmbnfmnpcoaaBase2
import Derived.Test.YtnabmbnfmnpcoaaProg
import Derived.OpenShut
import Derived.StillTailTactics
namespace Go.Proofs.Ytnabmbnfmnpcoaa
open Go.RowKit

/-- What a ledger holds: what is used now, the most that was, the budget. -/
structure LS where
  now : Int
  most : Int
  all : Int
def LS.ok (s : LS) : Prop := 0 ≤ s.now ∧ s.now ≤ s.most ∧ s.most ≤ s.all ∧ s.all ≤ 9223372036854775807
def LS.takes (s : LS) (n : Int) : Bool := decide (0 ≤ n ∧ n ≤ s.all - s.now)
def LS.gives (s : LS) (n : Int) : Bool := decide (0 ≤ n ∧ n ≤ s.now)
def LS.take (s : LS) (n : Int) : LS := if s.takes n = true then ⟨s.now + n, max s.most (s.now + n), s.all⟩ else s
def LS.give (s : LS) (n : Int) : LS := if s.gives n = true then ⟨s.now - n, s.most, s.all⟩ else s
def LS.new (k : Int) : LS := ⟨0, 0, k⟩
theorem LS.take_yes {s : LS} {n : Int} (h : 0 ≤ n ∧ n ≤ s.all - s.now) : s.takes n = true ∧ s.take n = ⟨s.now + n, max s.most (s.now + n), s.all⟩ := by
  have : s.takes n = true := by simpa [LS.takes] using h
  exact ⟨this, by rw [LS.take, if_pos this]⟩
theorem LS.take_no {s : LS} {n : Int} (h : ¬ (0 ≤ n ∧ n ≤ s.all - s.now)) : s.takes n = false ∧ s.take n = s := by
  have : s.takes n = false := by rw [LS.takes]; exact decide_eq_false h
  exact ⟨this, by rw [LS.take, if_neg (by simp [this])]⟩
theorem LS.give_yes {s : LS} {n : Int} (h : 0 ≤ n ∧ n ≤ s.now) : s.gives n = true ∧ s.give n = ⟨s.now - n, s.most, s.all⟩ := by
  have : s.gives n = true := by simpa [LS.gives] using h
  exact ⟨this, by rw [LS.give, if_pos this]⟩
theorem LS.give_no {s : LS} {n : Int} (h : ¬ (0 ≤ n ∧ n ≤ s.now)) : s.gives n = false ∧ s.give n = s := by
  have : s.gives n = false := by rw [LS.gives]; exact decide_eq_false h
  exact ⟨this, by rw [LS.give, if_neg (by simp [this])]⟩
theorem LS.ok_new {k : Int} (h : 0 ≤ k) (h2 : k ≤ 9223372036854775807) : (LS.new k).ok := ⟨Int.le_refl _, Int.le_refl _, h, h2⟩
theorem LS.ok_take {s : LS} (h : s.ok) (n : Int) : (s.take n).ok := by
  obtain ⟨h1, h2, h3, h4⟩ := h
  by_cases hc : 0 ≤ n ∧ n ≤ s.all - s.now
  · rw [(LS.take_yes hc).2]
    refine ⟨by show 0 ≤ s.now + n; omega, by show s.now + n ≤ max s.most (s.now + n); omega, by show max s.most (s.now + n) ≤ s.all; omega, h4⟩
  · rw [(LS.take_no hc).2]; exact ⟨h1, h2, h3, h4⟩
theorem LS.ok_give {s : LS} (h : s.ok) (n : Int) : (s.give n).ok := by
  obtain ⟨h1, h2, h3, h4⟩ := h
  by_cases hc : 0 ≤ n ∧ n ≤ s.now
  · rw [(LS.give_yes hc).2]
    refine ⟨by show 0 ≤ s.now - n; omega, by show s.now - n ≤ s.most; omega, h3, h4⟩
  · rw [(LS.give_no hc).2]; exact ⟨h1, h2, h3, h4⟩
theorem LS.all_take (s : LS) (n : Int) : (s.take n).all = s.all := by unfold LS.take; split <;> rfl
theorem LS.all_give (s : LS) (n : Int) : (s.give n).all = s.all := by unfold LS.give; split <;> rfl

/-- A ledger of the package's at block g; the reference's. -/
def LedAt (w : World) (g : Nat) (s : LS) : Prop := Arr .i64 77 w g [s.now, s.most, s.all]
theorem arr_only {kd : IntKind} {T : TypeId} {w w' : World} {g k : Nat} {xs : List Int} (h : Arr kd T w g xs) (hb : Only k w w') (hg : g ≠ k) : Arr kd T w' g xs := (hb.block g h.lt hg).trans h
theorem LedAt.only {w w' : World} {g k : Nat} {s : LS} (h : LedAt w g s) (hb : Only k w w') (hg : g ≠ k) : LedAt w' g s := arr_only h hb hg
theorem LedAt.below {B : Nat} {w w' : World} {g : Nat} {s : LS} (h : LedAt w g s) (hb : Below B w w') (hg : g < B) : LedAt w' g s := Arr.below h hb hg
theorem LedAt.lt {w : World} {g : Nat} {s : LS} (h : LedAt w g s) : g < w.heap.size := Arr.lt h
/-- What a change of a ledger leaves. -/
def LedPost (g : Nat) (s : LS) (v : Value) (w : World) (e : Ending) (w' : World) : Prop := e = .returned v ∧ LedAt w' g s ∧ Only g w w'
/-- What a look leaves. -/
def SameQ (v : Value) (w : World) (e : Ending) (w' : World) : Prop := e = .returned v ∧ ∃ q, w' = w.drewN q

/-! ### Package ledger -/
set_option maxHeartbeats 400000 in
theorem new_any (k : Int) (w : World) :
    Calls Try.prog 33 #[.int .i64 k] w fun e w' => e = .returned (.pointer (some ⟨w.heap.size, 0, none⟩)) ∧ w' = w.alloc (.cells #[.int .i64 0, .int .i64 0, .int .i64 k] 77) := by
  go_enter Try.func33, Try.ntmps33
  go_wp2
  go_ret
  exact ⟨rfl, rfl⟩
theorem LedAt.new (w : World) (k : Int) : LedAt (w.alloc (.cells #[.int .i64 0, .int .i64 0, .int .i64 k] 77)) w.heap.size (LS.new k) := heap_alloc_new w _
set_option maxHeartbeats 400000 in
theorem used_any (g : Nat) (s : LS) (w : World) (h : LedAt w g s) :
    Calls Try.prog 34 #[.pointer (some ⟨g, 0, none⟩)] w fun e w' => e = .returned (.int .i64 s.now) ∧ w = w' := by
  have c0 := Arr.cell h (i := 0) (x := s.now) rfl
  clear h
  go_enter Try.func34, Try.ntmps34
  go_wp2
  go_ret
  exact ⟨rfl, rfl⟩
set_option maxHeartbeats 400000 in
theorem high_any (g : Nat) (s : LS) (w : World) (h : LedAt w g s) :
    Calls Try.prog 37 #[.pointer (some ⟨g, 0, none⟩)] w fun e w' => e = .returned (.int .i64 s.most) ∧ w = w' := by
  have c0 := Arr.cell h (i := 1) (x := s.most) rfl
  clear h
  go_enter Try.func37, Try.ntmps37
  go_wp2
  go_ret
  exact ⟨rfl, rfl⟩
set_option maxHeartbeats 400000 in
theorem left_any (g : Nat) (s : LS) (w : World) (h : LedAt w g s) (hs : s.ok) :
    Calls Try.prog 55 #[.pointer (some ⟨g, 0, none⟩)] w (SameQ (.int .i64 (s.all - s.now)) w) := by
  have c0 := Arr.cell h (i := 0) (x := s.now) rfl
  have c1 := Arr.cell h (i := 2) (x := s.all) rfl
  obtain ⟨h1, h2, h3, h4⟩ := hs
  have hw : IntKind.i64.wrap (s.all - s.now) = s.all - s.now := IntWalk.i64_in _ (by omega)
  clear h
  go_enter Try.func55, Try.ntmps55
  go_wp2_with fail
  go_quiet (fail)
  go_wp2
  go_ret
  exact ⟨rfl, _, rfl⟩
set_option maxHeartbeats 400000 in
theorem move_any (g : Nat) (a b c t : Int) (w : World) (h : Arr .i64 77 w g [a, b, c]) :
    Calls Try.prog 56 #[.pointer (some ⟨g, 0, none⟩), .int .i64 t] w fun e w' => e = .returned (.tuple #[]) ∧ Arr .i64 77 w' g [t, max b t, c] ∧ Only g w w' := by
  have c0 := Arr.cell h (i := 0) (x := a) rfl
  have c1 := Arr.cell h (i := 1) (x := b) rfl
  have f := Arr.frozen h
  have h1 := h.set_ 0 t
  have h2 : ∀ m, Arr .i64 77 ((w.setCell ⟨g, 0, none⟩ (.int .i64 t)).setCell ⟨g, 1, none⟩ (.int .i64 m)) g [t, m, c] := fun m => h1.set_ 1 m
  have hO : ∀ m, Only g w ((w.setCell ⟨g, 0, none⟩ (.int .i64 t)).setCell ⟨g, 1, none⟩ (.int .i64 m)) := fun m => ((Only.refl g w).setCell 0 (.int .i64 t)).setCell 1 (.int .i64 m)
  have c2 := Arr.cell h1 (i := 1) (x := b) rfl
  have f2 := Arr.frozen h1
  have H2 := Lib.hid h2
  have HO := Lib.hid hO
  clear h h1 h2 hO
  by_cases hm : t ≤ b
  · have e : max b t = b := by omega
    rw [e]
    clear e
    go_enter Try.func56, Try.ntmps56
    go_wp2
    go_end0
    exact ⟨rfl, H2.out _, HO.out _⟩
  · have e : max b t = t := by omega
    rw [e]
    clear e
    go_enter Try.func56, Try.ntmps56
    go_wp2
    go_end0
    exact ⟨rfl, H2.out _, HO.out _⟩
set_option maxHeartbeats 1000000 in
theorem atake_any (g : Nat) (s : LS) (n : Int) (w : World) (h : LedAt w g s) (hs : s.ok) (hn : inK .i64 n) :
    Calls Try.prog 49 #[.pointer (some ⟨g, 0, none⟩), .int .i64 n] w (LedPost g (s.take n) (.bool (s.takes n)) w) := by
  obtain ⟨n1, n2⟩ := hn
  have hs' := hs
  obtain ⟨h1, h2, h3, h4⟩ := hs'
  by_cases hc : 0 ≤ n ∧ n ≤ s.all - s.now
  · obtain ⟨k1, k2⟩ := LS.take_yes hc
    rw [k1, k2]
    obtain ⟨c1, c2⟩ := hc
    have c0 := Arr.cell h (i := 0) (x := s.now) rfl
    have H := Lib.hid h
    have Hs := Lib.hid hs
    have hw : IntKind.i64.wrap (s.now + n) = s.now + n := IntWalk.i64_in _ (by omega)
    have d1 : decide (n < 0) = false := by simp; omega
    have d2 : decide (s.all - s.now < n) = false := by simp; omega
    clear h hs k1 k2
    go_enter Try.func49, Try.ntmps49
    go_wp2_with fail
    refine (left_any g s _ H.out Hs.out).mono ?_
    rintro e w1 ⟨rfl, q, rfl⟩
    go_wp2_with fail
    have c0 : (w.drewN q).cell? ⟨g, 0, none⟩ = some (.int .i64 s.now) := c0
    have H : Hid (LedAt (w.drewN q) g s) := Lib.hid H.out
    have Ho : Hid (Only g w (w.drewN q)) := Lib.hid (only_drewN (Only.refl g w) q)
    generalize w.drewN q = W at c0 H Ho ⊢
    go_still_tail 10, (by kernel_rfl)
    change wpList _ _ _ _ _ W.drew
    go_wp2_with fail
    refine (move_any g _ s.most s.all _ _ (by exact H.out)).mono ?_
    rintro e w2 ⟨rfl, h6, h7⟩
    have H6 := Lib.hid h6
    have H7 := Lib.hid h7
    clear h6 h7
    go_wp2
    go_ret
    exact ⟨rfl, H6.out, Ho.out.trans ⟨H7.out.os, H7.out.tape, H7.out.output, H7.out.size, H7.out.block⟩⟩
  · obtain ⟨k1, k2⟩ := LS.take_no hc
    rw [k1, k2]
    by_cases c1 : n < 0
    · clear hs k1 k2 hc
      go_enter Try.func49, Try.ntmps49
      go_wp2
      go_ret
      exact ⟨rfl, h, Only.refl _ _⟩
    · have c2 : s.all - s.now < n := by omega
      have H := Lib.hid h
      have Hs := Lib.hid hs
      clear hs k1 k2 hc h
      go_enter Try.func49, Try.ntmps49
      go_wp2_with fail
      refine (left_any g s _ H.out Hs.out).mono ?_
      rintro e w1 ⟨rfl, q, rfl⟩
      go_wp2
      go_ret
      exact ⟨rfl, H.out, only_drewN (Only.refl _ _) _⟩
set_option maxHeartbeats 1000000 in
theorem agive_any (g : Nat) (s : LS) (n : Int) (w : World) (h : LedAt w g s) (hs : s.ok) (hn : inK .i64 n) :
    Calls Try.prog 50 #[.pointer (some ⟨g, 0, none⟩), .int .i64 n] w (LedPost g (s.give n) (.bool (s.gives n)) w) := by
  obtain ⟨n1, n2⟩ := hn
  have hs' := hs
  obtain ⟨h1, h2, h3, h4⟩ := hs'
  have c0 := Arr.cell h (i := 0) (x := s.now) rfl
  by_cases hc : 0 ≤ n ∧ n ≤ s.now
  · obtain ⟨k1, k2⟩ := LS.give_yes hc
    rw [k1, k2]
    obtain ⟨c1, c2⟩ := hc
    have H := Lib.hid h
    have hw : IntKind.i64.wrap (s.now - n) = s.now - n := IntWalk.i64_in _ (by omega)
    have hm : max s.most (s.now - n) = s.most := by omega
    have Hm := Lib.hid hm
    clear h hs k1 k2 hm
    go_enter Try.func50, Try.ntmps50
    go_wp2_with fail
    go_still_tail 10, (by kernel_rfl)
    change wpList _ _ _ _ _ w.drew
    go_wp2_with fail
    refine (move_any g _ s.most s.all _ _ (by exact H.out)).mono ?_
    rintro e w2 ⟨rfl, h6, h7⟩
    rw [Hm.out] at h6
    have H6 := Lib.hid h6
    have H7 := Lib.hid h7
    clear h6 h7
    go_wp2
    go_ret
    exact ⟨rfl, H6.out, ⟨H7.out.os, H7.out.tape, H7.out.output, H7.out.size, H7.out.block⟩⟩
  · obtain ⟨k1, k2⟩ := LS.give_no hc
    rw [k1, k2]
    by_cases c1 : n < 0
    · clear hs k1 k2 hc
      go_enter Try.func50, Try.ntmps50
      go_wp2
      go_ret
      exact ⟨rfl, h, Only.refl _ _⟩
    · have c2 : s.now < n := by omega
      clear hs k1 k2 hc
      go_enter Try.func50, Try.ntmps50
      go_wp2
      go_ret
      exact ⟨rfl, h, Only.refl _ _⟩
set_option maxHeartbeats 400000 in
theorem take_any (g : Nat) (s : LS) (n : Int) (w : World) (h : LedAt w g s) (hs : s.ok) (hn : inK .i64 n) :
    Calls Try.prog 35 #[.pointer (some ⟨g, 0, none⟩), .int .i64 n] w (LedPost g (s.take n) (.bool (s.takes n)) w) := by
  have f := Arr.frozen h
  have c0 := Arr.cell h (i := 0) (x := s.now) rfl
  have H := Lib.hid h
  have Hs := Lib.hid hs
  have Hn := Lib.hid hn
  clear h hs hn
  go_enter Try.func35, Try.ntmps35
  go_wp2_with fail
  refine (atake_any g s n _ H.out Hs.out Hn.out).mono ?_
  rintro e w1 ⟨rfl, h2, h3⟩
  have H2 := Lib.hid h2
  have H3 := Lib.hid h3
  clear h2 h3
  go_wp2
  go_ret
  exact ⟨rfl, H2.out, H3.out⟩
set_option maxHeartbeats 400000 in
theorem give_any (g : Nat) (s : LS) (n : Int) (w : World) (h : LedAt w g s) (hs : s.ok) (hn : inK .i64 n) :
    Calls Try.prog 36 #[.pointer (some ⟨g, 0, none⟩), .int .i64 n] w (LedPost g (s.give n) (.bool (s.gives n)) w) := by
  have c0 := Arr.cell h (i := 0) (x := s.now) rfl
  have H := Lib.hid h
  have Hs := Lib.hid hs
  have Hn := Lib.hid hn
  clear h hs hn
  go_enter Try.func36, Try.ntmps36
  go_wp2_with fail
  refine (agive_any g s n _ H.out Hs.out Hn.out).mono ?_
  rintro e w1 ⟨rfl, h2, h3⟩
  have H2 := Lib.hid h2
  have H3 := Lib.hid h3
  clear h2 h3
  go_wp2
  go_ret
  exact ⟨rfl, H2.out, H3.out⟩


/-- A step from w that lets stand all that was there. -/
theorem below_only {B : Nat} {a w w' : World} {g : Nat} (h : Below B a w) (ho : Only g w w') (hg : B ≤ g) (hs : B ≤ w.heap.size) : Below B a w' := h.trans (ho.below hg hs)

set_option maxHeartbeats 2000000 in
theorem known3 (w : World) : Calls Try.prog 18 #[] w fun e w' => e = .returned (.bool true) ∧ Below w.heap.size w w' := by
  have hn := LedAt.new w 10
  have hb : Below w.heap.size w (w.alloc (.cells #[.int .i64 0, .int .i64 0, .int .i64 10] 77)) := (Below.refl _ _).alloc (Nat.le_refl _) _
  have Hn := Lib.hid hn
  have Hb := Lib.hid hb
  clear hn hb
  go_enter Try.func18, Try.ntmps18
  go_wp2_with fail
  refine (new_any 10 w).mono ?_
  rintro e w1 ⟨rfl, rfl⟩
  generalize w.alloc (.cells #[.int .i64 0, .int .i64 0, .int .i64 10] 77) = w1 at Hn Hb ⊢
  go_wp2_with fail
  refine (used_any _ _ _ Hn.out).mono ?_
  rintro e w2 ⟨rfl, rfl⟩
  simp only [LS.new]
  go_wp2_with fail
  refine (take_any _ _ 7 _ Hn.out (LS.ok_new (by omega) (by omega)) (by simp [inK])).mono ?_
  rintro e w2 ⟨rfl, h2, h3⟩
  rw [show (LS.new 10).take 7 = ⟨7, 7, 10⟩ from rfl] at h2
  rw [show (LS.new 10).takes 7 = true from rfl]
  have H2 := Lib.hid h2
  have Hb2 := Lib.hid (below_only Hb.out h3 (Nat.le_refl _) Hb.out.size)
  clear h2 h3
  go_wp2_with fail
  refine (used_any _ _ _ H2.out).mono ?_
  rintro e w3 ⟨rfl, rfl⟩
  simp only []
  go_wp2_with fail
  refine (take_any _ _ 4 _ H2.out ⟨by decide, by decide, by decide, by decide⟩ (by simp [inK])).mono ?_
  rintro e w3 ⟨rfl, h3, h4⟩
  rw [show (LS.take ⟨7, 7, 10⟩ 4) = ⟨7, 7, 10⟩ from rfl] at h3
  rw [show LS.takes ⟨7, 7, 10⟩ 4 = false from rfl]
  have H3 := Lib.hid h3
  have Hb3 := Lib.hid (below_only Hb2.out h4 (Nat.le_refl _) Hb2.out.size)
  clear h3 h4
  go_wp2_with fail
  refine (give_any _ _ 3 _ H3.out ⟨by decide, by decide, by decide, by decide⟩ (by simp [inK])).mono ?_
  rintro e w4 ⟨rfl, h4, h5⟩
  rw [show (LS.give ⟨7, 7, 10⟩ 3) = ⟨4, 7, 10⟩ from rfl] at h4
  rw [show LS.gives ⟨7, 7, 10⟩ 3 = true from rfl]
  have H4 := Lib.hid h4
  have Hb4 := Lib.hid (below_only Hb3.out h5 (Nat.le_refl _) Hb3.out.size)
  clear h4 h5
  go_wp2_with fail
  refine (high_any _ _ _ H4.out).mono ?_
  rintro e w5 ⟨rfl, rfl⟩
  simp only []
  go_wp2
  go_ret
  exact ⟨rfl, Hb4.out⟩
end Go.Proofs.Ytnabmbnfmnpcoaa
