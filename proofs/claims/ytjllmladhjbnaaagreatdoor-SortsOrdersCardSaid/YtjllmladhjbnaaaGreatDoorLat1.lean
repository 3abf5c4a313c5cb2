/- Package lattice's small functions; a set's dimensions, rising, one by one. -/
import Derived.RangeFuncNested
import Derived.RangeFuncBound
import Derived.RangeFuncCalls
import Derived.RangeFuncLeaves
import Derived.RangeFuncBox
import Derived.Shelf.Abstract
import Derived.Shelf.RegionOpen
import Derived.OwnWalkIn
import Derived.TacticsInMore
import Derived.LoopNIn
import Derived.LoopIn
import Derived.Maps.AppendAt
import Derived.Test.YtjllmladhjbnaaaGreatDoorBits8
import Derived.Test.YtjllmladhjbnaaaGreatDoorInts
namespace Go.Proofs.YtjllmladhjbnaaaGreatDoor
open Go.RowKit Go.Shelf
attribute [local go_sem] Oper.semAt_some
/-- The set of so many dimensions. -/
def fullB (d : Nat) : Int := 2 ^ d - 1
set_option maxHeartbeats 1000000 in
theorem full_any (d : Nat) (w : World) (h : d ≤ 4) :
    Calls Tryz.prog 48 #[.int .i64 d] w fun e w' => e = .returned (.int .i64 (fullB d)) ∧ w = w' := by
  rcases (by omega : d = 0 ∨ d = 1 ∨ d = 2 ∨ d = 3 ∨ d = 4) with rfl | rfl | rfl | rfl | rfl
  all_goals
    go_enter Tryz.func48, Tryz.ntmps48
    go_wp2
    go_ret
    exact ⟨by kernel_rfl, rfl⟩
set_option maxHeartbeats 400000 in
theorem cwithin_any (x lo hi : Int) (w : World) :
    Calls Tryz.prog 47 #[.int .i64 x, .int .i64 lo, .int .i64 hi] w fun e w' => e = .returned (.bool (decide (lo ≤ x) && decide (x ≤ hi))) ∧ w = w' := by
  by_cases h1 : lo ≤ x
  · by_cases h2 : x ≤ hi
    · have d1 : decide (lo ≤ x) = true := by simpa using h1
      have d2 : decide (x ≤ hi) = true := by simpa using h2
      rw [d1, d2]
      clear h1 h2
      go_enter Tryz.func47, Tryz.ntmps47
      go_wp2
      go_ret
      exact ⟨rfl, rfl⟩
    · have d1 : decide (lo ≤ x) = true := by simpa using h1
      have d2 : decide (x ≤ hi) = false := by simpa using h2
      rw [d1, d2]
      clear h1 h2
      go_enter Tryz.func47, Tryz.ntmps47
      go_wp2
      go_ret
      exact ⟨rfl, rfl⟩
  · have d1 : decide (lo ≤ x) = false := by simpa using h1
    rw [d1]
    clear h1
    go_enter Tryz.func47, Tryz.ntmps47
    go_wp2
    go_ret
    exact ⟨rfl, rfl⟩

/-- cmp.Compare, of two numbers. -/
def cmpI (x y : Int) : Int := if x < y then -1 else if y < x then 1 else 0
set_option maxHeartbeats 1000000 in
theorem nan_any (x : Int) (w : World) : Calls Tryz.prog 78 #[.int .i64 x] w fun e w' => e = .returned (.bool false) ∧ w = w' := by
  go_enter Tryz.func78, Tryz.ntmps78
  go_wp2
  go_ret
  exact ⟨rfl, rfl⟩
set_option maxHeartbeats 1000000 in
theorem cmp_any (x y : Int) (w : World) : Calls Tryz.prog 52 #[.int .i64 x, .int .i64 y] w fun e w' => e = .returned (.int .i64 (cmpI x y)) ∧ w = w' := by
  have hx := Lib.hid (nan_any x w)
  have hy := Lib.hid (nan_any y w)
  unfold cmpI
  by_cases h1 : x < y
  · have d1 : decide (x < y) = true := by simpa using h1
    rw [if_pos h1]
    clear h1
    go_enter Tryz.func52, Tryz.ntmps52
    go_wp2_with fail
    refine hx.out.mono ?_
    rintro e w' ⟨rfl, rfl⟩
    go_wp2_with fail
    refine hy.out.mono ?_
    rintro e w' ⟨rfl, rfl⟩
    go_wp2
    go_ret
    exact ⟨rfl, rfl⟩
  · have d1 : decide (x < y) = false := by simpa using h1
    rw [if_neg h1]
    clear h1
    by_cases h2 : y < x
    · have d2 : decide (y < x) = true := by simpa using h2
      rw [if_pos h2]
      clear h2
      go_enter Tryz.func52, Tryz.ntmps52
      go_wp2_with fail
      refine hx.out.mono ?_
      rintro e w' ⟨rfl, rfl⟩
      go_wp2_with fail
      refine hy.out.mono ?_
      rintro e w' ⟨rfl, rfl⟩
      go_wp2
      go_ret
      exact ⟨rfl, rfl⟩
    · have d2 : decide (y < x) = false := by simpa using h2
      rw [if_neg h2]
      clear h2
      go_enter Tryz.func52, Tryz.ntmps52
      go_wp2_with fail
      refine hx.out.mono ?_
      rintro e w' ⟨rfl, rfl⟩
      go_wp2_with fail
      refine hy.out.mono ?_
      rintro e w' ⟨rfl, rfl⟩
      go_wp2
      go_ret
      exact ⟨rfl, rfl⟩
def dimsL (s : Int) : List Int := (if s % 2 = 1 then [0] else []) ++ (if s / 2 % 2 = 1 then [1] else []) ++ (if s / 4 % 2 = 1 then [2] else []) ++ (if s / 8 % 2 = 1 then [3] else [])
theorem dimsL_zero : dimsL 0 = [] := rfl
theorem dimsL_le (s : Int) : (dimsL s).length ≤ 4 := by
  unfold dimsL
  simp only [List.length_append]
  have h : ∀ (p : Prop) [Decidable p] (x : Int), (if p then [x] else []).length ≤ 1 := fun p _ x => by split <;> simp
  have a := h (s % 2 = 1) 0
  have b := h (s / 2 % 2 = 1) 1
  have c := h (s / 4 % 2 = 1) 2
  have d := h (s / 8 % 2 = 1) 3
  omega
theorem dimsL_in (s d : Int) (h : d ∈ dimsL s) : d = 0 ∨ d = 1 ∨ d = 2 ∨ d = 3 := by
  unfold dimsL at h
  simp only [List.mem_append] at h
  rcases h with ((h | h) | h) | h <;> split at h <;> simp at h <;> simp [h]
theorem Tab.below {n₀ : Nat} {w w' : World} (h : Tab w) (hb : Below n₀ w w') (hn : 1 < n₀) : Tab w' :=
  ⟨(hb.cell (p := ⟨1, 0, none⟩) hn).trans h.c0, (hb.cell (p := ⟨1, 1, none⟩) hn).trans h.c1, (hb.cell (p := ⟨1, 3, none⟩) hn).trans h.c3, (hb.cell (p := ⟨1, 7, none⟩) hn).trans h.c7⟩

set_option maxHeartbeats 1000000 in
theorem isSet_any (s : Int) (d : Nat) (w : World) (hd : d ≤ 4) :
    Calls Tryz.prog 54 #[.int .i64 s, .int .i64 d] w fun e w' => e = .returned (.bool (decide (0 ≤ s) && decide (s ≤ fullB d))) ∧ w = w' := by
  have hf := Lib.hid (full_any d w hd)
  have hw := Lib.hid (cwithin_any s 0 (fullB d) w)
  go_enter Tryz.func54, Tryz.ntmps54
  go_wp2_with fail
  refine hf.out.mono ?_
  rintro e w' ⟨rfl, rfl⟩
  go_wp2_with fail
  refine hw.out.mono ?_
  rintro e w' ⟨rfl, rfl⟩
  go_wp2
  go_ret
  exact ⟨rfl, rfl⟩
/-- The set of one dimension alone. -/
def aloneI (d : Int) : Int := if d = 0 then 1 else if d = 1 then 2 else if d = 2 then 4 else 8
theorem tz_cases (r : Int) : tz r = 0 ∨ tz r = 1 ∨ tz r = 2 ∨ tz r = 3 := by unfold tz; split; simp; split; simp; split <;> simp
set_option maxHeartbeats 1000000 in
theorem alone_any (d : Int) (w : World) (h : d = 0 ∨ d = 1 ∨ d = 2 ∨ d = 3) :
    Calls Tryz.prog 58 #[.int .i64 d] w fun e w' => e = .returned (.int .i64 (aloneI d)) ∧ w = w' := by
  rcases h with rfl | rfl | rfl | rfl
  all_goals
    go_enter Tryz.func58, Tryz.ntmps58
    go_wp2
    go_ret
    exact ⟨by kernel_rfl, rfl⟩
theorem dimsL_step (r : Int) (h1 : 1 ≤ r) (h2 : r ≤ 15) : dimsL r = tz r :: dimsL (bits .andNot .i64 r (aloneI (tz r))) ∧ 0 ≤ bits .andNot .i64 r (aloneI (tz r)) ∧ bits .andNot .i64 r (aloneI (tz r)) ≤ 15 ∧ bits .andNot .i64 r (aloneI (tz r)) < r := by
  rcases (by omega : r = 1 ∨ r = 2 ∨ r = 3 ∨ r = 4 ∨ r = 5 ∨ r = 6 ∨ r = 7 ∨ r = 8 ∨ r = 9 ∨ r = 10 ∨ r = 11 ∨ r = 12 ∨ r = 13 ∨ r = 14 ∨ r = 15) with rfl | rfl | rfl | rfl | rfl | rfl | rfl | rfl | rfl | rfl | rfl | rfl | rfl | rfl | rfl <;> decide +kernel
theorem u64_id (s : Int) (h1 : 0 ≤ s) (h2 : s ≤ 15) : IntKind.u64.wrap s = s := by
  rcases (by omega : s = 0 ∨ s = 1 ∨ s = 2 ∨ s = 3 ∨ s = 4 ∨ s = 5 ∨ s = 6 ∨ s = 7 ∨ s = 8 ∨ s = 9 ∨ s = 10 ∨ s = 11 ∨ s = 12 ∨ s = 13 ∨ s = 14 ∨ s = 15) with rfl | rfl | rfl | rfl | rfl | rfl | rfl | rfl | rfl | rfl | rfl | rfl | rfl | rfl | rfl | rfl <;> rfl
abbrev InSet (s : Int) := { d : Int // d ∈ dimsL s }
set_option maxRecDepth 100000 in
set_option maxHeartbeats 2000000 in
theorem dims1_in (n : Nat) (hn : 1 ≤ n) (l Bs n₀ : Nat) (s : Int) (h1 : 0 ≤ s) (h2 : s ≤ 15) (hn1 : 1 < n₀) (J Jx : List (InSet s) → World → Prop)
    (hY : ∀ pre x W, J pre W → pre.length < (dimsL s).length → YieldAt Fence.wide (n - 1) Tryz.prog l #[.int .i64 x.1] W fun e W' =>
      (e = .returned (.bool true) ∧ J (pre ++ [x]) W' ∧ Below n₀ W W') ∨ (e = .returned (.bool false) ∧ Jx (pre ++ [x]) W'))
    (W : World) (hBs : W.cell? ⟨Bs, 0, none⟩ = some (.int .i64 s)) (hTab : Tab W) (h0 : J [] W) :
    CallsIn Fence.wide n Tryz.prog 79 #[.func (.yield l) #[] #[], .pointer (some ⟨Bs, 0, none⟩)] W fun e W' => (∃ v, e = .returned v) ∧
      ((∃ ys : List (InSet s), ys.map (·.1) = dimsL s ∧ J ys W') ∨ (∃ pre : List (InSet s), True ∧ Jx pre W')) := by
  refine callsIn_of_wp Tryz.func79 rfl trivial ?_ rfl
  simp only [Tryz.ntmps79, List.size_toArray, List.length_cons, List.length_nil, Nat.reduceAdd, Nat.reduceSub, Array.replicate_succ, Array.replicate_zero, List.push_toArray, List.append_toArray, List.nil_append, List.cons_append]
  gi_wp2
  gi_loopw [3] (fun p wr => ∃ (pre : List (InSet s)) (r : Int), p = .int .i64 r ∧ 0 ≤ r ∧ r ≤ 15 ∧ dimsL s = pre.map (·.1) ++ dimsL r ∧ J pre wr ∧ Below n₀ W wr)
    (fun p _ => (intOf p).toNat)
  case atStart => exact ⟨[], s, rfl, h1, h2, rfl, h0, Below.refl _ _⟩
  case round =>
    obtain ⟨pre, r, rfl, hr1, hr2, hx, hJs, hB⟩ := hrel
    by_cases hr : r = 0
    · subst hr
      rw [dimsL_zero, List.append_nil] at hx
      gi_wp2
      go_end0
      exact ⟨⟨_, rfl⟩, .inl ⟨pre, hx.symm, hJs⟩⟩
    · obtain ⟨e1, e2, e3, e4⟩ := dimsL_step r (by omega) hr2
      have htr : Tab wr := hTab.below hB hn1
      have hne : (r != 0) = true := by simpa using hr
      have hu := u64_id r (by omega) (by omega)
      have hmem : tz r ∈ dimsL s := by rw [hx, e1]; simp
      obtain ⟨fn, tmps, assign, body, hy, hR⟩ := hY pre ⟨tz r, hmem⟩ wr hJs (by rw [hx, e1]; simp)
      dsimp only at hy
      have hT := fun W' (hW : Tab W') => tz_any r W' hW (by omega) hr2
      have hAl := fun W' => alone_any (tz r) W' (tz_cases r)
      obtain ⟨t, ht⟩ : ∃ t, t = tz r := ⟨_, rfl⟩
      obtain ⟨al, hal⟩ : ∃ al, al = aloneI (tz r) := ⟨_, rfl⟩
      rw [← hal] at e1 e2 e3 e4 hAl
      rw [← ht] at hy hT hAl e1
      have Hx := Lib.hid hx
      have E1 := Lib.hid e1
      have HT := Lib.hid hT
      have HAl := Lib.hid hAl
      have Ht := Lib.hid ht
      clear hx e1 hT hAl ht hal
      gi_wp2_with (refine ⟨trivial, ?_⟩; gi_at_call 80; refine (callsIn_wide.2 (HT.out wr htr)).mono ?_; rintro e w' ⟨rfl, rfl⟩)
      refine hR.mono ?_
      rintro e W3 (⟨rfl, hJ3, hk3⟩ | ⟨rfl, hJx3⟩)
      · gi_wp2_with (refine ⟨trivial, ?_⟩; gi_at_call 58; refine (callsIn_wide.2 (HAl.out W3)).mono ?_; rintro e w' ⟨rfl, rfl⟩)
        go_roundw
        case rel => exact ⟨pre ++ [⟨tz r, hmem⟩], _, rfl, e2, e3, Hx.out.trans (by rw [E1.out, Ht.out]; simp), hJ3, hB.trans hk3⟩
        case measure => simp [intOf]; omega
      · gi_wp2
        refine bodyPost_ret (results_none rfl _ _ _) rfl ?_
        exact ⟨⟨_, rfl⟩, .inr ⟨_, trivial, hJx3⟩⟩
theorem dims_stops (n : Nat) (hn : 1 ≤ n) (Bs n₀ : Nat) (s : Int) (h1 : 0 ≤ s) (h2 : s ≤ 15) (hn1 : 1 < n₀) (w : World) (hBs : Bs < w.heap.size) (hc : w.cell? ⟨Bs, 0, none⟩ = some (.int .i64 s)) (hT : Tab w) :
    SeqStopsK Fence.wide n Tryz.prog 79 #[.pointer (some ⟨Bs, 0, none⟩)] (fun x : InSet s => #[Value.int .i64 x.1]) (Below n₀) (fun ys => ys.map (·.1) = dimsL s) (fun _ => True) (dimsL s).length w := fun l J Jx W hW _ _ hY h0 =>
  dims1_in n hn l Bs n₀ s h1 h2 hn1 J Jx hY W ((hW.cell (p := ⟨Bs, 0, none⟩) hBs).trans hc) (hT.keep (Keeps.of_below hW)) h0
set_option maxHeartbeats 1000000 in
theorem dims_in (s : Int) (w : World) :
    Calls Tryz.prog 56 #[.int .i64 s] w fun e w' => e = .returned (.func (.func 79) #[] #[.pointer (some ⟨w.heap.size, 0, none⟩)]) ∧ w' = w.alloc (.cells #[.int .i64 s] 3) := by
  go_enter Tryz.func56, Tryz.ntmps56
  go_wp2
  go_ret
  exact ⟨rfl, rfl⟩
set_option maxHeartbeats 1000000 in
theorem level1_any (x d : Int) (w : World) (h : 0 ≤ x) (h2 : x ≤ 100) :
    Calls Tryz.prog 67 #[.int .i64 x, .int .i64 d] w fun e w' => e = .returned (.int .i64 (x + 1)) ∧ w = w' := by
  go_enter Tryz.func67, Tryz.ntmps67
  go_wp2
  go_ret
  exact ⟨rfl, rfl⟩
end Go.Proofs.YtjllmladhjbnaaaGreatDoor
