/- Package match's proper: may costs be? -/
import Derived.Test.YtnjalnnbdmmcmaaMat1
namespace Go.Proofs.Ytnjalnnbdmmcmaa
open Go.RowKit Go.Shelf
attribute [local go_sem] Oper.semAt_some
def okC (c : Int) : Bool := decide (0 ≤ c) && decide (c ≤ 1000000)
theorem all_take_snoc {α : Type} {p : α → Bool} {l : List α} {k : Nat} {x : α} (h : l[k]? = some x) : (l.take (k + 1)).all p = ((l.take k).all p && p x) := by
  rw [List.take_add_one, h, List.all_append]
  simp
theorem all_at_false {α : Type} {p : α → Bool} {l : List α} {k : Nat} {x : α} (h : l[k]? = some x) (hp : p x = false) : l.all p = false := by
  rw [List.all_eq_false]
  exact ⟨x, List.mem_of_getElem? h, by simp [hp]⟩
set_option maxHeartbeats 1000000 in
theorem every1_any (B : Option Addr) (n c : Nat) (xs : List Int) (w : World) (hx : Nums .i64 w B n xs) (hnn : n ≤ 1000000) :
    Calls Try.prog 16 #[.slice B n c, .func (.func 17) #[] #[]] w fun e w' => e = .returned (.bool (xs.all okC)) ∧ w = w' := by
  go_enter Try.func16, Try.ntmps16
  go_wp2
  go_loopw [9] (fun i wr => ∃ k : Nat, k ≤ n ∧ i = .int .i64 k ∧ (xs.take k).all okC = true ∧ w = wr) (fun i _ => n - (intOf i).toNat)
  case atStart => exact ⟨0, by omega, rfl, by simp, rfl⟩
  case round =>
    obtain ⟨k, hk, rfl, ht, rfl⟩ := hrel
    have Ht := Lib.hid ht
    clear ht
    by_cases hlt : k < n
    · obtain ⟨ad, x, rfl, hxk, hxi, hcx⟩ := hx.at_ hlt
      have hi := isCost_any x w
      change Calls _ _ _ _ (fun e w' => e = .returned (.bool (okC x)) ∧ w = w') at hi
      have HI := Lib.hid hi
      have hs := all_take_snoc (p := okC) hxk
      rw [Ht.out, Bool.true_and] at hs
      have Hs := Lib.hid hs
      have HF := Lib.hid (fun h => all_at_false (p := okC) hxk h)
      clear hxk hxi hi hs
      cases hb : okC x with
      | true =>
        rw [hb] at HI Hs
        clear hb
        go_wp2_with fail
        refine HI.out.mono ?_
        rintro e w' ⟨rfl, rfl⟩
        go_wp2
        go_roundw
        case rel => exact ⟨k + 1, by omega, by go_num, Hs.out, trivial⟩
        case measure => simp [intOf]; omega
      | false =>
        have HF := Lib.hid (HF.out hb)
        rw [hb] at HI
        clear hb
        go_wp2_with fail
        refine HI.out.mono ?_
        rintro e w' ⟨rfl, rfl⟩
        go_wp2
        go_ret
        exact ⟨by rw [HF.out]; rfl, rfl⟩
    · obtain rfl : k = n := by omega
      go_wp2
      go_ret
      have := Ht.out
      rw [List.take_of_length_le (Nat.le_of_eq hx.len)] at this
      exact ⟨by rw [this]; rfl, rfl⟩
def okRow (m : Nat) (r : List Int) : Bool := decide (r.length = m) && r.all okC
set_option maxHeartbeats 1000000 in
theorem proper1_any (B : Option Addr) (n c m g : Nat) (xs : List Int) (w : World) (hx : Nums .i64 w B n xs) (hg : w.cell? ⟨g, 0, none⟩ = some (.int .i64 m)) (hnn : n ≤ 1000000) :
    Calls Try.prog 15 #[.slice B n c, .pointer (some ⟨g, 0, none⟩)] w fun e w' => e = .returned (.bool (okRow m xs)) ∧ w = w' := by
  have H := Lib.hid (every1_any B n c xs w hx hnn)
  unfold okRow
  rw [hx.len]
  obtain ⟨b, hb⟩ : ∃ b, b = xs.all okC := ⟨_, rfl⟩
  rw [← hb] at H ⊢
  clear hb hx
  by_cases h : n = m
  · have e : ((n : Int) == (m : Int)) = true := by simp [h]
    rw [decide_eq_true h, Bool.true_and]
    clear h
    go_enter Try.func15, Try.ntmps15
    go_wp2_with fail
    refine H.out.mono ?_
    rintro e w' ⟨rfl, rfl⟩
    go_wp2
    go_ret
    exact ⟨rfl, rfl⟩
  · have e : ((n : Int) == (m : Int)) = false := by simp; omega
    rw [decide_eq_false h, Bool.false_and]
    clear h
    go_enter Try.func15, Try.ntmps15
    go_wp2
    go_ret
    exact ⟨rfl, rfl⟩
set_option maxHeartbeats 1000000 in
theorem every2_any (A : Option Addr) (n c m g : Nat) (M : List (List Int)) (w : World) (hM : Mat w A n M) (hg : w.cell? ⟨g, 0, none⟩ = some (.int .i64 m)) (hnn : n ≤ 1000000) (hr : ∀ r ∈ M, r.length ≤ 1000000) :
    Calls Try.prog 14 #[.slice A n c, .func (.func 15) #[] #[.pointer (some ⟨g, 0, none⟩)]] w fun e w' => e = .returned (.bool (M.all (okRow m))) ∧ w = w' := by
  have HG := Lib.hid hg
  have HR := Lib.hid hr
  clear hg hr
  go_enter Try.func14, Try.ntmps14
  go_wp2
  go_loopw [9] (fun i wr => ∃ k : Nat, k ≤ n ∧ i = .int .i64 k ∧ (M.take k).all (okRow m) = true ∧ w = wr) (fun i _ => n - (intOf i).toNat)
  case atStart => exact ⟨0, by omega, rfl, by simp, rfl⟩
  case round =>
    obtain ⟨k, hk, rfl, ht, rfl⟩ := hrel
    have Ht := Lib.hid ht
    clear ht
    by_cases hlt : k < n
    · obtain ⟨ad, r, B, d, rfl, hxk, hcx, hn⟩ := hM.at_ hlt
      have HI := Lib.hid (proper1_any B r.length d m g r w hn HG.out (HR.out r (List.mem_of_getElem? hxk)))
      have hs := all_take_snoc (p := okRow m) hxk
      rw [Ht.out, Bool.true_and] at hs
      have Hs := Lib.hid hs
      have HF := Lib.hid (fun h => all_at_false (p := okRow m) hxk h)
      clear hxk hn hs
      cases hb : okRow m r with
      | true =>
        rw [hb] at HI Hs
        clear hb
        go_wp2_with fail
        refine HI.out.mono ?_
        rintro e w' ⟨rfl, rfl⟩
        go_wp2
        go_roundw
        case rel => exact ⟨k + 1, by omega, by go_num, Hs.out, trivial⟩
        case measure => simp [intOf]; omega
      | false =>
        have HF := Lib.hid (HF.out hb)
        rw [hb] at HI
        clear hb
        go_wp2_with fail
        refine HI.out.mono ?_
        rintro e w' ⟨rfl, rfl⟩
        go_wp2
        go_ret
        exact ⟨by rw [HF.out]; rfl, rfl⟩
    · obtain rfl : k = n := by omega
      go_wp2
      go_ret
      have := Ht.out
      rw [List.take_of_length_le (Nat.le_of_eq hM.1)] at this
      exact ⟨by rw [this]; rfl, rfl⟩
/-- Costs that may be. -/
def okM (M : List (List Int)) : Bool := decide (wid M ≤ 12) && (decide (M.length ≤ wid M) && M.all (okRow (wid M)))
set_option maxHeartbeats 1000000 in
theorem proper_any (A : Option Addr) (n c : Nat) (M : List (List Int)) (w : World) (hM : Mat w A n M) (hnn : n ≤ 1000000) (hr : ∀ r ∈ M, r.length ≤ 1000000) :
    Calls Try.prog 8 #[.slice A n c] w fun e w' => e = .returned (.bool (okM M)) ∧ Below w.heap.size w w' := by
  have HW := Lib.hid (width_any A n c M w hM)
  have hb := (Below.refl _ w).alloc (Nat.le_refl _) (.cells #[.int .i64 (wid M)] 3)
  have HB := Lib.hid hb
  have HE := Lib.hid (every2_any A n c (wid M) w.heap.size M _ (hM.keep (Keeps.of_below hb)) (by simp) hnn hr)
  unfold okM
  rw [hM.1]
  obtain ⟨m, hm⟩ : ∃ m, m = wid M := ⟨_, rfl⟩
  obtain ⟨b, hb⟩ : ∃ b, b = M.all (okRow m) := ⟨_, rfl⟩
  rw [← hm] at HW HE HB ⊢
  rw [← hb] at HE ⊢
  clear hb hm hM hr
  by_cases h1 : m ≤ 12
  · have d1 : decide ((m : Int) ≤ 12) = true := by simp; omega
    rw [decide_eq_true h1, Bool.true_and]
    by_cases h2 : n ≤ m
    · have d2 : decide (n ≤ m) = true := by simpa using h2
      rw [d2, Bool.true_and]
      clear h1 h2
      go_enter Try.func8, Try.ntmps8
      go_wp2_with fail
      refine HW.out.mono ?_
      rintro e w' ⟨rfl, rfl⟩
      go_wp2_with fail
      refine HE.out.mono ?_
      rintro e w' ⟨rfl, rfl⟩
      go_wp2
      go_ret
      exact ⟨rfl, HB.out⟩
    · have d2 : decide (n ≤ m) = false := by simpa using h2
      rw [d2, Bool.false_and]
      clear h1 h2
      go_enter Try.func8, Try.ntmps8
      go_wp2_with fail
      refine HW.out.mono ?_
      rintro e w' ⟨rfl, rfl⟩
      go_wp2
      go_ret
      exact ⟨rfl, HB.out⟩
  · have d1 : decide ((m : Int) ≤ 12) = false := by simp; omega
    rw [decide_eq_false h1, Bool.false_and]
    clear h1
    go_enter Try.func8, Try.ntmps8
    go_wp2_with fail
    refine HW.out.mono ?_
    rintro e w' ⟨rfl, rfl⟩
    go_wp2
    go_ret
    exact ⟨rfl, HB.out⟩
end Go.Proofs.Ytnjalnnbdmmcmaa
