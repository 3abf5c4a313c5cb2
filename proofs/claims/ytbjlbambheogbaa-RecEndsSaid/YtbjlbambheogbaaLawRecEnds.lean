/- The walk of the law RecEnds: the Go text returns true, and writes nothing that was there. -/
import Derived.Test.YtbjlbambheogbaaLaw
import Derived.Test.YtbjlbambheogbaaWithin
import Derived.Test.YtbjlbambheogbaaOneRow
namespace Go.Proofs.Ytbjlbambheogbaa
open Go.RowKit
/-- Row number i: a sum of k such numbers is the greatest int. -/
def endX (down : Bool) (mm ll : Int) (i : Nat) : Int := if down then -(if (i : Int) < ll then mm + 1 else mm) else if (i : Int) < ll then mm + 1 else mm
def endRows (down : Bool) (mm ll : Int) (k : Nat) : List Fact := (List.range k).map fun i => endRow (endX down mm ll i)
theorem ends_up (mm ll : Int) (h0 : 0 ≤ mm) (h1 : 0 ≤ ll) (k : Nat) : upS ((List.range k).map (endX false mm ll)) = k * mm + min (k : Int) ll ∧ dnS ((List.range k).map (endX false mm ll)) = 0 := by
  induction k with
  | zero => simp [upS, dnS]; omega
  | succ k ih =>
    rw [List.range_succ, List.map_append, upS_append, dnS_append, ih.1, ih.2]
    have e : ((k + 1 : Nat) : Int) * mm = k * mm + mm := by rw [Int.natCast_add, Int.add_mul, Int.natCast_one, Int.one_mul]
    rw [e]
    by_cases h : (k : Int) < ll
    · simp [endX, h, upS, dnS]; omega
    · simp [endX, h, upS, dnS]; omega
theorem ends_dn (mm ll : Int) (h0 : 0 ≤ mm) (h1 : 0 ≤ ll) (k : Nat) : dnS ((List.range k).map (endX true mm ll)) = -(k * mm + min (k : Int) ll) ∧ upS ((List.range k).map (endX true mm ll)) = 0 := by
  induction k with
  | zero => simp [upS, dnS]; omega
  | succ k ih =>
    rw [List.range_succ, List.map_append, upS_append, dnS_append, ih.1, ih.2]
    have e : ((k + 1 : Nat) : Int) * mm = k * mm + mm := by rw [Int.natCast_add, Int.add_mul, Int.natCast_one, Int.one_mul]
    rw [e]
    by_cases h : (k : Int) < ll
    · simp [endX, h, upS, dnS]; omega
    · simp [endX, h, upS, dnS]; omega
theorem sound_rows (xs : List Int) : soundB [1] 1 (xs.map endRow) = fitsB xs := by
  have ha : allRightB [1] 1 (xs.map endRow) = true := allRightB_yes (by decide) (by
    intro r hr
    obtain ⟨x, _, rfl⟩ := List.mem_map.1 hr
    simp [rightB, keysB, endRow])
  rw [soundB, ha, Bool.true_and, soundsB]
  simp [col_rows]
theorem endRows_map (b : Bool) (mm ll : Int) (k : Nat) : endRows b mm ll k = ((List.range k).map (endX b mm ll)).map endRow := by simp [endRows]
theorem ends_false {mm ll : Int} {q : Nat} (h0 : 0 ≤ mm) (h1 : 0 ≤ ll) (h2 : ll < 1 + (q : Int)) (h3 : ll + (1 + (q : Int)) * mm = 9223372036854775807) (j : Nat) :
    soundB [1] 1 (endRows false mm ll (q + 1)) = true ∧ soundB [1] 1 (endRows false mm ll (q + 1) ++ [endRow 1]) = false ∧ soundB [1] 1 (endRows false mm ll (q + 1) ++ [endRow 1] ++ [endRow (-(j : Int))]) = false := by
  obtain ⟨e1, e2⟩ := ends_up mm ll h0 h1 (q + 1)
  have e3 : ((q + 1 : Nat) : Int) * mm = (1 + (q : Int)) * mm := by rw [Int.natCast_add, Int.natCast_one, Int.add_comm]
  rw [e3] at e1
  generalize (1 + (q : Int)) * mm = t at *
  have e4 : upS ((List.range (q + 1)).map (endX false mm ll)) = 9223372036854775807 := by rw [e1]; omega
  rw [endRows_map, sound_rows, show ([endRow 1] : List Fact) = [(1 : Int)].map endRow from rfl, ← List.map_append, sound_rows, show ([endRow (-(j : Int))] : List Fact) = [(-(j : Int))].map endRow from rfl, ← List.map_append, sound_rows]
  generalize (List.range (q + 1)).map (endX false mm ll) = xs at *
  refine ⟨fitsB_yes (by omega) (by omega), ?_, ?_⟩
  · rw [fitsB, upS_append, dnS_append, e4, e2]; simp [upS]; intro h; exfalso; omega
  · rw [fitsB, upS_append, upS_append, e4]; simp [upS]; omega
theorem ends_true {mm ll : Int} {q : Nat} (h0 : 0 ≤ mm) (h1 : 0 ≤ ll) (h2 : ll < 1 + (q : Int)) (h3 : ll + (1 + (q : Int)) * mm = 9223372036854775807) (j : Nat) :
    soundB [1] 1 (endRows true mm ll (q + 1)) = true ∧ soundB [1] 1 (endRows true mm ll (q + 1) ++ [endRow (-2)]) = false ∧ soundB [1] 1 (endRows true mm ll (q + 1) ++ [endRow (-2)] ++ [endRow (-(-2 * (j : Int)))]) = false := by
  obtain ⟨e1, e2⟩ := ends_dn mm ll h0 h1 (q + 1)
  have e3 : ((q + 1 : Nat) : Int) * mm = (1 + (q : Int)) * mm := by rw [Int.natCast_add, Int.natCast_one, Int.add_comm]
  rw [e3] at e1
  generalize (1 + (q : Int)) * mm = t at *
  have e4 : dnS ((List.range (q + 1)).map (endX true mm ll)) = -9223372036854775807 := by rw [e1]; omega
  rw [endRows_map, sound_rows, show ([endRow (-2)] : List Fact) = [(-2 : Int)].map endRow from rfl, ← List.map_append, sound_rows, show ([endRow (-(-2 * (j : Int)))] : List Fact) = [(-(-2 * (j : Int)))].map endRow from rfl, ← List.map_append, sound_rows]
  generalize (List.range (q + 1)).map (endX true mm ll) = xs at *
  refine ⟨fitsB_yes (by omega) (by omega), ?_, ?_⟩
  · rw [fitsB, upS_append, dnS_append, e4, e2]; simp [dnS]; intro _; omega
  · rw [fitsB, dnS_append, dnS_append, e4]; simp [dnS]; omega

/-- Rows of one value 0 and one measure each. -/
def Ends (l : List Fact) : Prop := ∃ xs : List Int, l = xs.map endRow ∧ ∀ x ∈ xs, inK .i64 x
theorem Ends.small {l : List Fact} (h : Ends l) : ∀ r ∈ l, (∀ x ∈ r.key, inK .i64 x) ∧ ∀ x ∈ r.m, inK .i64 x := by
  obtain ⟨xs, rfl, hx⟩ := h
  intro r hr
  obtain ⟨x, hm, rfl⟩ := List.mem_map.1 hr
  have := hx x hm
  refine ⟨?_, ?_⟩
  · intro y hy; simp [endRow] at hy; subst hy; simp only [inK]; omega
  · intro y hy; simp [endRow] at hy; subst hy; exact this
theorem Ends.short {l : List Fact} (h : Ends l) : ∀ r ∈ l, r.key.length ≤ 4611686018427387904 ∧ r.m.length ≤ 4611686018427387904 := by
  obtain ⟨xs, rfl, hx⟩ := h
  intro r hr
  obtain ⟨x, hm, rfl⟩ := List.mem_map.1 hr
  simp [endRow]
theorem Ends.add {l : List Fact} (h : Ends l) {x : Int} (hx : inK .i64 x) : Ends (l ++ [endRow x]) := by
  obtain ⟨xs, rfl, hxs⟩ := h
  refine ⟨xs ++ [x], by simp, ?_⟩
  intro y hy
  rcases List.mem_append.1 hy with hy | hy
  · exact hxs y hy
  · simp at hy; subst hy; exact hx
theorem Ends.rows (b : Bool) {mm ll : Int} (k : Nat) (h0 : 0 ≤ mm) (h1 : 0 ≤ ll) (h2 : mm + ll ≤ 9223372036854775807) : Ends (endRows b mm ll k) := by
  refine ⟨_, endRows_map b mm ll k, ?_⟩
  intro x hx
  obtain ⟨i, _, rfl⟩ := List.mem_map.1 hx
  unfold endX
  simp only [inK]
  split <;> split <;> constructor <;> omega
theorem soundE (w : World) (B m d : Nat) (A : Option Addr) (l : List Fact) (b : Bool) (a1 : Arr .i64 3 w B [1]) (hF : Facts w A m l) (hE : Ends l) (hm : m ≤ 1000000) (hs : soundB [1] 1 l = b) :
    Calls Try.prog 27 #[.agg #[.slice (some ⟨B, 0, none⟩) 1 1, .int .i64 1], .slice A m d] w fun e w' => e = .returned (.bool b) ∧ Below w.heap.size w w' := by
  have h := Sound_any (some ⟨B, 0, none⟩) A 1 1 m d [1] 1 l w (a1.nums (by simp [inK])) hF (by omega) (by omega) hE.short (by simp [inK])
  rw [hs] at h
  exact h

set_option maxHeartbeats 4000000 in
theorem ends_walk (a : Int) (b : Bool) (c : Int) (w : World) (ha : inK .i64 a) (hc : inK .i64 c) :
    Calls Try.prog 7 #[.int .i64 a, .bool b, .int .i64 c] w fun e w' => e = .returned (.bool true) ∧ Below w.heap.size w w' := by
  have h1 := Int.emod_nonneg a (show (50 : Int) ≠ 0 by omega)
  have h2 := Int.emod_lt_of_pos a (show (0 : Int) < 50 by omega)
  have hw50 := fun W => lwithin a 50 W ha (by omega) (by omega)
  obtain ⟨q, hq⟩ := Int.eq_ofNat_of_zero_le h1
  rw [hq] at h2 hw50
  have Hw50 := Lib.hid hw50
  clear hw50 hq h1
  go_enter Try.func7, Try.ntmps7
  go_wp2_with fail
  refine (known_any w).mono ?_
  rintro e w1 ⟨rfl, hb1⟩
  have Hb1 := Lib.hid hb1
  clear hb1
  go_wp2_with fail
  refine (Hw50.out _).mono ?_
  rintro e w2 ⟨rfl, rfl⟩
  go_wp2_with fail
  obtain ⟨B, hB⟩ : ∃ B, B = w1.heap.size := ⟨_, rfl⟩
  rw [← hB]
  have a1 : Arr .i64 3 ((w1.alloc (.cells #[.int .i64 1] 3)).alloc (.cells #[.slice (some ⟨B, 0, none⟩) 1 1, .int .i64 1] 24)) B [1] := (Arr.new _ .i64 3 [1] B (by simp [hB])).alloc _
  have a2 : Box2 24 ((w1.alloc (.cells #[.int .i64 1] 3)).alloc (.cells #[.slice (some ⟨B, 0, none⟩) 1 1, .int .i64 1] 24)) (B + 1) (.slice (some ⟨B, 0, none⟩) 1 1) (.int .i64 1) := heap_new _ _ (B + 1) (by simp [hB])
  have a3 : Below w.heap.size w ((w1.alloc (.cells #[.int .i64 1] 3)).alloc (.cells #[.slice (some ⟨B, 0, none⟩) 1 1, .int .i64 1] 24)) := by
    have := Hb1.out.size
    exact (Hb1.out.alloc (by omega) _).alloc (by simp; omega) _
  have a4 : ((w1.alloc (.cells #[.int .i64 1] 3)).alloc (.cells #[.slice (some ⟨B, 0, none⟩) 1 1, .int .i64 1] 24)).heap.size = B + 2 := by simp [hB]
  have hwB : w.heap.size ≤ B := by rw [hB]; exact Hb1.out.size
  generalize (w1.alloc _).alloc _ = w2 at a1 a2 a3 a4 ⊢
  have A1 := Lib.hid a1
  have A2 := Lib.hid a2
  have A3 := Lib.hid a3
  have A4 := Lib.hid a4
  have d1 := Int.emod_add_mul_ediv 9223372036854775807 (1 + (q : Int))
  have d2 := Int.emod_nonneg 9223372036854775807 (show (1 + (q : Int)) ≠ 0 by omega)
  have d3 := Int.emod_lt_of_pos 9223372036854775807 (show (0 : Int) < 1 + q by omega)
  have d4 : 0 ≤ 9223372036854775807 / (1 + (q : Int)) := Int.ediv_nonneg (by omega) (by omega)
  generalize 9223372036854775807 / (1 + (q : Int)) = mm at d1 d4 ⊢
  generalize 9223372036854775807 % (1 + (q : Int)) = ll at d1 d2 d3 ⊢
  have d5 : mm + ll ≤ 9223372036854775807 := by
    have h := Int.mul_nonneg (show (0 : Int) ≤ q by omega) d4
    have e : (1 + (q : Int)) * mm = mm + q * mm := by rw [Int.add_mul, Int.one_mul]
    omega
  have D1 := Lib.hid d1
  clear a1 a2 a3 a4 hB Hb1 d1
  go_loopw [12, 13] (fun v i wr => ∃ k : Nat, k ≤ q + 1 ∧ i = .int .i64 k ∧ RowsV wr (B + 2) v (endRows b mm ll k) ∧ Below (B + 2) w2 wr) (fun _ i _ => q + 1 - (intOf i).toNat)
  case atStart => exact ⟨0, by omega, rfl, by simpa [endRows] using RowsV.nil _ _, Below.refl _ _⟩
  case round =>
    obtain ⟨k, hk, rfl, hR, hb⟩ := hrel
    have Hb := Lib.hid hb
    have hBw : Below w.heap.size w wr := A3.out.trans (hb.mono (by omega))
    have HBw := Lib.hid hBw
    have hlk : (endRows b mm ll k).length = k := by simp [endRows]
    have Hlk := Lib.hid hlk
    clear hb hBw hlk
    by_cases hlt : k < q + 1
    · have hz : B + 2 ≤ wr.heap.size := by have := Hb.out.size; rw [A4.out] at this; exact this
      have HR := Lib.hid hR
      clear hR
      obtain ⟨v', w', hrun, hR', hb'⟩ := one_rowW wr (B + 2) (B + 2) _ _ (endX b mm ll k) hz hz HR.out (by rw [Hlk.out]; omega)
      have HR' := Lib.hid hR'
      have Hb' := Lib.hid (Hb.out.trans hb')
      have Hrun := Lib.hid hrun
      clear hrun hR' hb'
      have hfin : endRows b mm ll (k + 1) = endRows b mm ll k ++ [endRow (endX b mm ll k)] := by simp [endRows, List.range_succ]
      have Hfin := Lib.hid hfin
      clear hfin
      have hrun := Hrun.out
      clear Hrun
      cases b
      all_goals
        by_cases hkl : (k : Int) < ll
        · simp only [endX, hkl, if_true, Bool.false_eq_true, if_false] at hrun
          have Hrun := Lib.hid hrun
          clear hrun
          go_wp2_with (at_builtin; refine wpList_append_eq rfl (.tmp 45) (.tmp 50) 25 rfl _ _ _ _ rfl rfl Hrun.out ?_; clear Hrun)
          exact ⟨⟨k + 1, by omega, by go_num, by rw [Hfin.out]; exact HR'.out, Hb'.out⟩, by simp [intOf]; omega⟩
        · simp only [endX, hkl, if_true, Bool.false_eq_true, if_false] at hrun
          have Hrun := Lib.hid hrun
          clear hrun
          go_wp2_with (at_builtin; refine wpList_append_eq rfl (.tmp 45) (.tmp 50) 25 rfl _ _ _ _ rfl rfl Hrun.out ?_; clear Hrun)
          exact ⟨⟨k + 1, by omega, by go_num, by rw [Hfin.out]; exact HR'.out, Hb'.out⟩, by simp [intOf]; omega⟩
    · obtain rfl : k = q + 1 := by omega
      have hz : B + 2 ≤ wr.heap.size := by have := Hb.out.size; rw [A4.out] at this; exact this
      obtain ⟨l, hl⟩ : ∃ l, l = endRows b mm ll (q + 1) := ⟨_, rfl⟩
      rw [← hl] at hR Hlk
      obtain ⟨more, hmore⟩ : ∃ more : Int, more = if b then -2 else 1 := ⟨_, rfl⟩
      obtain ⟨g, cc, rfl, -⟩ := RowsW.form hR (by rw [Hlk.out]; omega)
      rw [Hlk.out] at hR ⊢
      have e0 := own_lit wr wr.heap.size 33 [] wr.heap.size 0 2 rfl (Nat.le_refl _) (by simp [maxLen]) rfl
      obtain ⟨v1, w3, hrun1, hR1, hb3⟩ := append_rows (wr.alloc (.cells #[] 33)) (B + 2) wr.heap.size (B + 2) g (q + 1) cc l (RowsW.alloc hR _) Hlk.out (by omega) (by omega) (by simp) _ e0
      have hbw3 : Below wr.heap.size wr w3 := ((Below.refl _ _).alloc (Nat.le_refl _) _).trans hb3
      have hz3 : wr.heap.size ≤ w3.heap.size := hbw3.size
      obtain ⟨v2, w4, hrun2, hR2, hb4⟩ := one_rowW w3 wr.heap.size (B + 2) v1 l more hz3 (by omega) hR1 (by rw [Hlk.out]; omega)
      have hz4 : w3.heap.size ≤ w4.heap.size := hb4.size
      have hlk2 : (l ++ [endRow more]).length = q + 2 := by rw [List.length_append, Hlk.out]; rfl
      obtain ⟨g2, c2, rfl, -⟩ := RowsW.form hR2 (by rw [hlk2]; omega)
      rw [hlk2] at hR2 hrun2
      have e4 := own_lit w4 w4.heap.size 33 [] w4.heap.size 0 2 rfl (Nat.le_refl _) (by simp [maxLen]) rfl
      obtain ⟨v3, w6, hrun3, hR3, hb6⟩ := append_rows (w4.alloc (.cells #[] 33)) wr.heap.size w4.heap.size (B + 2) g2 (q + 2) c2 (l ++ [endRow more]) (RowsW.alloc hR2 _) hlk2 (by omega) (by omega) (by simp) _ e4
      have hbw6 : Below w4.heap.size w4 w6 := ((Below.refl _ _).alloc (Nat.le_refl _) _).trans hb6
      have hz6 : w4.heap.size ≤ w6.heap.size := hbw6.size
      have hj0 := Int.emod_nonneg c (show (99 : Int) ≠ 0 by omega)
      have hj1 := Int.emod_lt_of_pos c (show (0 : Int) < 99 by omega)
      have hw99 := fun W => lwithin c 99 W hc (by omega) (by omega)
      obtain ⟨j, hj⟩ := Int.eq_ofNat_of_zero_le hj0
      rw [hj] at hj1 hw99
      have Hw99 := Lib.hid hw99
      have Hrun1 := Lib.hid hrun1
      have Hrun2 := Lib.hid hrun2
      have Hrun3 := Lib.hid hrun3
      have Hmore := Lib.hid hmore
      clear hw99 hrun1 hrun2 hrun3 hj hj0
      cases b
      · simp only [Bool.false_eq_true, if_false] at hmore
        subst hmore
        obtain ⟨v7, w8, hrun4, hR4, hb8⟩ := one_rowW w6 w4.heap.size (B + 2) v3 (l ++ [endRow _]) (-(j : Int)) hz6 (by omega) hR3 (by rw [hlk2]; omega)
        obtain ⟨t1, t2, t3⟩ := ends_false d4 d2 d3 D1.out j
        rw [← hl] at t1 t2 t3
        have E1 := Ends.rows false (q + 1) d4 d2 d5
        rw [← hl] at E1
        have E2 := Lib.hid (E1.add (x := 1) (by simp [inK]))
        have E3 := Lib.hid (E2.out.add (x := -(j : Int)) (by simp only [inK]; omega))
        have S2 := Lib.hid t2
        have S3 := Lib.hid t3
        have hz8 : w6.heap.size ≤ w8.heap.size := hb8.size
        have bw8 : Below wr.heap.size wr w8 := (hbw3.trans (hb4.mono (by omega))).trans ((hbw6.mono (by omega)).trans (hb8.mono (by omega)))
        have b48 : Below w4.heap.size w4 w8 := hbw6.trans (hb8.mono (by omega))
        obtain ⟨A7, c7, rfl, -, -, hF3⟩ := hR4.facts E3.out.small
        have hlk3 : (l ++ [endRow (1)] ++ [endRow (-(j : Int))]).length = q + 3 := by rw [List.length_append, hlk2]; rfl
        rw [hlk3] at hF3
        have F3 := Lib.hid hF3
        obtain ⟨A5, c5, hA5, -, -, hF2⟩ := hR2.facts E2.out.small
        obtain ⟨A6, c6, hA6, -, -, hF1⟩ := RowsW.facts hR E1.small
        rw [hlk2] at hA5 hF2
        rw [Hlk.out] at hA6 hF1
        injection hA5 with hA5 hl5 hc5
        injection hA6 with hA6 hl6 hc6
        subst hA5
        subst hc5
        clear hl5
        subst hA6
        subst hc6
        clear hl6
        have F2 := Lib.hid (hF2.keep (Keeps.of_below b48))
        have F1 := Lib.hid (hF1.keep (Keeps.of_below bw8))
        have A1' := Lib.hid ((A1.out.below Hb.out (by omega)).below bw8 (by omega))
        have c0 := ((A2.out.below Hb.out (by omega)).below bw8 (by omega)).cell0
        have c1 := ((A2.out.below Hb.out (by omega)).below bw8 (by omega)).cell1
        have hB8 : B < w8.heap.size := by have := bw8.size; omega
        have S1 := Lib.hid (soundE w8 B (q + 1) cc _ l true A1'.out F1.out E1 (by omega) t1)
        have Ball := Lib.hid (HBw.out.trans (bw8.mono (by omega)))
        have hw8 : w.heap.size ≤ w8.heap.size := Ball.out.size
        rw [hlk3] at hrun4
        clear t1 t2 t3 E1 bw8 b48 hF1 hF2 hF3 hR hR1 hR2 hR3 hR4 hb3 hb4 hb6 hb8 hbw3 hbw6 e0 e4 hl hlk2 hlk3 A1 A2 A3 A4 Hb HBw D1 Hlk Hw50
        have Hrun4 := Lib.hid hrun4
        clear hrun4
        go_wp2_with (first
          | (at_builtin; have _t := Hrun1; refine wpList_append_eq rfl (.tmp 53) (.tmp 54) 25 rfl _ _ _ _ rfl rfl Hrun1.out ?_; clear _t Hrun1)
          | (at_builtin; have _t := Hrun2; refine wpList_append_eq rfl (.tmp 55) (.tmp 60) 25 rfl _ _ _ _ rfl rfl Hrun2.out ?_; clear _t Hrun2)
          | (at_builtin; have _t := Hrun3; refine wpList_append_eq rfl (.tmp 62) (.tmp 63) 25 rfl _ _ _ _ rfl rfl Hrun3.out ?_; clear _t Hrun3)
          | (go_at_call 21; refine (Hw99.out _).mono ?_; rintro e w2 ⟨rfl, rfl⟩)
          | (at_builtin; have _t := Hrun4; refine wpList_append_eq rfl (.tmp 64) (.tmp 73) 25 rfl _ _ _ _ rfl rfl Hrun4.out ?_; clear _t Hrun4)
          | (go_at_call 27; fail))
        refine (S1.out).mono ?_
        rintro e w9 ⟨rfl, hb9⟩
        have Hb9 := Lib.hid hb9
        have x0 := (Keeps.of_below hb9) _ _ c0
        have x1 := (Keeps.of_below hb9) _ _ c1
        clear hb9
        go_wp2_with fail
        refine (soundE w9 B _ _ _ _ false (A1'.out.below Hb9.out hB8) (F2.out.keep (Keeps.of_below Hb9.out)) E2.out (by omega) S2.out).mono ?_
        rintro e w10 ⟨rfl, hb10⟩
        have Hb10 := Lib.hid hb10
        have y0 := (Keeps.of_below hb10) _ _ x0
        have y1 := (Keeps.of_below hb10) _ _ x1
        have hz10 : w8.heap.size ≤ w9.heap.size := Hb9.out.size
        clear hb10
        go_wp2_with fail
        refine (soundE w10 B _ _ _ _ false ((A1'.out.below Hb9.out hB8).below Hb10.out (by omega)) ((F3.out.keep (Keeps.of_below Hb9.out)).keep (Keeps.of_below Hb10.out)) E3.out (by omega) S3.out).mono ?_
        rintro e w11 ⟨rfl, hb11⟩
        have Hb11 := Lib.hid hb11
        clear hb11
        go_wp2
        go_ret
        exact ⟨rfl, (Ball.out.trans (Hb9.out.mono hw8)).trans ((Hb10.out.mono (by omega)).trans (Hb11.out.mono (by have := Hb10.out.size; omega)))⟩
      · simp only [if_true] at hmore
        subst hmore
        obtain ⟨v7, w8, hrun4, hR4, hb8⟩ := one_rowW w6 w4.heap.size (B + 2) v3 (l ++ [endRow _]) (-(-2 * (j : Int))) hz6 (by omega) hR3 (by rw [hlk2]; omega)
        obtain ⟨t1, t2, t3⟩ := ends_true d4 d2 d3 D1.out j
        rw [← hl] at t1 t2 t3
        have E1 := Ends.rows true (q + 1) d4 d2 d5
        rw [← hl] at E1
        have E2 := Lib.hid (E1.add (x := -2) (by simp [inK]))
        have E3 := Lib.hid (E2.out.add (x := -(-2 * (j : Int))) (by simp only [inK]; omega))
        have S2 := Lib.hid t2
        have S3 := Lib.hid t3
        have hz8 : w6.heap.size ≤ w8.heap.size := hb8.size
        have bw8 : Below wr.heap.size wr w8 := (hbw3.trans (hb4.mono (by omega))).trans ((hbw6.mono (by omega)).trans (hb8.mono (by omega)))
        have b48 : Below w4.heap.size w4 w8 := hbw6.trans (hb8.mono (by omega))
        obtain ⟨A7, c7, rfl, -, -, hF3⟩ := hR4.facts E3.out.small
        have hlk3 : (l ++ [endRow (-2)] ++ [endRow (-(-2 * (j : Int)))]).length = q + 3 := by rw [List.length_append, hlk2]; rfl
        rw [hlk3] at hF3
        have F3 := Lib.hid hF3
        obtain ⟨A5, c5, hA5, -, -, hF2⟩ := hR2.facts E2.out.small
        obtain ⟨A6, c6, hA6, -, -, hF1⟩ := RowsW.facts hR E1.small
        rw [hlk2] at hA5 hF2
        rw [Hlk.out] at hA6 hF1
        injection hA5 with hA5 hl5 hc5
        injection hA6 with hA6 hl6 hc6
        subst hA5
        subst hc5
        clear hl5
        subst hA6
        subst hc6
        clear hl6
        have F2 := Lib.hid (hF2.keep (Keeps.of_below b48))
        have F1 := Lib.hid (hF1.keep (Keeps.of_below bw8))
        have A1' := Lib.hid ((A1.out.below Hb.out (by omega)).below bw8 (by omega))
        have c0 := ((A2.out.below Hb.out (by omega)).below bw8 (by omega)).cell0
        have c1 := ((A2.out.below Hb.out (by omega)).below bw8 (by omega)).cell1
        have hB8 : B < w8.heap.size := by have := bw8.size; omega
        have S1 := Lib.hid (soundE w8 B (q + 1) cc _ l true A1'.out F1.out E1 (by omega) t1)
        have Ball := Lib.hid (HBw.out.trans (bw8.mono (by omega)))
        have hw8 : w.heap.size ≤ w8.heap.size := Ball.out.size
        rw [hlk3] at hrun4
        clear t1 t2 t3 E1 bw8 b48 hF1 hF2 hF3 hR hR1 hR2 hR3 hR4 hb3 hb4 hb6 hb8 hbw3 hbw6 e0 e4 hl hlk2 hlk3 A1 A2 A3 A4 Hb HBw D1 Hlk Hw50
        have Hrun4 := Lib.hid hrun4
        clear hrun4
        go_wp2_with (first
          | (at_builtin; have _t := Hrun1; refine wpList_append_eq rfl (.tmp 53) (.tmp 54) 25 rfl _ _ _ _ rfl rfl Hrun1.out ?_; clear _t Hrun1)
          | (at_builtin; have _t := Hrun2; refine wpList_append_eq rfl (.tmp 55) (.tmp 60) 25 rfl _ _ _ _ rfl rfl Hrun2.out ?_; clear _t Hrun2)
          | (at_builtin; have _t := Hrun3; refine wpList_append_eq rfl (.tmp 62) (.tmp 63) 25 rfl _ _ _ _ rfl rfl Hrun3.out ?_; clear _t Hrun3)
          | (go_at_call 21; refine (Hw99.out _).mono ?_; rintro e w2 ⟨rfl, rfl⟩)
          | (at_builtin; have _t := Hrun4; refine wpList_append_eq rfl (.tmp 64) (.tmp 73) 25 rfl _ _ _ _ rfl rfl Hrun4.out ?_; clear _t Hrun4)
          | (go_at_call 27; fail))
        refine (S1.out).mono ?_
        rintro e w9 ⟨rfl, hb9⟩
        have Hb9 := Lib.hid hb9
        have x0 := (Keeps.of_below hb9) _ _ c0
        have x1 := (Keeps.of_below hb9) _ _ c1
        clear hb9
        go_wp2_with fail
        refine (soundE w9 B _ _ _ _ false (A1'.out.below Hb9.out hB8) (F2.out.keep (Keeps.of_below Hb9.out)) E2.out (by omega) S2.out).mono ?_
        rintro e w10 ⟨rfl, hb10⟩
        have Hb10 := Lib.hid hb10
        have y0 := (Keeps.of_below hb10) _ _ x0
        have y1 := (Keeps.of_below hb10) _ _ x1
        have hz10 : w8.heap.size ≤ w9.heap.size := Hb9.out.size
        clear hb10
        go_wp2_with fail
        refine (soundE w10 B _ _ _ _ false ((A1'.out.below Hb9.out hB8).below Hb10.out (by omega)) ((F3.out.keep (Keeps.of_below Hb9.out)).keep (Keeps.of_below Hb10.out)) E3.out (by omega) S3.out).mono ?_
        rintro e w11 ⟨rfl, hb11⟩
        have Hb11 := Lib.hid hb11
        clear hb11
        go_wp2
        go_ret
        exact ⟨rfl, (Ball.out.trans (Hb9.out.mono hw8)).trans ((Hb10.out.mono (by omega)).trans (Hb11.out.mono (by have := Hb10.out.size; omega)))⟩
end Go.Proofs.Ytbjlbambheogbaa
