/- Package cell's Group of no cells; of 60 at most. -/
import Derived.Test.YtbkcclmhgnplcaaDoorGroupN
import Derived.Deep.Upon
namespace Go.Proofs.YtbkcclmhgnplcaaDoor
open Go.RowKit Go.Shelf
attribute [local go_sem] Oper.semAt_some
theorem even0 (P : Option Addr) (c : Nat) (w : World) : Calls Tryd.prog 47 #[.slice P 0 c] w fun e w' => e = .returned (.bool true) ∧ Below w.heap.size w w' := by
  have d1 : decide ((0 : Int) < ((0 : Nat) : Int)) = false := rfl
  go_enter Tryd.func47, Tryd.ntmps47
  go_wp2_with fail
  go_loopw [8] (fun i wr => i = .int .i64 0 ∧ wr = w) (fun _ _ => 0)
  case atStart => exact ⟨rfl, rfl⟩
  case round =>
    obtain ⟨rfl, rfl⟩ := hrel
    go_wp2
    go_ret
    exact ⟨rfl, Below.refl _ _⟩
theorem clone0 (P : Option Addr) (c : Nat) (w : World) : Calls Tryd.prog 49 #[.slice P 0 c] w fun e w' => ∃ Q c', e = .returned (.slice Q 0 c') ∧ Below w.heap.size w w' := by
  cases P with
  | none =>
    have hq : (binOp .eql 31 (.slice none 0 c) (.slice none 0 0)).run Tryd.prog w = .ok (.bool true) w := Go.Lib.run_eql_slice_nil w _ _ none _ _ 0 0 Tryd.underlying31
    go_enter Tryd.func49, Tryd.ntmps49
    go_wp2
    go_ret
    exact ⟨_, _, rfl, Below.refl _ _⟩
  | some ad =>
    obtain ⟨i0, hi, hz0, hz1, hz2⟩ := info_parts infoC
    have hrun := run_append_nothing (P := Tryd.prog) (w.alloc (.cells #[] 33)) 31 31 31 33 i0 Tryd.underlying31 hi (some ⟨w.heap.size, 0, none⟩) 0 0 (Nat.le_refl _) (.slice (some ad) 0 c) (Src.ofSlice _ Tryd.underlying31 ad 0 c [] (by simp) (fun j u h => by simp at h) (fun u h => by cases h))
    have Hrun := Lib.hid hrun
    have Hb := Lib.hid ((Below.refl w.heap.size w).alloc (Nat.le_refl _) (.cells #[] 33))
    have hq : (binOp .eql 31 (.slice (some ad) 0 c) (.slice none 0 0)).run Tryd.prog w = .ok (.bool false) w := Go.Lib.run_eql_slice_nil w _ _ (some ad) _ _ 0 0 Tryd.underlying31
    clear hrun hi hz0 hz1 hz2
    go_enter Tryd.func49, Tryd.ntmps49
    go_wp2_with (at_builtin; have _t := Hrun; refine wpList_append_eq rfl (.tmp 5) (.tmp 6) 31 rfl _ _ _ _ rfl rfl Hrun.out ?_; clear _t Hrun)
    go_ret
    exact ⟨_, _, rfl, Hb.out⟩
theorem isort0 (P : Option Addr) (c : Nat) (w : World) : Calls Tryd.prog 101 #[.slice P 0 c, .int .i64 0, .int .i64 0, .func (.func 51) #[] #[]] w fun e w' => (∃ v, e = .returned v) ∧ w = w' := by
  have d1 : decide ((1 : Int) < (0 : Int)) = false := rfl
  go_enter Tryd.func101, Tryd.ntmps101
  go_wp2_with fail
  go_loopw [8] (fun i wr => i = .int .i64 1 ∧ wr = w) (fun _ _ => 0)
  case atStart => exact ⟨rfl, rfl⟩
  case round =>
    obtain ⟨rfl, rfl⟩ := hrel
    go_wp2
    go_end0
    exact ⟨⟨_, rfl⟩, rfl⟩
theorem stable0 (P : Option Addr) (c : Nat) (w : World) : Calls Tryd.prog 78 #[.slice P 0 c, .int .i64 0, .func (.func 51) #[] #[]] w fun e w' => (∃ v, e = .returned v) ∧ w = w' := by
  go_enter Tryd.func78, Tryd.ntmps78
  go_wp2_with fail
  go_loopw [7, 8] (fun v u W => v = .int .i64 0 ∧ u = .int .i64 20 ∧ W = w) (fun _ _ _ => 0)
  case atStart => exact ⟨rfl, rfl, rfl⟩
  case round =>
    obtain ⟨rfl, rfl, rfl⟩ := hrel
    go_wp2_with fail
    refine (isort0 P c _).mono ?_
    rintro e w1 ⟨⟨v, rfl⟩, rfl⟩
    go_wp2_with fail
    rename World => wq
    go_loopw [6] (fun v W' => v = .int .i64 20 ∧ W' = wq) (fun _ _ => 0)
    case atStart => exact ⟨rfl, rfl⟩
    case round =>
      obtain ⟨rfl, rfl⟩ := hrel
      go_wp2
      go_end0
      exact ⟨⟨_, rfl⟩, rfl⟩
theorem sort0 (P : Option Addr) (c : Nat) (w : World) : Calls Tryd.prog 50 #[.slice P 0 c, .func (.func 51) #[] #[]] w fun e w' => (∃ v, e = .returned v) ∧ w = w' := by
  go_enter Tryd.func50, Tryd.ntmps50
  go_wp2_with fail
  refine (stable0 P c _).mono ?_
  rintro e w1 ⟨⟨v, rfl⟩, rfl⟩
  go_wp2
  go_end0
  exact ⟨⟨_, rfl⟩, rfl⟩
theorem alike0_stops (n : Nat) (Bs : Nat) (Q : Option Addr) (c : Nat) (w : World) (hBs : Bs < w.heap.size) (hb : w.cell? ⟨Bs, 0, none⟩ = some (.slice Q 0 c)) :
    SeqStopsK Fence.wide n Tryd.prog 79 #[.pointer (some ⟨Bs, 0, none⟩)] (fun _ : Unit => #[Value.slice Q 0 c]) (fun _ _ => True) (fun ys => ys = []) (fun _ => True) 0 w := fun l J Jx W hW hA _ hY h0 => by
  have hBs' : W.cell? ⟨Bs, 0, none⟩ = some (.slice Q 0 c) := (hW.cell (p := ⟨Bs, 0, none⟩) hBs).trans hb
  refine callsIn_of_wp Tryd.func79 rfl trivial ?_ rfl
  simp only [Tryd.ntmps79, List.size_toArray, List.length_cons, List.length_nil, Nat.reduceAdd, Nat.reduceSub, Array.replicate_succ, Array.replicate_zero, List.push_toArray, List.append_toArray, List.nil_append, List.cons_append]
  gi_wp2
  gi_loopw [3] (fun p wr => p = .slice Q 0 c ∧ wr = W) (fun _ _ => 0)
  case atStart => exact ⟨rfl, rfl⟩
  case round =>
    obtain ⟨rfl, rfl⟩ := hrel
    have d1 : decide ((0 : Int) < ((0 : Nat) : Int)) = false := rfl
    gi_wp2
    go_end0
    exact ⟨⟨_, rfl⟩, .inl ⟨[], rfl, h0⟩⟩
set_option maxRecDepth 100000 in
set_option maxHeartbeats 2000000 in
theorem group0_any (P : Option Addr) (c : Nat) (w : World) :
    Calls Tryd.prog 28 #[.slice P 0 c] w fun e w' => ∃ v us, e = .returned v ∧ GRs w.heap.size w' v us (grpR []) ∧ Below w.heap.size w w' := by
  refine callsIn_wide (n := 9).1 ?_
  refine callsIn_of_wp_marks Tryd.func28 rfl trivial ?_ rfl
  simp only [Tryd.ntmps28, List.size_toArray, List.length_cons, List.length_nil, Nat.reduceAdd, Nat.reduceSub, Array.replicate_succ, Array.replicate_zero, List.push_toArray, List.append_toArray, List.nil_append, List.cons_append]
  gi_wp2_with fail
  refine ⟨trivial, ?_⟩
  refine (callsIn_wide.2 (even0 P c w)).mono ?_
  rintro e w1 ⟨rfl, hb1⟩
  have B1 := Lib.hid hb1
  clear hb1
  gi_wp2_with fail
  refine ⟨trivial, ?_⟩
  refine (callsIn_wide.2 (clone0 P c w1)).mono ?_
  rintro e w2 ⟨Q, c', rfl, hb2⟩
  have B2 := Lib.hid (B1.out.trans (hb2.mono B1.out.size))
  clear hb2
  gi_wp2_with fail
  refine ⟨trivial, ?_⟩
  refine (callsIn_wide.2 (sort0 Q c' w2)).mono ?_
  rintro e w3 ⟨⟨v0, rfl⟩, rfl⟩
  gi_wp2_with fail
  refine ⟨trivial, ?_⟩
  refine (callsIn_wide.2 (alike_in Q 0 c' _)).mono ?_
  rintro e w4 ⟨rfl, rfl⟩
  have b0 := (Boxed.new w2 31 (.slice none 0 0)).alloc (.cells #[.slice Q 0 c'] 31)
  have b1 := Boxed.new (w2.alloc (.cells #[.slice none 0 0] 31)) 31 (.slice Q 0 c')
  have hB34 : Below w2.heap.size w2 ((w2.alloc (.cells #[.slice none 0 0] 31)).alloc (.cells #[.slice Q 0 c'] 31)) := ((Below.refl _ w2).alloc (Nat.le_refl _) _).alloc (by simp) _
  have hz4 : ((w2.alloc (.cells #[.slice none 0 0] 31)).alloc (.cells #[.slice Q 0 c'] 31)).heap.size = w2.heap.size + 2 := by simp
  simp only [World.size_alloc] at b0 b1 ⊢
  gi_wp2_with fail
  generalize (w2.alloc (.cells #[.slice none 0 0] 31)).alloc (.cells #[.slice Q 0 c'] 31) = w4 at b0 b1 hB34 hz4 ⊢
  have hw3 := B2.out.size
  refine wpIn_rangeFunc_ownG rfl (by omega) (gf := 79) (lb := #[.pointer (some ⟨w2.heap.size + 1, 0, none⟩)]) rfl trivial (enters_of Tryd.func79 (by kernel_rfl) rfl)
    (alike0_stops 8 (w2.heap.size + 1) Q c' w4 (by omega) b1.cell) (fun _ _ => trivial) (fun _ _ _ _ _ _ _ _ => trivial) (Below.refl _ _) (fun _ => rfl)
    (fun _ W => Below w2.heap.size w4 W ∧ Boxed W w2.heap.size 31 (.slice none 0 0)) (fun _ _ _ => False)
    (OwnFrom.and (ownFrom_below (by omega) (by omega)) (Own.from (boxed_own _ _ _) _)) (fun _ _ _ _ _ hs _ _ => hs) ⟨Below.refl _ _, b0⟩
    (fun _ => { tmps := #[.slice P 0 c, undef, .slice none 0 0, .slice Q 0 c', .pointer (some ⟨w2.heap.size, 0, none⟩), .slice Q 0 c', .slice P 0 c, .bool true, .bool false, .slice P 0 c, .slice Q 0 c', .slice Q 0 c', v0, .slice Q 0 c', .func (.func 79) #[] #[.pointer (some ⟨w2.heap.size + 1, 0, none⟩)], .slice Q 0 c', undef, undef, undef, undef, undef, undef], defers := [] }) ?assign ?body ?done ?stop
  case assign =>
    intro l x W K hK
    gi_wp2
    exact hK
  case done =>
    rintro D ys W hD hys ⟨hb, hv⟩ hK
    have hc := hv.cell
    have HBW := Lib.hid (B2.out.trans ((hB34.trans hb).mono hw3))
    have HK := Lib.hid hK
    clear hys hb
    gi_wp2
    refine ⟨by simp, .inl ⟨_, _, rfl, run_takeDeferred HK.out, ?_⟩⟩
    exact ⟨_, results_tmp rfl _ _ _, _, [], rfl, GRs.nil _ _, HBW.out.trans (belowK_b (w := w) (Nat.le_refl _) W D _ _ (by omega) HK.out rfl rfl)⟩
  case stop =>
    rintro D c pre W _ _ h _
    exact h.elim
  case body =>
    rintro l pre x W hI hlt
    omega
/-- Group of a row of the call's own, or of any row of cells. -/
theorem groupR_any (P : Option Addr) (c N : Nat) (L : List Cel) (me : Nat) (w : World) (hl : 0 < N → ∃ ad, P = some ad ∧ CellsR w ad L) (he : ∀ x ∈ L, EvenC me x) (hkl : ∀ x ∈ L, x.key.length ≤ 1000000) (hm : me ≤ 1000000) (hN : N = L.length) (hn : N ≤ 60) :
    Calls Tryd.prog 28 #[.slice P N c] w fun e w' => ∃ v us, e = .returned v ∧ GRs w.heap.size w' v us (grpR L) ∧ Below w.heap.size w w' := by
  rcases Nat.eq_zero_or_pos N with h | h
  · have e : L = [] := List.eq_nil_of_length_eq_zero (by omega)
    subst h e
    exact group0_any P c w
  · obtain ⟨ad, rfl, hc⟩ := hl h
    exact groupN_any ad c N L me w hc he hkl hm hN hn h
end Go.Proofs.YtbkcclmhgnplcaaDoor
