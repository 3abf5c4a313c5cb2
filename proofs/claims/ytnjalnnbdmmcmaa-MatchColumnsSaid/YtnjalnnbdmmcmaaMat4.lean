/- Package match's least: the least of what free columns come to. -/
import Derived.Test.YtnjalnnbdmmcmaaMat3
namespace Go.Proofs.Ytnjalnnbdmmcmaa
open Go.RowKit Go.Shelf
attribute [local go_sem] Oper.semAt_some
set_option maxRecDepth 100000 in
set_option maxHeartbeats 4000000 in
theorem least_any (b1 b2 b3 G N m s : Nat) (row : List Int) (V : Nat → Int) (hm : m ≤ 12) (hs : s < 100000) (hrow : ∀ x ∈ row, 0 ≤ x ∧ x ≤ 1000000) (w : World) (hO : Off w b1 b2 b3 G N m s row V) :
    Calls Try.prog 19 #[.func (.func 23) #[] #[.pointer (some ⟨b1, 0, none⟩), .pointer (some ⟨b2, 0, none⟩), .pointer (some ⟨b3, 0, none⟩)]] w fun e w' => e = .returned (.int .i64 (leastI ((free m s).map (valK row V)))) ∧ Below w.heap.size w w' := by
  refine callsIn_wide (n := 9).1 ?_
  have HO := Lib.hid hO
  have HR := Lib.hid hrow
  obtain ⟨f, hf⟩ : ∃ f : List (Fr m s) → Int, f = fun pre => leastI (pre.map fun x => valK row V x.1) := ⟨_, rfl⟩
  have HF := Lib.hid hf
  have hf0 : f [] = 0 := by rw [hf]; rfl
  clear hO hrow hf
  refine callsIn_of_wp_marks Try.func19 rfl trivial ?_ rfl
  simp only [Try.ntmps19, List.size_toArray, List.length_cons, List.length_nil, Nat.reduceAdd, Nat.reduceSub, Array.replicate_succ, Array.replicate_zero, List.push_toArray, List.append_toArray, List.nil_append, List.cons_append]
  gi_wp2
  have b0 := (Boxed.new w 3 (.int .i64 0)).alloc (.cells #[.bool true] 4)
  have b1' := Boxed.new (w.alloc (.cells #[.int .i64 0] 3)) 4 (.bool true)
  simp only [World.size_alloc] at b1'
  have hB : Below w.heap.size w ((w.alloc (.cells #[.int .i64 0] 3)).alloc (.cells #[.bool true] 4)) := ((Below.refl _ w).alloc (Nat.le_refl _) _).alloc (by simp) _
  have hz : ((w.alloc (.cells #[.int .i64 0] 3)).alloc (.cells #[.bool true] 4)).heap.size = w.heap.size + 2 := by simp
  generalize (w.alloc (.cells #[.int .i64 0] 3)).alloc (.cells #[.bool true] 4) = w4 at b0 b1' hB hz ⊢
  refine wpIn_rangeFunc_ownG rfl (by omega) (gf := 23) (lb := #[.pointer (some ⟨b1, 0, none⟩), .pointer (some ⟨b2, 0, none⟩), .pointer (some ⟨b3, 0, none⟩)]) rfl trivial (enters_of Try.func23 (by kernel_rfl) rfl)
    (offers_stops 8 (by omega) b1 b2 b3 G N m s row V hm hs HR.out w HO.out) belowK_t (belowK_b (by omega)) hB (fun _ => rfl)
    (fun pre W => (Boxed W w.heap.size 3 (.int .i64 (f pre)) ∧ Boxed W (w.heap.size + 1) 4 (.bool pre.isEmpty)) ∧ Below w.heap.size w W)
    (fun _ _ _ => False)
    (OwnFrom.and (OwnFrom.and (Own.from (boxed_own _ _ (fun pre : List (Fr m s) => .int .i64 (f pre))) _) (Own.from (boxed_own _ _ (fun pre : List (Fr m s) => .bool pre.isEmpty)) _)) (ownFrom_below (by omega) (by omega)))
    (fun _ _ _ _ _ hs _ _ => hs)
    ⟨⟨by rw [hf0]; exact b0, b1'⟩, hB⟩
    (fun x => { tmps := #[.func (.func 23) #[] #[.pointer (some ⟨b1, 0, none⟩), .pointer (some ⟨b2, 0, none⟩), .pointer (some ⟨b3, 0, none⟩)], undef, .pointer (some ⟨w.heap.size, 0, none⟩), .pointer (some ⟨w.heap.size + 1, 0, none⟩), undef, .int .i64 (valK row V x.1), .func (.func 23) #[] #[.pointer (some ⟨b1, 0, none⟩), .pointer (some ⟨b2, 0, none⟩), .pointer (some ⟨b3, 0, none⟩)], .int .i64 (x.1 : Int), .int .i64 (valK row V x.1), undef, undef, undef, undef, undef, undef, undef, undef], defers := [] }) ?assign ?body ?done ?stop
  case assign =>
    intro l x W K hK
    gi_wp2
    exact hK
  case done =>
    rintro D ys W hD hys ⟨⟨hv, -⟩, hBW⟩ hK
    have hc := hv.cell
    have hfz := hv.frozen
    have HBW := Lib.hid hBW
    have HK := Lib.hid hK
    have Hys := Lib.hid hys
    have HV := Lib.hid hv
    clear hys hBW hv
    gi_wp2
    have hD2 : (W.setCell ⟨w.heap.size, 0, none⟩ (.int .i64 (f ys))).heap[D]? = some (.deferred (some [])) := (Below.heap_setCell _ _ _ _ (by show D ≠ w.heap.size; omega)).trans HK.out
    refine ⟨by simp, .inl ⟨_, _, rfl, run_takeDeferred hD2, ?_⟩⟩
    have hc2 : ((W.setCell ⟨w.heap.size, 0, none⟩ (.int .i64 (f ys))).putObj D (.deferred none)).cell? ⟨w.heap.size, 0, none⟩ = some (.int .i64 (f ys)) :=
      Boxed.cell ((World.putObj_heap_other (by omega)).trans (HV.out.set (.int .i64 (f ys))))
    refine ⟨.int .i64 (f ys), ?_, ?_, ?_⟩
    · simp [results, go_sem, hc2]
    · have e := HF.out
      have h2 := Hys.out
      subst e
      dsimp only
      have h3 : ys.map (fun x => valK row V x.1) = (ys.map (·.1)).map (valK row V) := by rw [List.map_map]; rfl
      exact ret_int (congrArg leastI (h3.trans (congrArg (List.map (valK row V)) h2)))
    · exact (HBW.out.setCell (p := ⟨w.heap.size, 0, none⟩) (Nat.le_refl _) _).trans (belowK_b (w := w) (Nat.le_refl _) _ D _ _ (by omega) hD2 rfl rfl)
  case stop =>
    rintro D c pre W _ _ h _
    exact h.elim
  case body =>
    rintro l pre x W ⟨⟨g0, g1⟩, hBW⟩ hlt
    have hc0 := g0.cell
    have hc1 := g1.cell
    have hf0 := g0.frozen
    have hf1 := g1.frozen
    have hfs : f (pre ++ [x]) = if pre = [] then valK row V x.1 else if valK row V x.1 < f pre then valK row V x.1 else f pre := by
      rw [HF.out]
      dsimp only
      rw [List.map_append, List.map_cons, List.map_nil, leastI_snoc]
      simp only [List.map_eq_nil_iff]
    have HFS := Lib.hid hfs
    have Hg0 := Lib.hid g0
    have Hg1 := Lib.hid g1
    have HBW := Lib.hid hBW
    have hWz := hBW.size
    have fin : ∀ (A : Act) (y : Int), f (pre ++ [x]) = y → ownPostG w4.heap.size (Below w.heap.size) (fun pre W => (Boxed W w.heap.size 3 (.int .i64 (f pre)) ∧ Boxed W (w.heap.size + 1) 4 (.bool pre.isEmpty)) ∧ Below w.heap.size w W) (fun _ _ _ => False) (pre ++ [x]) W   .normal A ((W.setCell ⟨w.heap.size, 0, none⟩ (.int .i64 y)).setCell ⟨w.heap.size + 1, 0, none⟩ (.bool false)) := by
      intro A y hy
      have hs : Below w.heap.size W ((W.setCell ⟨w.heap.size, 0, none⟩ (.int .i64 y)).setCell ⟨w.heap.size + 1, 0, none⟩ (.bool false)) := ((Below.refl _ W).setCell (p := ⟨w.heap.size, 0, none⟩) (Nat.le_refl _) _).setCell (p := ⟨w.heap.size + 1, 0, none⟩) (by show w.heap.size ≤ w.heap.size + 1; omega) _
      refine ⟨((KeepsOthers.setCell _ _ _).trans (KeepsOthers.setCell _ _ _)).from _, hs, ⟨?_, ?_⟩, HBW.out.trans hs⟩
      · rw [hy]; exact (Hg0.out.set _).other (by omega) _
      · have e : (pre ++ [x]).isEmpty = false := by simp
        rw [e]
        exact (Hg1.out.other (by omega) _).set _
    have FIN := Lib.hid fin
    clear fin hfs g0 g1 hBW hWz
    by_cases hp : pre = []
    · have he : pre.isEmpty = true := by rw [hp]; rfl
      rw [he] at hc1
      have hy : f (pre ++ [x]) = valK row V x.1 := by rw [HFS.out, if_pos hp]
      have HFN := Lib.hid (fun A => FIN.out A _ hy)
      clear hp he hy FIN HFS
      gi_wp2
      exact HFN.out _
    · have he : pre.isEmpty = false := by cases pre with | nil => exact absurd rfl hp | cons a t => rfl
      rw [he] at hc1
      by_cases hv : valK row V x.1 < f pre
      · have hy : f (pre ++ [x]) = valK row V x.1 := by rw [HFS.out, if_neg hp, if_pos hv]
        have HFN := Lib.hid (fun A => FIN.out A _ hy)
        have hd : decide (valK row V x.1 < f pre) = true := by simpa using hv
        clear hp he hy FIN HFS hv
        gi_wp2
        exact HFN.out _
      · have hy : f (pre ++ [x]) = f pre := by rw [HFS.out, if_neg hp, if_neg hv]
        have hd : decide (valK row V x.1 < f pre) = false := by simpa using hv
        have HY := Lib.hid hy
        clear hp hy FIN HFS hv
        have HE := Lib.hid he
        clear he
        gi_wp2
        refine ⟨(KeepsOthers.refl _).from _, Below.refl _ _, ⟨?_, ?_⟩, HBW.out⟩
        · rw [HY.out]; exact Hg0.out
        · have e : (pre ++ [x]).isEmpty = false := by simp
          rw [e, ← HE.out]
          exact Hg1.out
end Go.Proofs.Ytnjalnnbdmmcmaa
