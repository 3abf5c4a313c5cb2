/- The reference's table: New, find, Put. -/
import Derived.IntWalk
import Derived.Test.YtioddfodajinlaaHshr1
import Derived.Test.YtioddfodajinlaaHsh7
import Derived.Test.YtioddfodajinlaaCelg
import Derived.Test.YtioddfodajinlaaJoinS
import Derived.Test.YtioddfodajinlaaRjoin
import Derived.Test.YtioddfodajinlaaRegP
namespace Go.Proofs.Ytioddfodajinlaa
open Go.RowKit
attribute [local go_sem] Oper.semAt_some
theorem infoBl : (Try.prog.info? 4).map (fun i => (i.zero, i.size, i.bytes)) = some (some (.bool false), 1, 1) := by kernel_rfl
theorem make_cellsR (n : Nat) (hn : n ≤ 10000) (w : World) : (Instr.makeSlice 29 (.int .i64 (n : Int)) (.int .i64 (n : Int))).run Try.prog w = .ok (.slice (some ⟨w.heap.size, 0, none⟩) n n) (w.alloc (.cells (madeCells #[.slice none 0 0, .int .i64 0, .slice none 0 0, .slice none 0 0, .slice none 0 0] (n * 5)) 39)) := by
  obtain ⟨i, hi, hz, hs, hb⟩ := info_parts infoC
  have hr := run_make (P := Try.prog) w 29 39 i (.agg #[.slice none 0 0, .int .i64 0, .slice none 0 0, .slice none 0 0, .slice none 0 0]) Try.underlying29 hi hz .i64 .i64 n n (by omega) (by omega) (by rw [hb]; omega) (by omega)
  simpa [hs, Value.cells] using hr
theorem make_boolsR (n : Nat) (hn : n ≤ 10000) (w : World) : (Instr.makeSlice 62 (.int .i64 (n : Int)) (.int .i64 (n : Int))).run Try.prog w = .ok (.slice (some ⟨w.heap.size, 0, none⟩) n n) (w.alloc (.cells (madeCells #[.bool false] n) 4)) := by
  obtain ⟨i, hi, hz, hs, hb⟩ := info_parts infoBl
  have hr := run_make (P := Try.prog) w 62 4 i (.bool false) Try.underlying62 hi hz .i64 .i64 n n (by omega) (by omega) (by rw [hb]; omega) (by omega)
  simpa [hs, Value.cells] using hr
theorem isV_new (n : Nat) : (madeCells #[.bool false] n).toList = isV (List.replicate n none) := by
  rw [toList_madeCells_one]
  simp [isV]
theorem three (w : World) (A B C : Obj) : (((w.alloc A).alloc B).alloc C).drew.heap[w.heap.size]? = some A ∧ (((w.alloc A).alloc B).alloc C).drew.heap[w.heap.size + 1]? = some B ∧ (((w.alloc A).alloc B).alloc C).drew.heap[w.heap.size + 1 + 1]? = some C ∧ Below w.heap.size w (((w.alloc A).alloc B).alloc C).drew := by
  have s1 : (w.alloc A).heap.size = w.heap.size + 1 := by simp
  have s2 : ((w.alloc A).alloc B).heap.size = w.heap.size + 1 + 1 := by simp
  have b2 : Below (w.alloc A).heap.size (w.alloc A) ((w.alloc A).alloc B) := (Below.refl _ _).alloc (Nat.le_refl _) _
  have b3 : Below ((w.alloc A).alloc B).heap.size ((w.alloc A).alloc B) (((w.alloc A).alloc B).alloc C).drew := ((Below.refl _ _).alloc (Nat.le_refl _) _).drew
  have e1 : (w.alloc A).heap[w.heap.size]? = some A := heap_alloc_new w A
  have e2 : ((w.alloc A).alloc B).heap[w.heap.size + 1]? = some B := by rw [← s1]; exact heap_alloc_new _ B
  have e3 : (((w.alloc A).alloc B).alloc C).drew.heap[w.heap.size + 1 + 1]? = some C := by rw [← s2]; exact heap_alloc_new _ C
  refine ⟨?_, ?_, e3, ((((Below.refl _ w).alloc (Nat.le_refl _) _).alloc (by rw [s1]; omega) _).alloc (by rw [s2]; omega) _).drew⟩
  · rw [b3.block _ (by rw [s2]; omega), b2.block _ (by rw [s1]; omega)]; exact e1
  · rw [b3.block _ (by rw [s2]; omega)]; exact e2
theorem RT.made {w' : World} {T gC gI n : Nat} {B : Nat} (h1 : w'.heap[gC]? = some (.cells (madeCells #[.slice none 0 0, .int .i64 0, .slice none 0 0, .slice none 0 0, .slice none 0 0] (n * 5)) 39 (0, 0))) (h2 : w'.heap[gI]? = some (.cells (madeCells #[.bool false] n) 4 (0, 0))) (h3 : Own 64 w' T [.slice (some ⟨gC, 0, none⟩) n n, .slice (some ⟨gI, 0, none⟩) n n, .int .i64 0]) (hT : B ≤ T) (hC : B ≤ gC) (hI : B ≤ gI) : RT B w' T gC gI (List.replicate n none) (List.replicate n none) := by
  refine ⟨?_, ?_, ?_, by simp, fun i v t hv ht => ?_, hT, hC, hI⟩
  · rw [cells_new, List.length_replicate]; exact h3
  · unfold Own; rw [h1, ← flatC_new]
  · unfold Own; rw [h2, ← isV_new]
  · rw [List.getElem?_replicate] at hv ht
    split at hv
    · rename_i hn
      rw [if_pos hn] at ht
      cases hv; cases ht
      trivial
    · cases hv
set_option maxRecDepth 100000 in
set_option maxHeartbeats 2000000 in
theorem rtNew_any (n : Nat) (w : World) (_h1 : 1 ≤ n) (h2 : n ≤ 10000) :
    Calls Try.prog 12 #[.int .i64 n] w fun e w' => ∃ T gC gI, e = .returned (.pointer (some ⟨T, 0, none⟩)) ∧ RT w.heap.size w' T gC gI (List.replicate n none) (List.replicate n none) ∧ Below w.heap.size w w' := by
  have m1 := make_cellsR n h2 w.drew
  have m2 := make_boolsR n h2 w.drew
  have m3 := make_cellsR n h2 (w.alloc (.cells (madeCells #[.bool false] n) 4)).drew
  have m4 := make_boolsR n h2 (w.alloc (.cells (madeCells #[.slice none 0 0, .int .i64 0, .slice none 0 0, .slice none 0 0, .slice none 0 0] (n * 5)) 39)).drew
  go_enter Try.func12, Try.ntmps12
  go_upto_region 1 with (fail)
  refine wp_region_held_drew (S := fun _ => True) (by kernel_rfl) trivial (fun hHeld => ?_)
  refine wpAnyH_take (i := 0) (v := ?vpa0) rfl (by kernel_rfl) (by kernel_rfl) (by kernel_rfl) (fun _ _ _ h => h) (Or.inl ⟨by rfl, ?ypa0⟩) hHeld ?rpa0
  case ypa0 => (intro W hW; obtain hW := hW; go_simp; first | done | with_reducible rfl)
  try simp only [List.getElem_toArray, List.getElem_cons_zero, Act.put, List.setIfInBounds_toArray, List.set_cons_zero, List.set_cons_succ]
  refine wpAnyH_take (i := 2) (v := ?vpa2) rfl (by kernel_rfl) (by kernel_rfl) (by kernel_rfl) (fun _ _ _ h => h) (Or.inl ⟨by rfl, ?ypa2⟩) hHeld ?rpa2
  case ypa2 => (intro W hW; obtain hW := hW; go_simp; first | done | with_reducible rfl)
  try simp only [List.getElem_toArray, List.getElem_cons_succ, List.getElem_cons_zero, Act.put, List.setIfInBounds_toArray, List.set_cons_zero, List.set_cons_succ]
  refine wpAnyH_ready (rs := [1, 3]) (by kernel_rfl) (by simp) ?_
  refine AllReadyH.cons rfl (fun K hK => ?_) (AllReadyH.cons rfl (fun K hK => ?_) AllReadyH.nil)
  · go_simp
    refine hK.out _ _ trivial (fun hHeld => ?_)
    clear hK K
    try simp only [List.getElem_toArray, List.getElem_cons_succ, List.getElem_cons_zero, Act.put, List.setIfInBounds_toArray, List.set_cons_zero, List.set_cons_succ]
    refine wpAnyH_ready (rs := [3]) (by kernel_rfl) (by simp) ?_
    refine AllReadyH.cons rfl (fun K hK => ?_) (AllReadyH.nil)
    go_simp
    refine hK.out _ _ (trivial) (fun hHeld => ?_)
    clear hK K
    try simp only [List.getElem_toArray, List.getElem_cons_succ, List.getElem_cons_zero, Act.put, List.setIfInBounds_toArray, List.set_cons_zero, List.set_cons_succ]
    refine wpAnyH_take (i := 4) (v := ?vpb4) rfl (by kernel_rfl) (by kernel_rfl) (by kernel_rfl) (fun _ _ _ h => h) (Or.inl ⟨by rfl, ?ypb4⟩) hHeld ?rpb4
    case ypb4 => (intro W hW; obtain hW := hW; go_simp; first | done | with_reducible rfl)
    try simp only [List.getElem_toArray, List.getElem_cons_succ, List.getElem_cons_zero, Act.put, List.setIfInBounds_toArray, List.set_cons_zero, List.set_cons_succ]
    refine wpAnyH_ready (rs := [5]) (by kernel_rfl) (by simp) ?_
    refine AllReadyH.cons rfl (fun K hK => ?_) (AllReadyH.nil)
    go_simp
    refine hK.out _ _ (trivial) (fun hHeld => ?_)
    clear hK K
    try simp only [List.getElem_toArray, List.getElem_cons_succ, List.getElem_cons_zero, Act.put, List.setIfInBounds_toArray, List.set_cons_zero, List.set_cons_succ]
    refine wpAnyH_take (i := 6) (v := ?vpb6) rfl (by kernel_rfl) (by kernel_rfl) (by kernel_rfl) (fun _ _ _ h => h) (Or.inl ⟨by rfl, ?ypb6⟩) hHeld ?rpb6
    case ypb6 => (intro W hW; obtain hW := hW; go_simp; first | done | with_reducible rfl)
    try simp only [List.getElem_toArray, List.getElem_cons_succ, List.getElem_cons_zero, Act.put, List.setIfInBounds_toArray, List.set_cons_zero, List.set_cons_succ]
    refine wpAnyH_done (by kernel_rfl) ?_ _
    obtain ⟨e1, e2, e3, e4⟩ := three w (.cells (madeCells #[.slice none 0 0, .int .i64 0, .slice none 0 0, .slice none 0 0, .slice none 0 0] (n * 5)) 39) (.cells (madeCells #[.bool false] n) 4) (.cells #[.slice (some ⟨w.heap.size, 0, none⟩) n n, .slice (some ⟨w.heap.size + 1, 0, none⟩) n n, .int .i64 0] 64)
    have hR := RT.made e1 e2 e3 (B := w.heap.size) (by omega) (Nat.le_refl _) (by omega)
    go_wp2
    go_ret
    exact ⟨_, _, _, rfl, hR, e4⟩
  · go_simp
    refine hK.out _ _ trivial (fun hHeld => ?_)
    clear hK K
    try simp only [List.getElem_toArray, List.getElem_cons_succ, List.getElem_cons_zero, Act.put, List.setIfInBounds_toArray, List.set_cons_zero, List.set_cons_succ]
    refine wpAnyH_ready (rs := [1]) (by kernel_rfl) (by simp) ?_
    refine AllReadyH.cons rfl (fun K hK => ?_) (AllReadyH.nil)
    go_simp
    refine hK.out _ _ (trivial) (fun hHeld => ?_)
    clear hK K
    try simp only [List.getElem_toArray, List.getElem_cons_succ, List.getElem_cons_zero, Act.put, List.setIfInBounds_toArray, List.set_cons_zero, List.set_cons_succ]
    refine wpAnyH_take (i := 4) (v := ?vpc4) rfl (by kernel_rfl) (by kernel_rfl) (by kernel_rfl) (fun _ _ _ h => h) (Or.inl ⟨by rfl, ?ypc4⟩) hHeld ?rpc4
    case ypc4 => (intro W hW; obtain hW := hW; go_simp; first | done | with_reducible rfl)
    try simp only [List.getElem_toArray, List.getElem_cons_succ, List.getElem_cons_zero, Act.put, List.setIfInBounds_toArray, List.set_cons_zero, List.set_cons_succ]
    refine wpAnyH_ready (rs := [5]) (by kernel_rfl) (by simp) ?_
    refine AllReadyH.cons rfl (fun K hK => ?_) (AllReadyH.nil)
    go_simp
    refine hK.out _ _ (trivial) (fun hHeld => ?_)
    clear hK K
    try simp only [List.getElem_toArray, List.getElem_cons_succ, List.getElem_cons_zero, Act.put, List.setIfInBounds_toArray, List.set_cons_zero, List.set_cons_succ]
    refine wpAnyH_take (i := 6) (v := ?vpc6) rfl (by kernel_rfl) (by kernel_rfl) (by kernel_rfl) (fun _ _ _ h => h) (Or.inl ⟨by rfl, ?ypc6⟩) hHeld ?rpc6
    case ypc6 => (intro W hW; obtain hW := hW; go_simp; first | done | with_reducible rfl)
    try simp only [List.getElem_toArray, List.getElem_cons_succ, List.getElem_cons_zero, Act.put, List.setIfInBounds_toArray, List.set_cons_zero, List.set_cons_succ]
    refine wpAnyH_done (by kernel_rfl) ?_ _
    obtain ⟨e1, e2, e3, e4⟩ := three w (.cells (madeCells #[.bool false] n) 4) (.cells (madeCells #[.slice none 0 0, .int .i64 0, .slice none 0 0, .slice none 0 0, .slice none 0 0] (n * 5)) 39) (.cells #[.slice (some ⟨w.heap.size + 1, 0, none⟩) n n, .slice (some ⟨w.heap.size, 0, none⟩) n n, .int .i64 0] 64)
    have hR := RT.made e2 e1 e3 (B := w.heap.size) (by omega) (by omega) (Nat.le_refl _)
    go_wp2
    go_ret
    exact ⟨_, _, _, rfl, hR, e4⟩
end Go.Proofs.Ytioddfodajinlaa
