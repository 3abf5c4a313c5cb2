/- Package lattice's Level; its Size, Scan, Sort's parts. -/
import Derived.Test.YtjllmladhjbnaaaGreatDoorFoldN
namespace Go.Proofs.YtjllmladhjbnaaaGreatDoor
open Go.RowKit Go.Shelf
attribute [local go_sem] Oper.semAt_some
/-- How many dimensions a set has. -/
def lvl (s : Int) : Int := (dimsL s).length
theorem Tab.alloc {w : World} (h : Tab w) (o : Obj) : Tab (w.alloc o) := h.keep (Keeps.of_below ((Below.refl _ w).alloc (Nat.le_refl _) o))
theorem fullB4 : fullB 4 = 15 := by decide
set_option maxHeartbeats 1000000 in
theorem level_any (s : Int) (w : World) (h1 : 0 ≤ s) (h2 : s ≤ 15) (hT : Tab w) (hw1 : 1 < w.heap.size) :
    Calls Tryz.prog 40 #[.int .i64 s] w fun e w' => e = .returned (.int .i64 (lvl s)) ∧ Below w.heap.size w w' ∧ w'.drawn = w.drawn := by
  have hs := Lib.hid (isSet_any s 4 w (by omega))
  have e1 : (decide (0 ≤ s) && decide (s ≤ fullB 4)) = true := by rw [fullB4]; simp [h1, h2]
  rw [e1] at hs
  have hd := Lib.hid (dims_in s w)
  have hf := Lib.hid (foldN_any s w.heap.size 67 #[] (fun pre => (pre.length : Int)) (w.alloc (.cells #[.int .i64 s] 3)) h1 h2 (hT.alloc _) (by simp; omega) (by simp)
    (enters_of Tryz.func67 (by kernel_rfl) rfl) (fun pre x W hl _ => (level1_any pre.length x.1 W (by omega) (by have := dimsL_le s; omega)).mono fun _ _ ⟨h, k⟩ => ⟨by rw [h, List.length_append]; rfl, k⟩))
  clear e1
  go_enter Tryz.func40, Tryz.ntmps40
  go_wp2_with fail
  refine hs.out.mono ?_
  rintro e w' ⟨rfl, rfl⟩
  go_wp2_with fail
  refine hd.out.mono ?_
  rintro e w' ⟨rfl, rfl⟩
  go_wp2_with fail
  refine hf.out.mono ?_
  rintro e w' ⟨⟨ys, hys, rfl⟩, hb, hdr⟩
  have HB := Lib.hid (((Below.refl _ w).alloc (Nat.le_refl _) _).trans (hb.mono (by simp)))
  have HD := Lib.hid hdr
  have Hy := Lib.hid hys
  clear hb hdr hys
  go_wp2
  go_ret
  exact ⟨ret_int (by unfold lvl; rw [← Hy.out, List.length_map]), HB.out, HD.out⟩
end Go.Proofs.YtjllmladhjbnaaaGreatDoor
