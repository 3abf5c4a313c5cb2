/- What each law of plans by sorting calls first. -/
import Derived.Test.YtjllmladhjbnaaaGreatDoorSoB
import Derived.Test.YtjllmladhjbnaaaGreatDoorEdF
import Derived.Test.YtjllmladhjbnaaaGreatDoorSoC
import Derived.Test.YtjllmladhjbnaaaGreatDoorWith10
import Derived.Test.YtjllmladhjbnaaaGreatDoorFactsLaw8
namespace Go.Proofs.YtjllmladhjbnaaaGreatDoor
open Go.RowKit Go.Shelf
attribute [local go_sem] Oper.semAt_some
theorem kn10_plan : planM [3] 5 = [⟨1, -1, false⟩, ⟨0, 1, true⟩] := by kernel_rfl
theorem kn10_right : planB [⟨1, -1, false⟩, ⟨0, 1, true⟩] 1 = true := by decide +kernel
theorem kn10_check : checkB [3] ((0 : Nat) : Int) = true := by decide +kernel
set_option maxRecDepth 100000 in
set_option maxHeartbeats 4000000 in
theorem known10_any (w : World) (hT : Tab w) (hw1 : 1 < w.heap.size) : Calls Tryz.prog 5 #[] w fun e w' => e = .returned (.bool true) ∧ Below w.heap.size w w' := by
  have hb0 : Below w.heap.size w (w.alloc (.cells #[.int .i64 3] 3)) := below_box w _
  have hn : Nums .i64 (w.alloc (.cells #[.int .i64 3] 3)) (some ⟨w.heap.size, 0, none⟩) 1 [3] := by
    have := (show Arr .i64 3 (w.alloc (.cells #[.int .i64 3] 3)) w.heap.size [3] from heap_alloc_new w _).nums (by intro x hx; simp at hx; subst hx; constructor <;> omega)
    exact this
  have hfq : FQ (w.alloc (.cells #[.int .i64 3] 3)) (some ⟨w.heap.size, 0, none⟩) 1 0 [3] 5 := ⟨hn, by omega, by omega, by omega, by intro x hx; simp at hx; subst hx; omega, by omega, by omega, hT.below hb0 hw1, by simp; omega⟩
  have hp := plan_any (some ⟨w.heap.size, 0, none⟩) 1 1 0 [3] 5 _ hfq kn10_check
  rw [kn10_plan] at hp
  have HP := Lib.hid hp
  have HB0 := Lib.hid hb0
  have HT := Lib.hid hT
  clear hb0 hn hfq hp hT
  go_enter Tryz.func5, Tryz.ntmps5
  go_wp2_with fail
  refine HP.out.mono ?_
  rintro e w1 ⟨v, rfl, ho, hb1⟩
  have hbw := HB0.out.trans (hb1.mono HB0.out.size)
  obtain ⟨A, c, rfl, hE, hc2⟩ := OE.form2 ho (by intro e he; simp at he; rcases he with rfl | rfl <;> (constructor <;> constructor <;> simp))
  have hr := right_any A 2 c 1 _ w1 hE hc2 (by omega) (by omega) (by omega) (HT.out.below hbw hw1) (by have := hbw.size; omega)
  rw [kn10_right] at hr
  have HR := Lib.hid hr
  obtain ⟨g, o, rfl, hcs⟩ := hE.2.2 (by simp)
  obtain ⟨x0, x1, x2⟩ := hcs 0 _ rfl
  obtain ⟨y0, y1, y2⟩ := hcs 1 _ rfl
  rw [Nat.zero_mul, Nat.add_zero] at x0 x1 x2
  rw [Nat.one_mul] at y0 y1 y2
  have HBW := Lib.hid hbw
  clear hb1 hbw hE hcs ho hr
  simp only [List.length_cons, List.length_nil, Nat.zero_add, Nat.reduceAdd]
  simp only [] at x0 x1 x2 y0 y1 y2
  go_wp2_with fail
  refine HR.out.mono ?_
  rintro e w2 ⟨rfl, hb2⟩
  have HB2 := Lib.hid (HBW.out.trans (hb2.mono HBW.out.size))
  clear hb2 x0 x1 x2 y0 y1 y2
  go_wp2
  go_ret
  exact ⟨rfl, HB2.out⟩
end Go.Proofs.YtjllmladhjbnaaaGreatDoor
