/- What each law of plans by hashing calls first. -/
import Derived.Test.YtjllmladhjbnaaaDoorTree
import Derived.Test.YtjllmladhjbnaaaDoorEdF
import Derived.Test.YtjllmladhjbnaaaDoorWith11
namespace Go.Proofs.YtjllmladhjbnaaaDoor
open Go.RowKit Go.Shelf
attribute [local go_sem] Oper.semAt_some
theorem kn11_plan : treeM [3] 5 = [⟨1, -1, false⟩, ⟨0, 1, false⟩] := by kernel_rfl
theorem kn11_check : checkB [3] ((0 : Nat) : Int) = true := by decide +kernel
set_option maxRecDepth 100000 in
set_option maxHeartbeats 4000000 in
theorem known11_any (w : World) (hT : Tab w) (hw1 : 1 < w.heap.size) : Calls Tryd.prog 9 #[] w fun e w' => e = .returned (.bool true) ∧ Below w.heap.size w w' := by
  have hb0 : Below w.heap.size w (w.alloc (.cells #[.int .i64 3] 3)) := below_box w _
  have hn : Nums .i64 (w.alloc (.cells #[.int .i64 3] 3)) (some ⟨w.heap.size, 0, none⟩) 1 [3] := by
    have := (show Arr .i64 3 (w.alloc (.cells #[.int .i64 3] 3)) w.heap.size [3] from heap_alloc_new w _).nums (by intro x hx; simp at hx; subst hx; constructor <;> omega)
    exact this
  have hfq : FQ (w.alloc (.cells #[.int .i64 3] 3)) (some ⟨w.heap.size, 0, none⟩) 1 0 [3] 5 := ⟨hn, by omega, by omega, by omega, by intro x hx; simp at hx; subst hx; omega, by omega, by omega, hT.below hb0 hw1, by simp; omega⟩
  have hp := tplan_any (some ⟨w.heap.size, 0, none⟩) 1 1 0 [3] 5 _ hfq kn11_check
  rw [kn11_plan] at hp
  have HP := Lib.hid hp
  have HB0 := Lib.hid hb0
  clear hb0 hn hfq hp hT
  go_enter Tryd.func9, Tryd.ntmps9
  go_wp2_with fail
  refine HP.out.mono ?_
  rintro e w1 ⟨v, rfl, ho, hb1⟩
  have hbw := HB0.out.trans (hb1.mono HB0.out.size)
  obtain ⟨A, c, rfl, hE, hc2⟩ := OE.form2 ho (by intro e he; simp at he; rcases he with rfl | rfl <;> (constructor <;> constructor <;> simp))
  obtain ⟨g, o, rfl, hcs⟩ := hE.2.2 (by simp)
  obtain ⟨x0, x1, x2⟩ := hcs 0 _ rfl
  obtain ⟨y0, y1, y2⟩ := hcs 1 _ rfl
  rw [Nat.zero_mul, Nat.add_zero] at x0 x1 x2
  rw [Nat.one_mul] at y0 y1 y2
  have HBW := Lib.hid hbw
  clear hb1 hbw hE hcs ho
  simp only [List.length_cons, List.length_nil, Nat.zero_add, Nat.reduceAdd]
  simp only [] at x0 x1 x2 y0 y1 y2
  go_wp2
  go_ret
  exact ⟨rfl, HBW.out⟩
end Go.Proofs.YtjllmladhjbnaaaDoor
