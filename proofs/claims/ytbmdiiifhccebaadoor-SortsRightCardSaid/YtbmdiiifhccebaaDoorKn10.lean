/- What each law of plans by sorting calls first. -/
import Derived.Test.YtbmdiiifhccebaaDoorSoB
import Derived.Test.YtbmdiiifhccebaaDoorSoC
import Derived.Test.YtbmdiiifhccebaaDoorWith10
import Derived.Test.YtbmdiiifhccebaaDoorFactsLaw8
namespace Go.Proofs.YtbmdiiifhccebaaDoor
open Go.RowKit Go.Shelf
attribute [local go_sem] Oper.semAt_some
theorem right_in {d : Nat} {es : List Ed} (h1 : 1 ≤ d) (h4 : d ≤ 4) (h : RightP d es) : ∀ e ∈ es, inK .i64 e.s ∧ inK .i64 e.p := by
  have hf := fullB_15 d h4
  intro e he
  have hs := sets_bd d h1 h4 _ (h.mem he)
  rw [h.cons] at he
  rcases List.mem_cons.1 he with rfl | he
  · exact ⟨⟨by omega, by omega⟩, by show inK .i64 (-1); constructor <;> omega⟩
  · have hp := sets_bd d h1 h4 _ (par_lvl d h1 h4 _ (h.mem (List.mem_of_mem_tail he)) _ (h.par e he)).2
    exact ⟨⟨by omega, by omega⟩, ⟨by omega, by omega⟩⟩
theorem OE.form2 {B : Nat} {w : World} {v : Value} {es : List Ed} (h : OE B w v es) (hk : ∀ e ∈ es, inK .i64 e.s ∧ inK .i64 e.p) : ∃ A c, v = .slice A es.length c ∧ Edgs w A es.length es ∧ es.length ≤ c := by
  obtain ⟨A, c, hv, hE⟩ := h.form hk
  obtain ⟨P, c', hv', h1, -, -⟩ := own_form h
  rw [hv] at hv'
  injection hv' with _ _ e3
  exact ⟨A, c, hv, hE, by rw [e3]; exact h1⟩
theorem kn10_plan : planM [3] 5 = [⟨1, -1, false⟩, ⟨0, 1, true⟩] := by kernel_rfl
theorem kn10_right : planB [⟨1, -1, false⟩, ⟨0, 1, true⟩] 1 = true := by decide +kernel
theorem kn10_check : checkB [3] ((0 : Nat) : Int) = true := by decide +kernel
set_option maxRecDepth 100000 in
set_option maxHeartbeats 4000000 in
theorem known10_any (w : World) (hT : Tab w) (hw1 : 1 < w.heap.size) : Calls Tryd.prog 9 #[] w fun e w' => e = .returned (.bool true) ∧ Below w.heap.size w w' := by
  have hb0 : Below w.heap.size w (w.alloc (.cells #[.int .i64 3] 3)) := below_box w _
  have hn : Nums .i64 (w.alloc (.cells #[.int .i64 3] 3)) (some ⟨w.heap.size, 0, none⟩) 1 [3] := by
    have := (show Arr .i64 3 (w.alloc (.cells #[.int .i64 3] 3)) w.heap.size [3] from heap_alloc_new w _).nums (by intro x hx; simp at hx; subst hx; constructor <;> omega)
    exact this
  have hfq : FQ (w.alloc (.cells #[.int .i64 3] 3)) (some ⟨w.heap.size, 0, none⟩) 1 0 [3] 5 := ⟨hn, by omega, by omega, by omega, by intro x hx; simp at hx; subst hx; omega, by omega, by omega, hT.below hb0 hw1, by simp; omega⟩
  have hp := plan_any (some ⟨w.heap.size, 0, none⟩) 1 1 0 [3] 5 _ hfq kn10_check
  rw [kn10_plan] at hp
  have HP := Lib.hid hp
  have HB0 := Lib.hid hb0
  have HT := Lib.hid hT
  clear hb0 hn hfq hp hT
  go_enter Tryd.func9, Tryd.ntmps9
  go_wp2_with fail
  refine HP.out.mono ?_
  rintro e w1 ⟨v, rfl, ho, hb1⟩
  have hbw := HB0.out.trans (hb1.mono HB0.out.size)
  obtain ⟨A, c, rfl, hE, hc2⟩ := OE.form2 ho (by intro e he; simp at he; rcases he with rfl | rfl <;> (constructor <;> constructor <;> simp))
  have hr := right_any A 2 c 1 _ w1 hE hc2 (by omega) (by omega) (by omega) (HT.out.below hbw hw1) (by have := hbw.size; omega)
  rw [kn10_right] at hr
  have HR := Lib.hid hr
  obtain ⟨g, o, rfl, hcs⟩ := hE.2.2 (by simp)
  obtain ⟨x0, x1, x2⟩ := hcs 0 _ rfl
  obtain ⟨y0, y1, y2⟩ := hcs 1 _ rfl
  rw [Nat.zero_mul, Nat.add_zero] at x0 x1 x2
  rw [Nat.one_mul] at y0 y1 y2
  have HBW := Lib.hid hbw
  clear hb1 hbw hE hcs ho hr
  simp only [List.length_cons, List.length_nil, Nat.zero_add, Nat.reduceAdd]
  simp only [] at x0 x1 x2 y0 y1 y2
  go_wp2_with fail
  refine HR.out.mono ?_
  rintro e w2 ⟨rfl, hb2⟩
  have HB2 := Lib.hid (HBW.out.trans (hb2.mono HBW.out.size))
  clear hb2 x0 x1 x2 y0 y1 y2
  go_wp2
  go_ret
  exact ⟨rfl, HB2.out⟩
end Go.Proofs.YtbmdiiifhccebaaDoor
