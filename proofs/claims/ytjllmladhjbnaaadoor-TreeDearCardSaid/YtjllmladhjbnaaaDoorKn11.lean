/- Edges of the call's own, to be read; the bounds of plans that are right. -/
import Derived.Shelf.Abstract
import Derived.Test.YtjllmladhjbnaaaDoorSoA
import Derived.Test.YtjllmladhjbnaaaDoorInts
import Derived.Test.YtjllmladhjbnaaaDoorTree
namespace Go.Proofs.YtjllmladhjbnaaaDoor
open Go.RowKit Go.Shelf
theorem right_in {d : Nat} {es : List Ed} (h1 : 1 ≤ d) (h4 : d ≤ 4) (h : RightP d es) : ∀ e ∈ es, inK .i64 e.s ∧ inK .i64 e.p := by
  have hf := fullB_15 d h4
  intro e he
  have hs := sets_bd d h1 h4 _ (h.mem he)
  rw [h.cons] at he
  rcases List.mem_cons.1 he with rfl | he
  · exact ⟨⟨by omega, by omega⟩, by show inK .i64 (-1); constructor <;> omega⟩
  · have hp := sets_bd d h1 h4 _ (par_lvl d h1 h4 _ (h.mem (List.mem_of_mem_tail he)) _ (h.par e he)).2
    exact ⟨⟨by omega, by omega⟩, ⟨by omega, by omega⟩⟩
theorem OE.form2 {B : Nat} {w : World} {v : Value} {es : List Ed} (h : OE B w v es) (hk : ∀ e ∈ es, inK .i64 e.s ∧ inK .i64 e.p) : ∃ A c, v = .slice A es.length c ∧ Edgs w A es.length es ∧ es.length ≤ c := by
  obtain ⟨A, c, hv, hE⟩ := h.form hk
  obtain ⟨P, c', hv', h1, -, -⟩ := own_form h
  rw [hv] at hv'
  injection hv' with _ _ e3
  exact ⟨A, c, hv, hE, by rw [e3]; exact h1⟩
end Go.Proofs.YtjllmladhjbnaaaDoor
/- The laws' within. -/
namespace Go.Proofs.YtjllmladhjbnaaaDoor
open Go.RowKit Go.Shelf
attribute [local go_sem] Oper.semAt_some
set_option maxHeartbeats 400000 in
theorem lwithin11 (a n : Int) (w : World) (ha : inK .i64 a) (hn : 1 ≤ n) (hn2 : n ≤ 4611686018427387904) :
    Calls Tryd.prog 11 #[.int .i64 a, .int .i64 n] w fun e w' => e = .returned (.int .i64 (a % n)) ∧ w = w' := by
  obtain ⟨ha1, ha2⟩ := ha
  by_cases h : 0 ≤ a
  · have h1 := Int.emod_nonneg a (show n ≠ 0 by omega)
    go_enter Tryd.func11, Tryd.ntmps11
    go_wp2
    go_ret
    exact ⟨rfl, rfl⟩
  · have h1 := Int.emod_nonneg a (show n ≠ 0 by omega)
    have h2 := Int.emod_lt_of_pos a (show 0 < n by omega)
    have h3 := Int.tmod_eq_emod (a := a) (b := n)
    have h4 : a.tmod n = a % n ∨ a.tmod n = a % n - n := by
      rw [h3]
      split
      · simp
      · right; omega
    by_cases h5 : a.tmod n < 0
    · have e : a.tmod n + n = a % n := by omega
      have h6 : -n ≤ a.tmod n := by omega
      have E := Lib.hid e
      clear e h3 h4 h1 h2
      go_enter Tryd.func11, Tryd.ntmps11
      go_wp2
      go_ret
      exact ⟨ret_int E.out, rfl⟩
    · have e : a.tmod n = a % n := by omega
      have E := Lib.hid e
      clear e h3 h4 h1 h2
      go_enter Tryd.func11, Tryd.ntmps11
      go_wp2
      go_ret
      exact ⟨ret_int E.out, rfl⟩

end Go.Proofs.YtjllmladhjbnaaaDoor
/- What each law of plans by hashing calls first. -/
namespace Go.Proofs.YtjllmladhjbnaaaDoor
open Go.RowKit Go.Shelf
attribute [local go_sem] Oper.semAt_some
theorem kn11_plan : treeM [3] 5 = [⟨1, -1, false⟩, ⟨0, 1, false⟩] := by kernel_rfl
theorem kn11_check : checkB [3] ((0 : Nat) : Int) = true := by decide +kernel
set_option maxRecDepth 100000 in
set_option maxHeartbeats 4000000 in
theorem known11_any (w : World) (hT : Tab w) (hw1 : 1 < w.heap.size) : Calls Tryd.prog 9 #[] w fun e w' => e = .returned (.bool true) ∧ Below w.heap.size w w' := by
  have hb0 : Below w.heap.size w (w.alloc (.cells #[.int .i64 3] 3)) := below_box w _
  have hn : Nums .i64 (w.alloc (.cells #[.int .i64 3] 3)) (some ⟨w.heap.size, 0, none⟩) 1 [3] := by
    have := (show Arr .i64 3 (w.alloc (.cells #[.int .i64 3] 3)) w.heap.size [3] from heap_alloc_new w _).nums (by intro x hx; simp at hx; subst hx; constructor <;> omega)
    exact this
  have hfq : FQ (w.alloc (.cells #[.int .i64 3] 3)) (some ⟨w.heap.size, 0, none⟩) 1 0 [3] 5 := ⟨hn, by omega, by omega, by omega, by intro x hx; simp at hx; subst hx; omega, by omega, by omega, hT.below hb0 hw1, by simp; omega⟩
  have hp := tplan_any (some ⟨w.heap.size, 0, none⟩) 1 1 0 [3] 5 _ hfq kn11_check
  rw [kn11_plan] at hp
  have HP := Lib.hid hp
  have HB0 := Lib.hid hb0
  clear hb0 hn hfq hp hT
  go_enter Tryd.func9, Tryd.ntmps9
  go_wp2_with fail
  refine HP.out.mono ?_
  rintro e w1 ⟨v, rfl, ho, hb1⟩
  have hbw := HB0.out.trans (hb1.mono HB0.out.size)
  obtain ⟨A, c, rfl, hE, hc2⟩ := OE.form2 ho (by intro e he; simp at he; rcases he with rfl | rfl <;> (constructor <;> constructor <;> simp))
  obtain ⟨g, o, rfl, hcs⟩ := hE.2.2 (by simp)
  obtain ⟨x0, x1, x2⟩ := hcs 0 _ rfl
  obtain ⟨y0, y1, y2⟩ := hcs 1 _ rfl
  rw [Nat.zero_mul, Nat.add_zero] at x0 x1 x2
  rw [Nat.one_mul] at y0 y1 y2
  have HBW := Lib.hid hbw
  clear hb1 hbw hE hcs ho
  simp only [List.length_cons, List.length_nil, Nat.zero_add, Nat.reduceAdd]
  simp only [] at x0 x1 x2 y0 y1 y2
  go_wp2
  go_ret
  exact ⟨rfl, HBW.out⟩
end Go.Proofs.YtjllmladhjbnaaaDoor
