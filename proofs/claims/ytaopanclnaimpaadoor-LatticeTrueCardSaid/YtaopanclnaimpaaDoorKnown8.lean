/- What each law of sets calls first; Parents as a list of the call's own. -/
import Derived.Test.YtaopanclnaimpaaDoorSetsN
namespace Go.Proofs.YtaopanclnaimpaaDoor
open Go.RowKit Go.Shelf
attribute [local go_sem] Oper.semAt_some
theorem parL_in (k : Int) (d : Nat) (h1 : 0 ≤ k) (h2 : k ≤ 15) : ∀ x ∈ parL k d, 0 ≤ x ∧ x ≤ 15 := by
  intro x hx
  unfold parL at hx
  simp only [List.mem_map] at hx
  obtain ⟨y, hy, rfl⟩ := hx
  exact withI_in k y h1 h2 (dimsL_in _ y hy)
/-- Parents: a row of numbers, to be read. -/
theorem par_nums (k : Int) (d : Nat) (w : World) (h1 : 0 ≤ k) (h2 : k ≤ fullB d) (hd1 : 1 ≤ d) (hd : d ≤ 4) (hT : Tab w) (hw1 : 1 < w.heap.size) :
    Calls Tryd.prog 20 #[.int .i64 k, .int .i64 d] w fun e w' => ∃ P c, e = .returned (.slice P (parL k d).length c) ∧ Nums .i64 w' P (parL k d).length (parL k d) ∧ (0 < (parL k d).length → ∃ g, P = some ⟨g, 0, none⟩) ∧ Below w.heap.size w w' :=
  (par_any k d w h1 h2 hd1 hd hT hw1).mono fun e w' ⟨v, he, ho, hb⟩ => by
    have hf := fullB_15 d hd
    have hO : OI w.heap.size w' v (parL k d) := ⟨ho, fun x hx => by have := parL_in k d h1 (by omega) x hx; exact ⟨by omega, by omega⟩⟩
    obtain ⟨P, c, hv, -, -, hn, -⟩ := hO.form
    obtain ⟨P', c', hv', -, -, h3⟩ := own_form ho
    rw [hv] at hv'
    injection hv' with e1 _ _
    exact ⟨P, c, by rw [he, hv], hn, fun h => by obtain ⟨g, e, _⟩ := h3 h; exact ⟨g, e1.trans e⟩, hb⟩
theorem known8_own (W : World) (g : Nat) (h : Nums .i64 W (some ⟨g, 0, none⟩) 2 [1, 0]) : W.cell? ⟨g, 0, none⟩ = some (.int .i64 1) ∧ W.cell? ⟨g, 1, none⟩ = some (.int .i64 0) := by
  obtain ⟨ad, e, hc⟩ := h.2.2 (by omega)
  injection e with e
  subst e
  have a := hc 0 1 rfl
  have b := hc 1 0 rfl
  rw [add0] at a b
  exact ⟨a, b⟩
set_option maxHeartbeats 2000000 in
theorem known8_any (w : World) (hT : Tab w) (hw1 : 1 < w.heap.size) :
    Calls Tryd.prog 12 #[] w fun e w' => e = .returned (.bool true) ∧ Below w.heap.size w w' := by
  have HT := Lib.hid hT
  have HS := Lib.hid (sets_any 1 w (by omega) (by omega) hT hw1)
  clear hT
  go_enter Tryd.func12, Tryd.ntmps12
  go_wp2_with fail
  refine HS.out.mono ?_
  rintro e w1 ⟨g, rfl, hn, hb1, hg⟩
  obtain ⟨c0, c1⟩ := known8_own w1 g hn
  have HB1 := Lib.hid hb1
  have C0 := Lib.hid c0
  have C1 := Lib.hid c1
  have hz1 := hb1.size
  clear hb1 hn c0 c1
  go_wp2_with fail
  refine (par_nums 1 2 w1 (by omega) (by decide) (by omega) (by omega) (HT.out.below HB1.out hw1) (by omega)).mono ?_
  rintro e w2 ⟨P, c, rfl, hn, hg2, hb2⟩
  rw [show parL 1 2 = [3] by decide +kernel] at hn hg2 ⊢
  obtain ⟨g2, rfl⟩ := hg2 (by simp)
  obtain ⟨ad, ead, hc⟩ := hn.2.2 (by simp)
  injection ead with ead
  subst ead
  have p0 := hc 0 3 rfl
  rw [add0] at p0
  have k2 := Keeps.of_below hb2
  have C0' := Lib.hid (k2 _ _ C0.out)
  have C1' := Lib.hid (k2 _ _ C1.out)
  have P0 := Lib.hid p0
  have HB2 := Lib.hid (HB1.out.trans (hb2.mono hz1))
  have hz2 := hb2.size
  clear hn hc p0 k2 hb2 C0 C1 hg2
  have c0 := C0'.out
  have c1 := C1'.out
  simp only [List.length_cons, List.length_nil]
  have hl := level_any 5 w2 (by omega) (by omega) (HT.out.below HB2.out hw1) (by omega)
  rw [show lvl 5 = 2 by decide +kernel] at hl
  have HL := Lib.hid hl
  clear hl
  go_wp2_with fail
  refine HL.out.mono ?_
  rintro e w3 ⟨rfl, hb3, -⟩
  have p0 := (Keeps.of_below hb3) _ _ P0.out
  have HB3 := Lib.hid (HB2.out.trans (hb3.mono HB2.out.size))
  clear hb3 c0 c1
  go_wp2
  go_ret
  exact ⟨rfl, HB3.out⟩
end Go.Proofs.YtaopanclnaimpaaDoor
