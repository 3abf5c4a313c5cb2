/- The reference's plan by sorting. -/
import Derived.Test.YtjllmladhjbnaaaGreatDoorRbel
namespace Go.Proofs.YtjllmladhjbnaaaGreatDoor
open Go.RowKit Go.Shelf
attribute [local go_sem] Oper.semAt_some
/-- Edges that a call handed back are appended. -/
theorem oe_appendR {B B2 : Nat} {w : World} {v v2 : Value} {es es2 : List Ed} (h : OE B w v es) (h2 : OE B2 w v2 es2) (hne : es2 ≠ []) (hn : es.length + es2.length ≤ 1000) (hB : B ≤ w.heap.size) :
    ∃ v' w', (Builtin.append_ #[30, 30] 30 #[v, v2]).run Tryz.prog w = .ok v' w' ∧ OE B w' v' (es ++ es2) ∧ Below B w w' := by
  obtain ⟨i0, hi, hz0, hz1, hz2⟩ := info_parts infoE
  obtain ⟨P, c, hv, -, -, h3⟩ := own_form h2
  obtain ⟨g, e1, _, hc⟩ := h3 (List.length_pos_iff.2 hne)
  subst e1
  subst hv
  obtain ⟨v', w', hrun, ho, hgr, _, _⟩ := run_append_own_at (P := Tryz.prog) w B 30 30 42 i0 _ 3 24 Tryz.underlying30 hi hz0 hz1 hz2 rfl (by omega) v es.length (eCs es) h
    ⟨g, 0, none⟩ es2.length c (eCs es2) (by rw [eCs_len]) (fun j x hx => by rw [add0]; exact hc j x hx) (eCs_one es2) (by simp [maxLen]; omega) (by omega) hB
  refine ⟨v', w', hrun, ?_, (Below.refl B w).grown hgr hB (fun k e => (h.lt k e).1)⟩
  unfold OE
  rw [List.length_append, eCs_app]
  exact ho
def rplTo (cs : List Int) (n : Int) (k : Nat) : List Ed := topE cs.length :: (List.range k).flatMap fun t => edsM cs n (cs.length - 1 - t)
theorem rplTo_succ (cs : List Int) (n : Int) (k : Nat) : rplTo cs n (k + 1) = rplTo cs n k ++ edsM cs n (cs.length - 1 - k) := by
  simp [rplTo, List.range_succ]
theorem rplTo_len {cs : List Int} {n : Int} (g : Good cs n) : ∀ k, k ≤ cs.length → (rplTo cs n k).length ≤ 1 + 6 * k
  | 0, _ => by simp [rplTo]
  | k + 1, h => by
    have := rplTo_len g k (by omega)
    have hd := g.d1
    have h2 := edsM_len g (l := cs.length - 1 - k) (by omega)
    have h3 := (lev_len _ g.d1 g.d4 (cs.length - 1 - k) (by omega)).2.1
    rw [rplTo_succ, List.length_append]
    omega
set_option maxRecDepth 100000 in
set_option maxHeartbeats 8000000 in
theorem rPlan_any (A : Option Addr) (q c mm : Nat) (cs : List Int) (n : Int) (w : World) (h : FQ w A q mm cs n) :
    Calls Tryz.prog 9 #[.agg #[.slice A q c, .int .i64 mm], .int .i64 n] w fun e w' => ∃ v, e = .returned v ∧ OE w.heap.size w' v (planM cs n) ∧ Below w.heap.size w w' := by
  have hcl := h.len
  have q1 := h.q1
  have q4 := h.q4
  have hg := h.good
  obtain ⟨w0, hw0⟩ : ∃ w0, w0 = w.alloc (.cells #[.slice A q c, .int .i64 mm] 25) := ⟨_, rfl⟩
  have hb0 : Below w.heap.size w w0 := by rw [hw0]; exact below_box w _
  have hx0 : Bx w0 w.heap.size #[.slice A q c, .int .i64 mm] := by rw [hw0]; exact Bx.new _ _ _
  obtain ⟨w1, hw1⟩ : ∃ w1, w1 = w0.alloc (.cells #[.int .i64 (fullB q), .int .i64 (-1), .bool false] 42) := ⟨_, rfl⟩
  have hlit := OE.lit w0 w0.heap.size (topE q) (Nat.le_refl _)
  have hlit2 : OE w0.heap.size w1 (.slice (some ⟨w0.heap.size, 0, none⟩) 1 1) (rplTo cs n 0) := by
    rw [hw1]
    have : rplTo cs n 0 = [topE q] := by rw [← hcl]; rfl
    rw [this]
    exact hlit
  have hb1 : Below w0.heap.size w0 w1 := by rw [hw1]; exact below_box w0 _
  have hsh : IntKind.i64.wrap (IntKind.i64.wrap (2 ^ min (IntKind.u64.wrap (q : Int)).toNat 64) - 1) = fullB q := by
    rcases (by omega : q = 1 ∨ q = 2 ∨ q = 3 ∨ q = 4) with rfl | rfl | rfl | rfl <;> decide +kernel
  have hsh2 : wrap64 (wrap64 (2 ^ q) - 1) = fullB q := by
    rcases (by omega : q = 1 ∨ q = 2 ∨ q = 3 ∨ q = 4) with rfl | rfl | rfl | rfl <;> decide +kernel
  have HF := Lib.hid h
  have HG := Lib.hid hg
  have HB0 := Lib.hid hb0
  have HX0 := Lib.hid hx0
  have HW0 := Lib.hid hw0
  have HW1 := Lib.hid hw1
  have hzz : w0.heap.size = w.heap.size + 1 := by rw [hw0]; simp
  have hlit3 : OE w0.heap.size w1 (.slice (some ⟨w.heap.size + 1, 0, none⟩) 1 1) (rplTo cs n 0) := by rw [← hzz]; exact hlit2
  have HLT := Lib.hid hlit3
  have HB1 := Lib.hid hb1
  have HB01 := Lib.hid (hb0.trans (hb1.mono hb0.size))
  have HX1 := Lib.hid (hx0.keep (Keeps.of_below hb1))
  have x0 : w0.cell? ⟨w.heap.size, 0, none⟩ = some (.slice A q c) := hx0 0 _ rfl
  have hz0 := hb0.size
  clear h hg hb0 hx0 hw0 hw1 hlit hlit2 hlit3 hb1 hzz
  go_enter Tryz.func9, Tryz.ntmps9
  go_wp2_with fail
  rw [← HW0.out]
  go_wp2_with fail
  try rw [hsh2]
  try rw [hsh]
  rw [← HW1.out]
  clear x0
  go_loopw [6, 7] (fun v l wr => ∃ k : Nat, l = .int .i64 ((q : Int) - 1 - (k : Int)) ∧ k ≤ q ∧ OE w0.heap.size wr v (rplTo cs n k) ∧ Below w0.heap.size w0 wr) (fun _ l _ => (intOf l + 1).toNat)
  case atStart => exact ⟨0, by simp, Nat.zero_le _, HLT.out, HB1.out⟩
  case round =>
    obtain ⟨k, rfl, hk, hoe, hb⟩ := hrel
    rename World => wr
    have HOE := Lib.hid hoe
    have HB := Lib.hid hb
    have hz := hb.size
    clear hoe hb
    by_cases hkq : k < q
    · obtain ⟨l, hl⟩ : ∃ l : Nat, l = q - 1 - k := ⟨_, rfl⟩
      have hlz : (q : Int) - 1 - (k : Int) = (l : Int) := by omega
      have hlq : l < q := by omega
      have kw := Keeps.of_below HB.out
      have hxr := HX0.out.keep kw
      have v0 : wr.cell? ⟨w.heap.size, 0, none⟩ = some (.slice A q c) := hxr 0 _ rfl
      have v1 : wr.cell? ⟨w.heap.size, 1, none⟩ = some (.int .i64 mm) := hxr 1 _ rfl
      have hbw : Below w.heap.size w wr := HB0.out.trans (HB.out.mono hz0)
      have HBE := Lib.hid (rBelow_any A q c mm cs n l wr (HF.out.below hbw (Nat.le_refl _)) hlq)
      have hs := rplTo_succ cs n k
      rw [hcl, ← hl] at hs
      have HS := Lib.hid hs
      have hpl := rplTo_len HG.out k (by omega)
      have hel := edsM_len HG.out (l := l) (by omega)
      have hll := lev_len q q1 q4 l hlq
      rw [hcl] at hel
      have hne : edsM cs n l ≠ [] := fun e => by rw [e] at hel; simp at hel; omega
      have hel6 : (edsM cs n l).length ≤ 6 := by omega
      have HNE := Lib.hid hne
      have l0 : (0 : Int) ≤ (l : Int) := by omega
      rw [hlz]
      have HLZ := Lib.hid hlz
      have HKL := Lib.hid hl
      clear hl hxr hs hel hll hne hlz kw hbw
      go_wp2_with fail
      refine HBE.out.mono ?_
      rintro e w6 ⟨v6, rfl, hoe6, hb6⟩
      obtain ⟨v', w7, hrun, hoe7, hb7⟩ := oe_appendR (HOE.out.below hb6) hoe6 HNE.out (by omega) (Nat.le_trans hz hb6.size)
      rw [← HS.out] at hoe7
      have HB7 := Lib.hid ((HB.out.trans (hb6.mono hz)).trans hb7)
      have HO7 := Lib.hid hoe7
      have Hrun := Lib.hid hrun
      clear hoe6 hb6 hrun hoe7 hb7 v0 v1
      go_wp2_with (at_builtin; have _t := Hrun; refine wpList_append_eq rfl (.tmp 23) (.tmp 27) 30 rfl _ _ _ _ rfl rfl Hrun.out ?_; clear _t Hrun)
      go_roundw
      case rel =>
        have := HLZ.out
        have e : (l : Int) - 1 = (q : Int) - 1 - ((k + 1 : Nat) : Int) := by push_cast; omega
        exact ⟨k + 1, by rw [e], by omega, HO7.out, HB7.out⟩
      case measure => simp [intOf]
    · obtain rfl : k = q := by omega
      have hneg : ¬ (0 : Int) ≤ (k : Int) - 1 - (k : Int) := by omega
      have hnd : decide ((0 : Int) ≤ (k : Int) - 1 - (k : Int)) = false := by simp; omega
      have ho := HOE.out
      rw [← hcl] at ho
      have HO := Lib.hid (ho.mono hz0)
      have HBf := Lib.hid (HB0.out.trans (HB.out.mono hz0))
      clear ho
      go_wp2
      go_ret
      exact ⟨_, rfl, HO.out, HBf.out⟩
end Go.Proofs.YtjllmladhjbnaaaGreatDoor
