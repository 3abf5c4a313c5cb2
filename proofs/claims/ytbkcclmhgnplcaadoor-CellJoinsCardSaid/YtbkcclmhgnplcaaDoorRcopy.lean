/- The reference's Copy. -/
import Derived.Test.YtbkcclmhgnplcaaDoorAnyLits
import Derived.Test.YtbkcclmhgnplcaaDoorCel2
namespace Go.Proofs.YtbkcclmhgnplcaaDoor
open Go.RowKit Go.Shelf
/-- An empty literal of the call's own. -/
def LitV (B : Nat) (w : World) (v : Value) : Prop := w.ownsRow B 3 1 v 0 [] ∧ ∃ g, v = .slice (some ⟨g, 0, none⟩) 0 0
theorem LitV.below {B : Nat} {w w' : World} {v : Value} (h : LitV B w v) (hb : Below w.heap.size w w') : LitV B w' v := ⟨own_below h.1 hb (Nat.le_refl _), h.2⟩
theorem LitV.new {B : Nat} {w : World} (hB : B ≤ w.heap.size) : LitV B (w.alloc (.cells #[] 3)) (.slice (some ⟨w.heap.size, 0, none⟩) 0 0) :=
  ⟨own_mono (World.ownsRow_made w #[] 0 (Nat.le_refl _) (by simp [maxLen]) (by simp)) hB, _, rfl⟩
theorem lit_ap {B : Nat} {W : World} {v s : Value} {xs : List Int} (h : LitV B W v) (hs : RI W s xs) (hl : xs.length ≤ 1000000) (hB : B ≤ W.heap.size) :
    ∃ v' W', (Builtin.append_ #[22, 22] 22 #[v, s]).run Tryd.prog W = .ok v' W' ∧ OI B W' v' xs ∧ Below W.heap.size W W' := by
  obtain ⟨i0, hi, hz0, hz1, hz2⟩ := info_parts infoI
  obtain ⟨P, c, rfl, hn, h1, h2, h3⟩ := hs
  obtain ⟨ho, g, rfl⟩ := h
  rcases Nat.eq_zero_or_pos xs.length with hz | hz
  · have he : xs = [] := List.length_eq_zero_iff.1 hz
    subst he
    refine ⟨_, W, ?_, ⟨by simpa [ints] using ho, fun x h => by cases h⟩, Below.refl _ _⟩
    cases P with
    | none =>
      obtain rfl := h3 rfl
      exact run_append_nothing W 22 22 22 3 i0 Tryd.underlying22 hi (some ⟨g, 0, none⟩) 0 0 (Nat.le_refl _) (.slice none 0 0) (Src.ofNil W Tryd.underlying22 0)
    | some ad => exact run_append_nothing W 22 22 22 3 i0 Tryd.underlying22 hi (some ⟨g, 0, none⟩) 0 0 (Nat.le_refl _) (.slice (some ad) 0 c) (Src.ofSlice _ Tryd.underlying22 ad 0 c [] (by simp) (fun j u h => by simp at h) (fun u h => by cases h))
  · obtain ⟨ad, rfl, _⟩ := hn.2.2 hz
    obtain ⟨v', W', hrun, ho', hgr⟩ := run_append_arg_grows (P := Tryd.prog) W 22 22 3 i0 _ 1 8 Tryd.underlying22 hi hz0 hz1 hz2 rfl (by omega) ⟨g, 0, none⟩ 0 0 [] (by simp) (fun j u h => by simp at h) ad xs.length c (ints xs) (by simp [ints_len]) (hn.cells_i rfl) (by omega) (by simp only [maxLen]; omega) (by omega)
    rw [Nat.zero_add, List.nil_append] at ho'
    exact ⟨v', W', hrun, ⟨own_mono ho' hB, hn.2.1⟩, (Below.refl _ W).grown hgr (Nat.le_refl _) (fun k e => by cases e)⟩
def tbL (b k : Nat) : Bool := b.testBit k
def cpL (k : Nat) : Nat := match k with | 0 => 0 | 1 => 6 | 2 => 10 | _ => 14
def cpA (k : Nat) : Nat := match k with | 0 => 3 | 1 => 9 | 2 => 13 | _ => 17
def cpS (m b : Nat) : Array Bool := #[tbL b 0, true, true, decide (1 ≤ m), true, true, tbL b 1, true, true, decide (2 ≤ m), tbL b 2, true, true, decide (3 ≤ m), tbL b 3, true, true, decide (4 ≤ m), false, false]
set_option maxRecDepth 100000 in
set_option maxHeartbeats 4000000 in
theorem rCopy_any (k s n m : Value) (x : Cel) (w : World) (hx : CR w k s n m x) (h1 : x.key.length ≤ 1000000) (h2 : x.sum.length ≤ 1000000) (h3 : x.mn.length ≤ 1000000) (h4 : x.mx.length ≤ 1000000) :
    Calls Tryd.prog 46 #[.agg #[k, .int .i64 x.cnt, s, n, m]] w fun e w' => ∃ k' s' n' m', e = .returned (.agg #[k', .int .i64 x.cnt, s', n', m']) ∧ CO w.heap.size w' k' s' n' m' x ∧ Below w.heap.size w w' := by
  obtain ⟨⟨Pk, ck, rfl, hk⟩, ⟨Ps, cs, rfl, hs⟩, ⟨Pn, cn, rfl, hn⟩, ⟨Pm, cm, rfl, hm⟩⟩ := hx
  have Rk : Hid (RI w (.slice Pk x.key.length ck) x.key) := Lib.hid ⟨_, _, rfl, hk⟩
  have Rs : Hid (RI w (.slice Ps x.sum.length cs) x.sum) := Lib.hid ⟨_, _, rfl, hs⟩
  have Rn : Hid (RI w (.slice Pn x.mn.length cn) x.mn) := Lib.hid ⟨_, _, rfl, hn⟩
  have Rm : Hid (RI w (.slice Pm x.mx.length cm) x.mx) := Lib.hid ⟨_, _, rfl, hm⟩
  clear hk hs hn hm
  have L1 := Lib.hid h1
  have L2 := Lib.hid h2
  have L3 := Lib.hid h3
  have L4 := Lib.hid h4
  clear h1 h2 h3 h4
  generalize hlk : x.key.length = lk at Rk ⊢
  generalize hls : x.sum.length = ls at Rs ⊢
  generalize hln : x.mn.length = ln at Rn ⊢
  generalize hlm : x.mx.length = lm at Rm ⊢
  generalize hcnt : x.cnt = cnt at *
  clear hlk hls hln hlm hcnt
  have o1 : Own 33 ((w.alloc (.cells #[.slice Pk lk ck, .int .i64 cnt, .slice Ps ls cs, .slice Pn ln cn, .slice Pm lm cm] 33)).alloc (.cells #[.slice none 0 0, .int .i64 0, .slice none 0 0, .slice none 0 0, .slice none 0 0] 33)) w.heap.size [.slice Pk lk ck, .int .i64 cnt, .slice Ps ls cs, .slice Pn ln cn, .slice Pm lm cm] := (show Own 33 (w.alloc (.cells #[.slice Pk lk ck, .int .i64 cnt, .slice Ps ls cs, .slice Pn ln cn, .slice Pm lm cm] 33)) w.heap.size [.slice Pk lk ck, .int .i64 cnt, .slice Ps ls cs, .slice Pn ln cn, .slice Pm lm cm] from heap_alloc_new w _).alloc _
  have o2 : Own 33 ((w.alloc (.cells #[.slice Pk lk ck, .int .i64 cnt, .slice Ps ls cs, .slice Pn ln cn, .slice Pm lm cm] 33)).alloc (.cells #[.slice none 0 0, .int .i64 0, .slice none 0 0, .slice none 0 0, .slice none 0 0] 33)) (w.heap.size + 1) [.slice none 0 0, .int .i64 0, .slice none 0 0, .slice none 0 0, .slice none 0 0] := by
    have := heap_alloc_new (w.alloc (.cells #[.slice Pk lk ck, .int .i64 cnt, .slice Ps ls cs, .slice Pn ln cn, .slice Pm lm cm] 33)) (.cells #[.slice none 0 0, .int .i64 0, .slice none 0 0, .slice none 0 0, .slice none 0 0] 33)
    rw [show (w.alloc (.cells #[.slice Pk lk ck, .int .i64 cnt, .slice Ps ls cs, .slice Pn ln cn, .slice Pm lm cm] 33)).heap.size = w.heap.size + 1 from by simp] at this
    exact this
  have hb : Below w.heap.size w ((w.alloc (.cells #[.slice Pk lk ck, .int .i64 cnt, .slice Ps ls cs, .slice Pn ln cn, .slice Pm lm cm] 33)).alloc (.cells #[.slice none 0 0, .int .i64 0, .slice none 0 0, .slice none 0 0, .slice none 0 0] 33)) := ((Below.refl _ w).alloc (Nat.le_refl _) _).alloc (by simp) _
  have hz : ((w.alloc (.cells #[.slice Pk lk ck, .int .i64 cnt, .slice Ps ls cs, .slice Pn ln cn, .slice Pm lm cm] 33)).alloc (.cells #[.slice none 0 0, .int .i64 0, .slice none 0 0, .slice none 0 0, .slice none 0 0] 33)).heap.size = w.heap.size + 1 + 1 := by simp
  have O1 := Lib.hid o1
  have O2 := Lib.hid o2
  have Hb := Lib.hid hb
  have Hz := Lib.hid hz
  clear o1 o2 hb hz
  go_enter Tryd.func46, Tryd.ntmps46
  go_upto_region 1 with (fail)
  generalize (w.alloc (.cells #[.slice Pk lk ck, .int .i64 cnt, .slice Ps ls cs, .slice Pn ln cn, .slice Pm lm cm] 33)).alloc (.cells #[.slice none 0 0, .int .i64 0, .slice none 0 0, .slice none 0 0, .slice none 0 0] 33) = W1 at O1 O2 Hb Hz ⊢
  obtain ⟨b, eb⟩ : ∃ b, b = w.heap.size := ⟨_, rfl⟩
  rw [← eb] at O1 O2 ⊢
  have Eb := Lib.hid eb
  clear eb
  have bx0 := O1.out.bx
  refine wp_region_held_drew (S := fun W => Bx W b (.slice Pk lk ck) (.int .i64 cnt) (.slice Ps ls cs) (.slice Pn ln cn) (.slice Pm lm cm)) (by kernel_rfl) (show Bx W1.drew b _ _ _ _ _ from bx0) (fun hHeld => ?_)
  refine wpAnyH_take (i := 1) (v := ?va1) rfl (by kernel_rfl) (by kernel_rfl) (by kernel_rfl) (fun _ _ _ h => h) (Or.inl ⟨by rfl, ?ya1⟩) hHeld ?ra1
  case ya1 => (intro W hW; obtain ⟨h0, h1, h2, h3, h4⟩ := hW; go_simp; first | done | with_reducible rfl)
  try simp only [List.getElem_toArray, List.getElem_cons_succ, List.getElem_cons_zero, Act.put, List.setIfInBounds_toArray, List.set_cons_zero, List.set_cons_succ]
  refine wpAnyH_take (i := 2) (v := ?va2) rfl (by kernel_rfl) (by kernel_rfl) (by kernel_rfl) (fun _ _ _ h => h) (Or.inl ⟨by rfl, ?ya2⟩) hHeld ?ra2
  case ya2 => (intro W hW; obtain ⟨h0, h1, h2, h3, h4⟩ := hW; go_simp; first | done | with_reducible rfl)
  try simp only [List.getElem_toArray, List.getElem_cons_succ, List.getElem_cons_zero, Act.put, List.setIfInBounds_toArray, List.set_cons_zero, List.set_cons_succ]
  refine wpAnyH_take (i := 4) (v := ?va4) rfl (by kernel_rfl) (by kernel_rfl) (by kernel_rfl) (fun _ _ _ h => h) (Or.inl ⟨by rfl, ?ya4⟩) hHeld ?ra4
  case ya4 => (intro W hW; obtain ⟨h0, h1, h2, h3, h4⟩ := hW; go_simp; first | done | with_reducible rfl)
  try simp only [List.getElem_toArray, List.getElem_cons_succ, List.getElem_cons_zero, Act.put, List.setIfInBounds_toArray, List.set_cons_zero, List.set_cons_succ]
  refine wpAnyH_take (i := 5) (v := ?va5) rfl (by kernel_rfl) (by kernel_rfl) (by kernel_rfl) (fun _ _ _ h => h) (Or.inl ⟨by rfl, ?ya5⟩) hHeld ?ra5
  case ya5 => (intro W hW; obtain ⟨h0, h1, h2, h3, h4⟩ := hW; go_simp; first | done | with_reducible rfl)
  try simp only [List.getElem_toArray, List.getElem_cons_succ, List.getElem_cons_zero, Act.put, List.setIfInBounds_toArray, List.set_cons_zero, List.set_cons_succ]
  refine wpAnyH_take (i := 7) (v := ?va7) rfl (by kernel_rfl) (by kernel_rfl) (by kernel_rfl) (fun _ _ _ h => h) (Or.inl ⟨by rfl, ?ya7⟩) hHeld ?ra7
  case ya7 => (intro W hW; obtain ⟨h0, h1, h2, h3, h4⟩ := hW; go_simp; first | done | with_reducible rfl)
  try simp only [List.getElem_toArray, List.getElem_cons_succ, List.getElem_cons_zero, Act.put, List.setIfInBounds_toArray, List.set_cons_zero, List.set_cons_succ]
  refine wpAnyH_take (i := 8) (v := ?va8) rfl (by kernel_rfl) (by kernel_rfl) (by kernel_rfl) (fun _ _ _ h => h) (Or.inl ⟨by rfl, ?ya8⟩) hHeld ?ra8
  case ya8 => (intro W hW; obtain ⟨h0, h1, h2, h3, h4⟩ := hW; go_simp; first | done | with_reducible rfl)
  try simp only [List.getElem_toArray, List.getElem_cons_succ, List.getElem_cons_zero, Act.put, List.setIfInBounds_toArray, List.set_cons_zero, List.set_cons_succ]
  refine wpAnyH_take (i := 11) (v := ?va11) rfl (by kernel_rfl) (by kernel_rfl) (by kernel_rfl) (fun _ _ _ h => h) (Or.inl ⟨by rfl, ?ya11⟩) hHeld ?ra11
  case ya11 => (intro W hW; obtain ⟨h0, h1, h2, h3, h4⟩ := hW; go_simp; first | done | with_reducible rfl)
  try simp only [List.getElem_toArray, List.getElem_cons_succ, List.getElem_cons_zero, Act.put, List.setIfInBounds_toArray, List.set_cons_zero, List.set_cons_succ]
  refine wpAnyH_take (i := 12) (v := ?va12) rfl (by kernel_rfl) (by kernel_rfl) (by kernel_rfl) (fun _ _ _ h => h) (Or.inl ⟨by rfl, ?ya12⟩) hHeld ?ra12
  case ya12 => (intro W hW; obtain ⟨h0, h1, h2, h3, h4⟩ := hW; go_simp; first | done | with_reducible rfl)
  try simp only [List.getElem_toArray, List.getElem_cons_succ, List.getElem_cons_zero, Act.put, List.setIfInBounds_toArray, List.set_cons_zero, List.set_cons_succ]
  refine wpAnyH_take (i := 15) (v := ?va15) rfl (by kernel_rfl) (by kernel_rfl) (by kernel_rfl) (fun _ _ _ h => h) (Or.inl ⟨by rfl, ?ya15⟩) hHeld ?ra15
  case ya15 => (intro W hW; obtain ⟨h0, h1, h2, h3, h4⟩ := hW; go_simp; first | done | with_reducible rfl)
  try simp only [List.getElem_toArray, List.getElem_cons_succ, List.getElem_cons_zero, Act.put, List.setIfInBounds_toArray, List.set_cons_zero, List.set_cons_succ]
  refine wpAnyH_take (i := 16) (v := ?va16) rfl (by kernel_rfl) (by kernel_rfl) (by kernel_rfl) (fun _ _ _ h => h) (Or.inl ⟨by rfl, ?ya16⟩) hHeld ?ra16
  case ya16 => (intro W hW; obtain ⟨h0, h1, h2, h3, h4⟩ := hW; go_simp; first | done | with_reducible rfl)
  try simp only [List.getElem_toArray, List.getElem_cons_succ, List.getElem_cons_zero, Act.put, List.setIfInBounds_toArray, List.set_cons_zero, List.set_cons_succ]
  clear hHeld
  refine any_lits0 4 2 cpL cpA cpS (fun X => { tmps := #[.agg #[.slice Pk lk ck, .int .i64 cnt, .slice Ps ls cs, .slice Pn ln cn, .slice Pm lm cm], .pointer (some ⟨b, 0, none⟩), .pointer (some ⟨b + 1, 0, none⟩), X 0, .pointer (some ⟨b, 0, none⟩), .slice Pk lk ck, X 4, .pointer (some ⟨b, 1, none⟩), .int .i64 cnt, X 1, .pointer (some ⟨b, 2, none⟩), .slice Ps ls cs, X 5, X 2, .pointer (some ⟨b, 3, none⟩), .slice Pn ln cn, X 6, X 3, .pointer (some ⟨b, 4, none⟩), .slice Pm lm cm, X 7, undef], defers := [] }) (fun _ W v => LitV w.heap.size W v) (fun k W v => OI w.heap.size W v (match k with | 0 => x.key | 1 => x.sum | 2 => x.mn | _ => x.mx)) (fun _ W => Below W1.heap.size W1 W) ?hS ?hchk (by decide) (by decide) (by decide) ?hL ?hA ?hend _ _ ?hfu ?hli (fun _ => undef) _ ?hG
  case hfu => rfl
  case hli => kernel_rfl
  case hchk => kernel_rfl
  case hG => exact below_drewN (Below.refl _ W1) 1
  case hS => exact fun _ W h => bx0.keep (Keeps.of_below h)
  case hL =>
    intro k hk m _ X W K hG hK
    have hB : w.heap.size ≤ W.heap.size := Nat.le_trans Hb.out.size hG.size
    have hb2 : Below W.heap.size W (W.alloc (.cells #[] 3)) := (Below.refl _ _).alloc (Nat.le_refl _) _
    have h := hK (.slice (some ⟨W.heap.size, 0, none⟩) 0 0) (W.alloc (.cells #[] 3)) (LitV.new hB) (hG.alloc hG.size _) (fun j u h => h.below hb2) (fun j u h => h.below hb2)
    clear hK
    rcases (by omega : k = 0 ∨ k = 1 ∨ k = 2 ∨ k = 3) with rfl | rfl | rfl | rfl
    · change wpOp _ _ _ 0 K _ W
      refine wpOp_step rfl (fun K' hK' => ?_)
      have H := Lib.hid (hK' _ _ h)
      clear h hK'
      go_simp
      exact H.out
    · change wpOp _ _ _ 6 K _ W
      refine wpOp_step rfl (fun K' hK' => ?_)
      have H := Lib.hid (hK' _ _ h)
      clear h hK'
      go_simp
      exact H.out
    · change wpOp _ _ _ 10 K _ W
      refine wpOp_step rfl (fun K' hK' => ?_)
      have H := Lib.hid (hK' _ _ h)
      clear h hK'
      go_simp
      exact H.out
    · change wpOp _ _ _ 14 K _ W
      refine wpOp_step rfl (fun K' hK' => ?_)
      have H := Lib.hid (hK' _ _ h)
      clear h hK'
      go_simp
      exact H.out
  case hA =>
    intro k hk X W K hl hG hK
    have hB : w.heap.size ≤ W.heap.size := Nat.le_trans Hb.out.size hG.size
    have hkw : Keeps w W := Keeps.of_below (Hb.out.trans (hG.mono Hb.out.size))
    rcases (by omega : k = 0 ∨ k = 1 ∨ k = 2 ∨ k = 3) with rfl | rfl | rfl | rfl
    · obtain ⟨v', W', hrun, hoi, hbw⟩ := lit_ap hl (Rk.out.keep hkw) L1.out hB
      have h := hK v' W' hoi (hG.trans (hbw.mono hG.size)) (fun j u h _ => h.below hbw) (fun j u h => h.below hbw)
      clear hK
      change wpOp _ _ _ 3 K _ W
      refine wpOp_step rfl (fun K' hK' => ?_)
      have H := Lib.hid (hK' _ _ h)
      clear h hK'
      rw [if_pos (by rfl)]
      exact oper_append (.tmp 3) (.tmp 5) 22 rfl _ _ _ _ rfl rfl hrun H.out
    · obtain ⟨v', W', hrun, hoi, hbw⟩ := lit_ap hl (Rs.out.keep hkw) L2.out hB
      have h := hK v' W' hoi (hG.trans (hbw.mono hG.size)) (fun j u h _ => h.below hbw) (fun j u h => h.below hbw)
      clear hK
      change wpOp _ _ _ 9 K _ W
      refine wpOp_step rfl (fun K' hK' => ?_)
      have H := Lib.hid (hK' _ _ h)
      clear h hK'
      rw [if_pos (by rfl)]
      exact oper_append (.tmp 9) (.tmp 11) 22 rfl _ _ _ _ rfl rfl hrun H.out
    · obtain ⟨v', W', hrun, hoi, hbw⟩ := lit_ap hl (Rn.out.keep hkw) L3.out hB
      have h := hK v' W' hoi (hG.trans (hbw.mono hG.size)) (fun j u h _ => h.below hbw) (fun j u h => h.below hbw)
      clear hK
      change wpOp _ _ _ 13 K _ W
      refine wpOp_step rfl (fun K' hK' => ?_)
      have H := Lib.hid (hK' _ _ h)
      clear h hK'
      rw [if_pos (by rfl)]
      exact oper_append (.tmp 13) (.tmp 15) 22 rfl _ _ _ _ rfl rfl hrun H.out
    · obtain ⟨v', W', hrun, hoi, hbw⟩ := lit_ap hl (Rm.out.keep hkw) L4.out hB
      have h := hK v' W' hoi (hG.trans (hbw.mono hG.size)) (fun j u h _ => h.below hbw) (fun j u h => h.below hbw)
      clear hK
      change wpOp _ _ _ 17 K _ W
      refine wpOp_step rfl (fun K' hK' => ?_)
      have H := Lib.hid (hK' _ _ h)
      clear h hK'
      rw [if_pos (by rfl)]
      exact oper_append (.tmp 17) (.tmp 19) 22 rfl _ _ _ _ rfl rfl hrun H.out
  case hend =>
    intro X W hG hA
    have Q1 : OI w.heap.size W (X 4) x.key := hA 0 (by decide)
    have Q2 : OI w.heap.size W (X 5) x.sum := hA 1 (by decide)
    have Q3 : OI w.heap.size W (X 6) x.mn := hA 2 (by decide)
    have Q4 : OI w.heap.size W (X 7) x.mx := hA 3 (by decide)
    generalize X 4 = y4 at Q1 ⊢
    generalize X 5 = y5 at Q2 ⊢
    generalize X 6 = y6 at Q3 ⊢
    generalize X 7 = y7 at Q4 ⊢
    generalize X 0 = y0
    generalize X 1 = y1
    generalize X 2 = y2
    generalize X 3 = y3
    clear hA
    obtain ⟨P1, c1, e1, -⟩ := Q1.form
    obtain ⟨P2, c2, e2, -⟩ := Q2.form
    obtain ⟨P3, c3, e3, -⟩ := Q3.form
    obtain ⟨P4, c4, e4, -⟩ := Q4.form
    subst e1 e2 e3 e4
    have hHeld : Bx W b (.slice Pk lk ck) (.int .i64 cnt) (.slice Ps ls cs) (.slice Pn ln cn) (.slice Pm lm cm) := bx0.keep (Keeps.of_below hG)
    have o4 := O2.out.below hG (by have := Hz.out; have := Eb.out; omega)
    have z0 := o4.cell (i := 0) rfl
    have z1 := o4.cell (i := 1) rfl
    have z2 := o4.cell (i := 2) rfl
    have z3 := o4.cell (i := 3) rfl
    have z4 := o4.cell (i := 4) rfl
    have zf := o4.frozen
    obtain ⟨W5, hW5⟩ : ∃ W5, W5 = put5 W (b + 1) (.slice P1 x.key.length c1) (.int .i64 cnt) (.slice P2 x.sum.length c2) (.slice P3 x.mn.length c3) (.slice P4 x.mx.length c4) := ⟨_, rfl⟩
    have o5 : Own 33 W5 (b + 1) [.slice P1 x.key.length c1, .int .i64 cnt, .slice P2 x.sum.length c2, .slice P3 x.mn.length c3, .slice P4 x.mx.length c4] := hW5 ▸ put5_own o4
    have on5 : Only (b + 1) W W5 := hW5 ▸ put5_only
    have hfin : CO w.heap.size W5 (.slice P1 x.key.length c1) (.slice P2 x.sum.length c2) (.slice P3 x.mn.length c3) (.slice P4 x.mx.length c4) x := (show CO w.heap.size W _ _ _ _ x from ⟨Q1, Q2, Q3, Q4⟩).only on5 o4 (by decide)
    have hB4 : Below w.heap.size w W := Hb.out.trans (hG.mono Hb.out.size)
    have hbf : Below w.heap.size w W5 := hB4.trans (on5.below (by have := Eb.out; omega) hB4.size)
    have hbx5 : Bx W5 b (.slice Pk lk ck) (.int .i64 cnt) (.slice Ps ls cs) (.slice Pn ln cn) (.slice Pm lm cm) := hHeld.only on5 (by omega) (by have := hG.size; have := Hz.out; have := Eb.out; omega)
    have HW5 := Lib.hid hW5
    have Hfin := Lib.hid hfin
    have Hbf := Lib.hid hbf
    have Hbx5 := Lib.hid hbx5
    have r0 := o5.cell (i := 0) rfl
    have r1 := o5.cell (i := 1) rfl
    have r2 := o5.cell (i := 2) rfl
    have r3 := o5.cell (i := 3) rfl
    have r4 := o5.cell (i := 4) rfl
    clear hW5 o5 on5 hfin hbf hbx5 Q1 Q2 Q3 Q4 o4 hB4 hG
    refine wpAnyH_take (i := 18) (v := ?vb18) rfl (by kernel_rfl) (by kernel_rfl) (by kernel_rfl) (fun _ _ _ h => h) (Or.inl ⟨by rfl, ?yb18⟩) hHeld ?rb18
    case yb18 => (intro W hW; go_simp; first | done | with_reducible rfl)
    try simp only [List.getElem_toArray, List.getElem_cons_succ, List.getElem_cons_zero, Act.put, List.setIfInBounds_toArray, List.set_cons_zero, List.set_cons_succ]
    refine wpAnyH_ready (rs := [19]) (by kernel_rfl) (by simp) ?_
    refine AllReadyH.cons rfl (fun K hK => ?_) (AllReadyH.nil)
    go_simp
    have e5 := HW5.out
    unfold put5 at e5
    rw [← e5]
    clear e5
    refine hK.out _ _ (Hbx5.out) (fun hHeld => ?_)
    clear hK K
    try simp only [List.getElem_toArray, List.getElem_cons_succ, List.getElem_cons_zero, Act.put, List.setIfInBounds_toArray, List.set_cons_zero, List.set_cons_succ]
    refine wpAnyH_done (by kernel_rfl) ?_ _
    go_wp2
    exact bodyPost_ret (v := .agg #[.slice P1 x.key.length c1, .int .i64 cnt, .slice P2 x.sum.length c2, .slice P3 x.mn.length c3, .slice P4 x.mx.length c4]) (by simp [results, Tryd.results46, go_sem, r0, r1, r2, r3, r4]) rfl ⟨_, _, _, _, rfl, Hfin.out, Hbf.out⟩
end Go.Proofs.YtbkcclmhgnplcaaDoor
