/- Two boxes, laid at any time, and two cells told and laid into them. -/
import Derived.Test.YtbkcclmhgnplcaaDoorAnyTab
import Derived.Test.YtbkcclmhgnplcaaDoorRput
namespace Go.Proofs.YtbkcclmhgnplcaaDoor
open Go.RowKit Go.Shelf
/-- A box of a cell, of the call's own. -/
def BoxV (lo : Nat) (W : World) (p : Value) (vs : List Value) : Prop := ∃ g, p = .pointer (some ⟨g, 0, none⟩) ∧ lo ≤ g ∧ Own 33 W g vs
def BoxC (lo : Nat) (W : World) (p : Value) (y : Cel) : Prop := ∃ g k s n mm, p = .pointer (some ⟨g, 0, none⟩) ∧ lo ≤ g ∧ Own 33 W g [k, .int .i64 y.cnt, s, n, mm] ∧ CO lo W k s n mm y
def AgV (lo : Nat) (W : World) (v : Value) (y : Cel) : Prop := ∃ k s n mm, v = .agg #[k, .int .i64 y.cnt, s, n, mm] ∧ CO lo W k s n mm y
theorem BoxV.below {lo : Nat} {W W' : World} {p : Value} {vs : List Value} (h : BoxV lo W p vs) (hb : Below W.heap.size W W') : BoxV lo W' p vs := by
  obtain ⟨g, e, hl, ho⟩ := h
  exact ⟨g, e, hl, ho.below hb ho.lt⟩
theorem BoxC.below {lo : Nat} {W W' : World} {p : Value} {y : Cel} (h : BoxC lo W p y) (hb : Below W.heap.size W W') : BoxC lo W' p y := by
  obtain ⟨g, k, s, n, mm, e, hl, ho, hc⟩ := h
  exact ⟨g, k, s, n, mm, e, hl, ho.below hb ho.lt, hc.below hb⟩
theorem AgV.below {lo : Nat} {W W' : World} {v : Value} {y : Cel} (h : AgV lo W v y) (hb : Below W.heap.size W W') : AgV lo W' v y := by
  obtain ⟨k, s, n, mm, e, hc⟩ := h
  exact ⟨k, s, n, mm, e, hc.below hb⟩
/-- Two boxes, laid at any time; two cells told, and laid into them. -/
structure TwoB (wr : World) (y z : Cel) (m b : Nat) (X : Nat → Value) (W : World) : Prop where
  bw : Below wr.heap.size wr W
  f0 : b.testBit 0 = true → m ≤ 2 → BoxV wr.heap.size W (X 0) [.slice none 0 0, .int .i64 0, .slice none 0 0, .slice none 0 0, .slice none 0 0]
  f1 : b.testBit 1 = true → m ≤ 3 → BoxV wr.heap.size W (X 1) [.slice none 0 0, .int .i64 0, .slice none 0 0, .slice none 0 0, .slice none 0 0]
  ne : b.testBit 0 = true → b.testBit 1 = true → X 0 ≠ X 1
  lt : ∀ j, j < 2 → b.testBit j = true → ∃ g, X j = .pointer (some ⟨g, 0, none⟩) ∧ g < W.heap.size
  c2 : 1 ≤ m → AgV wr.heap.size W (X 2) y
  c3 : 2 ≤ m → AgV wr.heap.size W (X 3) z
  d0 : 3 ≤ m → BoxC wr.heap.size W (X 0) y
  d1 : 4 ≤ m → BoxC wr.heap.size W (X 1) z
def qD (_j : Nat) : Nat := 2
theorem TwoB.alloc {wr : World} {y z : Cel} {m b : Nat} {X : Nat → Value} {W : World} (h : TwoB wr y z m b X W) (j : Nat) (hj : j < 2) (hb : b < 4) (ht : b.testBit j = false) (hok : okF 2 qD m b = true) :
    TwoB wr y z m (b + 2 ^ j) (upL X j (.pointer (some ⟨W.heap.size, 0, none⟩))) (W.alloc (.cells #[.slice none 0 0, .int .i64 0, .slice none 0 0, .slice none 0 0, .slice none 0 0] 33)) := by
  have hbl : Below W.heap.size W (W.alloc (.cells #[.slice none 0 0, .int .i64 0, .slice none 0 0, .slice none 0 0, .slice none 0 0] 33)) := (Below.refl _ _).alloc (Nat.le_refl _) _
  have hnew : BoxV wr.heap.size (W.alloc (.cells #[.slice none 0 0, .int .i64 0, .slice none 0 0, .slice none 0 0, .slice none 0 0] 33)) (.pointer (some ⟨W.heap.size, 0, none⟩)) [.slice none 0 0, .int .i64 0, .slice none 0 0, .slice none 0 0, .slice none 0 0] := ⟨_, rfl, h.bw.size, heap_alloc_new W _⟩
  have hlt : ∀ i, i < 2 → b.testBit i = true → X i ≠ .pointer (some ⟨W.heap.size, 0, none⟩) := fun i hi hbi e => by
    obtain ⟨g, e2, hg⟩ := h.lt i hi hbi
    rw [e] at e2
    injection e2 with e2
    injection e2 with e2
    injection e2 with e2
    omega
  have bw := h.bw.alloc h.bw.size (.cells #[.slice none 0 0, .int .i64 0, .slice none 0 0, .slice none 0 0, .slice none 0 0] 33)
  have ltn : ∀ i, i < 2 → b.testBit i = true → ∃ g, X i = .pointer (some ⟨g, 0, none⟩) ∧ g < (W.alloc (.cells #[.slice none 0 0, .int .i64 0, .slice none 0 0, .slice none 0 0, .slice none 0 0] 33)).heap.size := fun i hi hbi => by
    obtain ⟨g, e, hg⟩ := h.lt i hi hbi
    exact ⟨g, e, by simp; omega⟩
  have hm : m ≤ 2 := by
    simp only [okF, List.all_eq_true, List.mem_range] at hok
    have := hok j hj
    rw [ht] at this
    rcases Nat.lt_or_ge 2 m with h3 | h3
    · have h2 : decide (qD j < m) = true := decide_eq_true h3
      rw [h2] at this
      cases this
    · exact h3
  rcases (by omega : j = 0 ∨ j = 1) with rfl | rfl
  · have u0 : ∀ v, upL X 0 v 0 = v := fun v => upL_same X 0 v
    have u1 : ∀ v, upL X 0 v 1 = X 1 := fun v => upL_ne X v (by decide)
    have u2 : ∀ v, upL X 0 v 2 = X 2 := fun v => upL_ne X v (by decide)
    have u3 : ∀ v, upL X 0 v 3 = X 3 := fun v => upL_ne X v (by decide)
    have hb2 : b = 0 ∨ b = 2 := by rcases (by omega : b = 0 ∨ b = 1 ∨ b = 2 ∨ b = 3) with rfl | rfl | rfl | rfl <;> first | exact absurd ht (by decide) | omega
    have t1 : (b + 2 ^ 0).testBit 1 = b.testBit 1 := by rcases hb2 with rfl | rfl <;> rfl
    refine ⟨bw, fun _ _ => by rw [u0]; exact hnew, fun e k => by rw [u1]; rw [t1] at e; exact (h.f1 e k).below hbl, fun _ e => by rw [u0, u1]; rw [t1] at e; exact fun q => hlt 1 (by omega) e q.symm, fun i hi e => ?_, fun k => by rw [u2]; exact (h.c2 k).below hbl, fun k => by rw [u3]; exact (h.c3 k).below hbl, fun k => by omega, fun k => by omega⟩
    rcases (by omega : i = 0 ∨ i = 1) with rfl | rfl
    · rw [u0]; exact ⟨_, rfl, by simp⟩
    · rw [u1]; rw [t1] at e; exact ltn 1 (by omega) e
  · have u0 : ∀ v, upL X 1 v 0 = X 0 := fun v => upL_ne X v (by decide)
    have u1 : ∀ v, upL X 1 v 1 = v := fun v => upL_same X 1 v
    have u2 : ∀ v, upL X 1 v 2 = X 2 := fun v => upL_ne X v (by decide)
    have u3 : ∀ v, upL X 1 v 3 = X 3 := fun v => upL_ne X v (by decide)
    have hb2 : b = 0 ∨ b = 1 := by rcases (by omega : b = 0 ∨ b = 1 ∨ b = 2 ∨ b = 3) with rfl | rfl | rfl | rfl <;> first | exact absurd ht (by decide) | omega
    have t1 : (b + 2 ^ 1).testBit 0 = b.testBit 0 := by rcases hb2 with rfl | rfl <;> rfl
    refine ⟨bw, fun e k => by rw [u0]; rw [t1] at e; exact (h.f0 e k).below hbl, fun _ _ => by rw [u1]; exact hnew, fun e _ => by rw [u0, u1]; rw [t1] at e; exact fun q => hlt 0 (by omega) e q, fun i hi e => ?_, fun k => by rw [u2]; exact (h.c2 k).below hbl, fun k => by rw [u3]; exact (h.c3 k).below hbl, fun k => by rw [u0]; exact (h.d0 k).below hbl, fun k => by omega⟩
    rcases (by omega : i = 0 ∨ i = 1) with rfl | rfl
    · rw [u0]; rw [t1] at e; exact ltn 0 (by omega) e
    · rw [u1]; exact ⟨_, rfl, by simp⟩
theorem TwoB.call {wr : World} {y z : Cel} {b : Nat} {X : Nat → Value} {W W' : World} {k : Nat} {v : Value} (h : TwoB wr y z k b X W) (hk : k < 2) (hb : Below W.heap.size W W') (hv : AgV wr.heap.size W' v (if k = 0 then y else z)) : TwoB wr y z (k + 1) b (upL X (2 + k) v) W' := by
  have bw := h.bw.trans (hb.mono h.bw.size)
  have u0 : upL X (2 + k) v 0 = X 0 := upL_ne X v (by omega)
  have u1 : upL X (2 + k) v 1 = X 1 := upL_ne X v (by omega)
  refine ⟨bw, fun e q => by rw [u0]; exact (h.f0 e (by omega)).below hb, fun e q => by rw [u1]; exact (h.f1 e (by omega)).below hb, fun e q => by rw [u0, u1]; exact h.ne e q, fun i hi e => ?_, fun q => ?_, fun q => ?_, fun q => by omega, fun q => by omega⟩
  · obtain ⟨g, e2, hg⟩ := h.lt i hi e
    rw [upL_ne X v (by omega)]
    exact ⟨g, e2, Nat.lt_of_lt_of_le hg hb.size⟩
  · rcases (by omega : k = 0 ∨ k = 1) with rfl | rfl
    · rw [show (2 : Nat) = 2 + 0 from rfl, upL_same]; rw [if_pos rfl] at hv; exact hv
    · rw [upL_ne X v (by decide)]; exact (h.c2 (by omega)).below hb
  · obtain rfl : k = 1 := by omega
    rw [show (3 : Nat) = 2 + 1 from rfl, upL_same]; rw [if_neg (by decide)] at hv; exact hv
theorem TwoB.store {wr : World} {y z : Cel} {b : Nat} {X : Nat → Value} {W : World} {j : Nat} (v : Value) (h : TwoB wr y z (2 + j) b X W) (hj : j < 2) (ht : ∀ i, i < 2 → i ≤ j → b.testBit i = true) :
    ∃ g Pk lk ck Ps ls cs Pn ln cn Pm lm cm, X j = .pointer (some ⟨g, 0, none⟩) ∧ X (2 + j) = .agg #[.slice Pk lk ck, .int .i64 (if j = 0 then y else z).cnt, .slice Ps ls cs, .slice Pn ln cn, .slice Pm lm cm] ∧ Own 33 W g [.slice none 0 0, .int .i64 0, .slice none 0 0, .slice none 0 0, .slice none 0 0] ∧
      TwoB wr y z (2 + j + 1) b (upL X (2 + (2 + j)) v) (put5 W g (.slice Pk lk ck) (.int .i64 (if j = 0 then y else z).cnt) (.slice Ps ls cs) (.slice Pn ln cn) (.slice Pm lm cm)) := by
  obtain ⟨q, hq⟩ : ∃ q, q = (if j = 0 then y else z) := ⟨_, rfl⟩
  rw [← hq]
  have hbx : BoxV wr.heap.size W (X j) [.slice none 0 0, .int .i64 0, .slice none 0 0, .slice none 0 0, .slice none 0 0] := by
    rcases (by omega : j = 0 ∨ j = 1) with rfl | rfl
    · exact h.f0 (ht 0 (by omega) (by omega)) (by omega)
    · exact h.f1 (ht 1 (by omega) (by omega)) (by omega)
  have hag : AgV wr.heap.size W (X (2 + j)) q := by
    rw [hq]
    rcases (by omega : j = 0 ∨ j = 1) with rfl | rfl
    · exact h.c2 (by omega)
    · exact h.c3 (by omega)
  obtain ⟨g, eg, hlo, hog⟩ := hbx
  obtain ⟨k, s, n, mm, ev, hco⟩ := hag
  obtain ⟨Pk, ck, f1, -⟩ := hco.key.form
  obtain ⟨Ps, cs, f2, -⟩ := hco.sum.form
  obtain ⟨Pn, cn, f3, -⟩ := hco.mn.form
  obtain ⟨Pm, cm, f4, -⟩ := hco.mx.form
  subst f1 f2 f3 f4
  refine ⟨g, _, _, _, _, _, _, _, _, _, _, _, _, eg, ev, hog, ?_⟩
  generalize q.key.length = lk at *
  generalize hls : q.sum.length = ls at *
  generalize hln : q.mn.length = ln at *
  generalize hlm : q.mx.length = lm at *
  have onl : Only g W (put5 W g (.slice Pk lk ck) (.int .i64 q.cnt) (.slice Ps ls cs) (.slice Pn ln cn) (.slice Pm lm cm)) := put5_only
  have hnew := put5_own (v0 := .slice Pk lk ck) (v1 := .int .i64 q.cnt) (v2 := .slice Ps ls cs) (v3 := .slice Pn ln cn) (v4 := .slice Pm lm cm) hog
  have hsz : (put5 W g (.slice Pk lk ck) (.int .i64 q.cnt) (.slice Ps ls cs) (.slice Pn ln cn) (.slice Pm lm cm)).heap.size = W.heap.size := put5_size
  have bw : Below wr.heap.size wr (put5 W g (.slice Pk lk ck) (.int .i64 q.cnt) (.slice Ps ls cs) (.slice Pn ln cn) (.slice Pm lm cm)) := h.bw.trans (onl.below hlo h.bw.size)
  have far : ∀ {p : Value} {vs : List Value}, BoxV wr.heap.size W p vs → p ≠ X j → BoxV wr.heap.size (put5 W g (.slice Pk lk ck) (.int .i64 q.cnt) (.slice Ps ls cs) (.slice Pn ln cn) (.slice Pm lm cm)) p vs := fun hp hne => by
    obtain ⟨g', e', hl', ho'⟩ := hp
    exact ⟨g', e', hl', ho'.only onl (fun e => hne (by rw [e', eg, e]))⟩
  have farC : ∀ {p : Value} {y : Cel}, BoxC wr.heap.size W p y → p ≠ X j → BoxC wr.heap.size (put5 W g (.slice Pk lk ck) (.int .i64 q.cnt) (.slice Ps ls cs) (.slice Pn ln cn) (.slice Pm lm cm)) p y := fun hp hne => by
    obtain ⟨g', k', s', n', m', e', hl', ho', hc'⟩ := hp
    exact ⟨g', k', s', n', m', e', hl', ho'.only onl (fun e => hne (by rw [e', eg, e])), hc'.only onl hog (by decide)⟩
  have agv : ∀ {u : Value} {y : Cel}, AgV wr.heap.size W u y → AgV wr.heap.size (put5 W g (.slice Pk lk ck) (.int .i64 q.cnt) (.slice Ps ls cs) (.slice Pn ln cn) (.slice Pm lm cm)) u y := fun hu => by
    obtain ⟨k', s', n', m', e', hc'⟩ := hu
    exact ⟨k', s', n', m', e', hc'.only onl hog (by decide)⟩
  have box : BoxC wr.heap.size (put5 W g (.slice Pk lk ck) (.int .i64 q.cnt) (.slice Ps ls cs) (.slice Pn ln cn) (.slice Pm lm cm)) (X j) q := ⟨g, _, _, _, _, eg, hlo, hnew, hco.only onl hog (by decide)⟩
  have u : ∀ i, i < 4 → upL X (2 + (2 + j)) v i = X i := fun i hi => upL_ne X v (by omega)
  refine ⟨bw, fun e p => by omega, fun e p => ?_, fun e p => by rw [u 0 (by omega), u 1 (by omega)]; exact h.ne e p, fun i hi e => by rw [u i (by omega), hsz]; exact h.lt i hi e, fun _ => by rw [u 2 (by omega)]; exact agv (h.c2 (by omega)), fun _ => by rw [u 3 (by omega)]; exact agv (h.c3 (by omega)), fun _ => ?_, fun _ => ?_⟩
  · obtain rfl : j = 0 := by omega
    rw [u 1 (by omega)]
    exact far (h.f1 e (by omega)) (fun e2 => h.ne (ht 0 (by omega) (by omega)) e e2.symm)
  · rw [u 0 (by omega)]
    rcases (by omega : j = 0 ∨ j = 1) with rfl | rfl
    · rw [if_pos rfl] at hq; rw [← hq]; exact box
    · exact farC (h.d0 (by omega)) (h.ne (ht 0 (by omega) (by omega)) (ht 1 (by omega) (by omega)))
  · obtain rfl : j = 1 := by omega
    rw [u 1 (by omega)]
    rw [if_neg (by decide)] at hq
    rw [← hq]
    exact box
end Go.Proofs.YtbkcclmhgnplcaaDoor
