/- The law CellAll. -/
import Derived.Test.YtbkcclmhgnplcaaDoorRgroup
import Derived.Test.YtbkcclmhgnplcaaDoorRnarrow
import Derived.Test.YtbkcclmhgnplcaaDoorAnyTab
import Derived.Test.YtbkcclmhgnplcaaDoorCelf
namespace Go.Proofs.YtbkcclmhgnplcaaDoor
open Go.RowKit Go.Shelf
theorem dims_len {a : Int} (h1 : 0 ≤ a) (h2 : a ≤ 15) : (dimsL a).length ≤ 4 := by
  have h := ones_len a h1 h2
  unfold ones at h
  omega
theorem ofC_key {sa : Int} {r : Fact} {q : Nat} (hl : r.key.length = q) (q4 : q ≤ 4) (a1 : 0 ≤ sa) (a3 : sa ≤ fullB q) : (ofC sa r).key = (dimsL sa).map (valF r.key) :=
  pk_val r.key sa a1 (by rw [hl]; exact a3) (by omega)
/-- A box of a cell, of the call's own. -/
def BoxV (lo : Nat) (W : World) (p : Value) (vs : List Value) : Prop := ∃ g, p = .pointer (some ⟨g, 0, none⟩) ∧ lo ≤ g ∧ Own 33 W g vs
def BoxC (lo : Nat) (W : World) (p : Value) (y : Cel) : Prop := ∃ g k s n mm, p = .pointer (some ⟨g, 0, none⟩) ∧ lo ≤ g ∧ Own 33 W g [k, .int .i64 y.cnt, s, n, mm] ∧ CO lo W k s n mm y
def AgV (lo : Nat) (W : World) (v : Value) (y : Cel) : Prop := ∃ k s n mm, v = .agg #[k, .int .i64 y.cnt, s, n, mm] ∧ CO lo W k s n mm y
theorem BoxV.below {lo : Nat} {W W' : World} {p : Value} {vs : List Value} (h : BoxV lo W p vs) (hb : Below W.heap.size W W') : BoxV lo W' p vs := by
  obtain ⟨g, e, hl, ho⟩ := h
  exact ⟨g, e, hl, ho.below hb ho.lt⟩
theorem BoxC.below {lo : Nat} {W W' : World} {p : Value} {y : Cel} (h : BoxC lo W p y) (hb : Below W.heap.size W W') : BoxC lo W' p y := by
  obtain ⟨g, k, s, n, mm, e, hl, ho, hc⟩ := h
  exact ⟨g, k, s, n, mm, e, hl, ho.below hb ho.lt, hc.below hb⟩
theorem AgV.below {lo : Nat} {W W' : World} {v : Value} {y : Cel} (h : AgV lo W v y) (hb : Below W.heap.size W W') : AgV lo W' v y := by
  obtain ⟨k, s, n, mm, e, hc⟩ := h
  exact ⟨k, s, n, mm, e, hc.below hb⟩
/-- Two boxes, laid at any time; two cells told, and laid into them. -/
structure TwoB (wr : World) (y : Cel) (m b : Nat) (X : Nat → Value) (W : World) : Prop where
  bw : Below wr.heap.size wr W
  f0 : b.testBit 0 = true → m ≤ 2 → BoxV wr.heap.size W (X 0) [.slice none 0 0, .int .i64 0, .slice none 0 0, .slice none 0 0, .slice none 0 0]
  f1 : b.testBit 1 = true → m ≤ 3 → BoxV wr.heap.size W (X 1) [.slice none 0 0, .int .i64 0, .slice none 0 0, .slice none 0 0, .slice none 0 0]
  ne : b.testBit 0 = true → b.testBit 1 = true → X 0 ≠ X 1
  lt : ∀ j, j < 2 → b.testBit j = true → ∃ g, X j = .pointer (some ⟨g, 0, none⟩) ∧ g < W.heap.size
  c2 : 1 ≤ m → AgV wr.heap.size W (X 2) y
  c3 : 2 ≤ m → AgV wr.heap.size W (X 3) y
  d0 : 3 ≤ m → BoxC wr.heap.size W (X 0) y
  d1 : 4 ≤ m → BoxC wr.heap.size W (X 1) y
def qA (k : Nat) : Nat := match k with | 0 => 5 | 1 => 11 | 2 => 14 | _ => 15
def qL (j : Nat) : Nat := match j with | 0 => 12 | _ => 13
def qD (_j : Nat) : Nat := 2
def qS (j : Nat) : Nat := match j with | 0 => 19 | 1 => 20 | 2 => 49 | _ => 55
def qT (m b : Nat) : Array Bool := #[true, true, true, true, true, decide (1 ≤ m), true, true, true, true, true, decide (2 ≤ m), b.testBit 0, b.testBit 1, decide (3 ≤ m), decide (4 ≤ m)]
theorem upL_far (X : Nat → Value) {i j : Nat} (v : Value) (h : j ≠ i) : upL X i v j = X j := upL_ne X v h
theorem TwoB.alloc {wr : World} {y : Cel} {m b : Nat} {X : Nat → Value} {W : World} (h : TwoB wr y m b X W) (j : Nat) (hj : j < 2) (hb : b < 4) (ht : b.testBit j = false) (hok : okF 2 qD m b = true) :
    TwoB wr y m (b + 2 ^ j) (upL X j (.pointer (some ⟨W.heap.size, 0, none⟩))) (W.alloc (.cells #[.slice none 0 0, .int .i64 0, .slice none 0 0, .slice none 0 0, .slice none 0 0] 33)) := by
  have hbl : Below W.heap.size W (W.alloc (.cells #[.slice none 0 0, .int .i64 0, .slice none 0 0, .slice none 0 0, .slice none 0 0] 33)) := (Below.refl _ _).alloc (Nat.le_refl _) _
  have hnew : BoxV wr.heap.size (W.alloc (.cells #[.slice none 0 0, .int .i64 0, .slice none 0 0, .slice none 0 0, .slice none 0 0] 33)) (.pointer (some ⟨W.heap.size, 0, none⟩)) [.slice none 0 0, .int .i64 0, .slice none 0 0, .slice none 0 0, .slice none 0 0] := ⟨_, rfl, h.bw.size, heap_alloc_new W _⟩
  have hlt : ∀ i, i < 2 → b.testBit i = true → X i ≠ .pointer (some ⟨W.heap.size, 0, none⟩) := fun i hi hbi e => by
    obtain ⟨g, e2, hg⟩ := h.lt i hi hbi
    rw [e] at e2
    injection e2 with e2
    injection e2 with e2
    injection e2 with e2
    omega
  have bw := h.bw.alloc h.bw.size (.cells #[.slice none 0 0, .int .i64 0, .slice none 0 0, .slice none 0 0, .slice none 0 0] 33)
  have ltn : ∀ i, i < 2 → b.testBit i = true → ∃ g, X i = .pointer (some ⟨g, 0, none⟩) ∧ g < (W.alloc (.cells #[.slice none 0 0, .int .i64 0, .slice none 0 0, .slice none 0 0, .slice none 0 0] 33)).heap.size := fun i hi hbi => by
    obtain ⟨g, e, hg⟩ := h.lt i hi hbi
    exact ⟨g, e, by simp; omega⟩
  have hm : m ≤ 2 := by
    simp only [okF, List.all_eq_true, List.mem_range] at hok
    have := hok j hj
    rw [ht] at this
    rcases Nat.lt_or_ge 2 m with h3 | h3
    · have h2 : decide (qD j < m) = true := decide_eq_true h3
      rw [h2] at this
      cases this
    · exact h3
  rcases (by omega : j = 0 ∨ j = 1) with rfl | rfl
  · have u0 : ∀ v, upL X 0 v 0 = v := fun v => upL_same X 0 v
    have u1 : ∀ v, upL X 0 v 1 = X 1 := fun v => upL_ne X v (by decide)
    have u2 : ∀ v, upL X 0 v 2 = X 2 := fun v => upL_ne X v (by decide)
    have u3 : ∀ v, upL X 0 v 3 = X 3 := fun v => upL_ne X v (by decide)
    have hb2 : b = 0 ∨ b = 2 := by rcases (by omega : b = 0 ∨ b = 1 ∨ b = 2 ∨ b = 3) with rfl | rfl | rfl | rfl <;> first | exact absurd ht (by decide) | omega
    have t1 : (b + 2 ^ 0).testBit 1 = b.testBit 1 := by rcases hb2 with rfl | rfl <;> rfl
    refine ⟨bw, fun _ _ => by rw [u0]; exact hnew, fun e k => by rw [u1]; rw [t1] at e; exact (h.f1 e k).below hbl, fun _ e => by rw [u0, u1]; rw [t1] at e; exact fun q => hlt 1 (by omega) e q.symm, fun i hi e => ?_, fun k => by rw [u2]; exact (h.c2 k).below hbl, fun k => by rw [u3]; exact (h.c3 k).below hbl, fun k => by omega, fun k => by omega⟩
    rcases (by omega : i = 0 ∨ i = 1) with rfl | rfl
    · rw [u0]; exact ⟨_, rfl, by simp⟩
    · rw [u1]; rw [t1] at e; exact ltn 1 (by omega) e
  · have u0 : ∀ v, upL X 1 v 0 = X 0 := fun v => upL_ne X v (by decide)
    have u1 : ∀ v, upL X 1 v 1 = v := fun v => upL_same X 1 v
    have u2 : ∀ v, upL X 1 v 2 = X 2 := fun v => upL_ne X v (by decide)
    have u3 : ∀ v, upL X 1 v 3 = X 3 := fun v => upL_ne X v (by decide)
    have hb2 : b = 0 ∨ b = 1 := by rcases (by omega : b = 0 ∨ b = 1 ∨ b = 2 ∨ b = 3) with rfl | rfl | rfl | rfl <;> first | exact absurd ht (by decide) | omega
    have t1 : (b + 2 ^ 1).testBit 0 = b.testBit 0 := by rcases hb2 with rfl | rfl <;> rfl
    refine ⟨bw, fun e k => by rw [u0]; rw [t1] at e; exact (h.f0 e k).below hbl, fun _ _ => by rw [u1]; exact hnew, fun e _ => by rw [u0, u1]; rw [t1] at e; exact fun q => hlt 0 (by omega) e q, fun i hi e => ?_, fun k => by rw [u2]; exact (h.c2 k).below hbl, fun k => by rw [u3]; exact (h.c3 k).below hbl, fun k => by rw [u0]; exact (h.d0 k).below hbl, fun k => by omega⟩
    rcases (by omega : i = 0 ∨ i = 1) with rfl | rfl
    · rw [u0]; rw [t1] at e; exact ltn 0 (by omega) e
    · rw [u1]; exact ⟨_, rfl, by simp⟩
theorem TwoB.call {wr : World} {y : Cel} {b : Nat} {X : Nat → Value} {W W' : World} {k : Nat} {v : Value} (h : TwoB wr y k b X W) (hk : k < 2) (hb : Below W.heap.size W W') (hv : AgV wr.heap.size W' v y) : TwoB wr y (k + 1) b (upL X (2 + k) v) W' := by
  have bw := h.bw.trans (hb.mono h.bw.size)
  have u0 : upL X (2 + k) v 0 = X 0 := upL_ne X v (by omega)
  have u1 : upL X (2 + k) v 1 = X 1 := upL_ne X v (by omega)
  refine ⟨bw, fun e q => by rw [u0]; exact (h.f0 e (by omega)).below hb, fun e q => by rw [u1]; exact (h.f1 e (by omega)).below hb, fun e q => by rw [u0, u1]; exact h.ne e q, fun i hi e => ?_, fun q => ?_, fun q => ?_, fun q => by omega, fun q => by omega⟩
  · obtain ⟨g, e2, hg⟩ := h.lt i hi e
    rw [upL_ne X v (by omega)]
    exact ⟨g, e2, Nat.lt_of_lt_of_le hg hb.size⟩
  · rcases (by omega : k = 0 ∨ k = 1) with rfl | rfl
    · rw [show (2 : Nat) = 2 + 0 from rfl, upL_same]; exact hv
    · rw [upL_ne X v (by decide)]; exact (h.c2 (by omega)).below hb
  · obtain rfl : k = 1 := by omega
    rw [show (3 : Nat) = 2 + 1 from rfl, upL_same]; exact hv
theorem TwoB.store {wr : World} {y : Cel} {b : Nat} {X : Nat → Value} {W : World} {j : Nat} (v : Value) (h : TwoB wr y (2 + j) b X W) (hj : j < 2) (ht : ∀ i, i < 2 → i ≤ j → b.testBit i = true) :
    ∃ g Pk lk ck Ps ls cs Pn ln cn Pm lm cm, X j = .pointer (some ⟨g, 0, none⟩) ∧ X (2 + j) = .agg #[.slice Pk lk ck, .int .i64 y.cnt, .slice Ps ls cs, .slice Pn ln cn, .slice Pm lm cm] ∧ Own 33 W g [.slice none 0 0, .int .i64 0, .slice none 0 0, .slice none 0 0, .slice none 0 0] ∧
      TwoB wr y (2 + j + 1) b (upL X (2 + (2 + j)) v) (put5 W g (.slice Pk lk ck) (.int .i64 y.cnt) (.slice Ps ls cs) (.slice Pn ln cn) (.slice Pm lm cm)) := by
  have hbx : BoxV wr.heap.size W (X j) [.slice none 0 0, .int .i64 0, .slice none 0 0, .slice none 0 0, .slice none 0 0] := by
    rcases (by omega : j = 0 ∨ j = 1) with rfl | rfl
    · exact h.f0 (ht 0 (by omega) (by omega)) (by omega)
    · exact h.f1 (ht 1 (by omega) (by omega)) (by omega)
  have hag : AgV wr.heap.size W (X (2 + j)) y := by
    rcases (by omega : j = 0 ∨ j = 1) with rfl | rfl
    · exact h.c2 (by omega)
    · exact h.c3 (by omega)
  obtain ⟨g, eg, hlo, hog⟩ := hbx
  obtain ⟨k, s, n, mm, ev, hco⟩ := hag
  obtain ⟨Pk, ck, f1, -⟩ := hco.key.form
  obtain ⟨Ps, cs, f2, -⟩ := hco.sum.form
  obtain ⟨Pn, cn, f3, -⟩ := hco.mn.form
  obtain ⟨Pm, cm, f4, -⟩ := hco.mx.form
  subst f1 f2 f3 f4
  refine ⟨g, _, _, _, _, _, _, _, _, _, _, _, _, eg, ev, hog, ?_⟩
  generalize y.key.length = lk at *
  generalize hls : y.sum.length = ls at *
  generalize hln : y.mn.length = ln at *
  generalize hlm : y.mx.length = lm at *
  have onl : Only g W (put5 W g (.slice Pk lk ck) (.int .i64 y.cnt) (.slice Ps ls cs) (.slice Pn ln cn) (.slice Pm lm cm)) := put5_only
  have hnew := put5_own (v0 := .slice Pk lk ck) (v1 := .int .i64 y.cnt) (v2 := .slice Ps ls cs) (v3 := .slice Pn ln cn) (v4 := .slice Pm lm cm) hog
  have hsz : (put5 W g (.slice Pk lk ck) (.int .i64 y.cnt) (.slice Ps ls cs) (.slice Pn ln cn) (.slice Pm lm cm)).heap.size = W.heap.size := put5_size
  have bw : Below wr.heap.size wr (put5 W g (.slice Pk lk ck) (.int .i64 y.cnt) (.slice Ps ls cs) (.slice Pn ln cn) (.slice Pm lm cm)) := h.bw.trans (onl.below hlo h.bw.size)
  have far : ∀ {p : Value} {vs : List Value}, BoxV wr.heap.size W p vs → p ≠ X j → BoxV wr.heap.size (put5 W g (.slice Pk lk ck) (.int .i64 y.cnt) (.slice Ps ls cs) (.slice Pn ln cn) (.slice Pm lm cm)) p vs := fun hp hne => by
    obtain ⟨g', e', hl', ho'⟩ := hp
    exact ⟨g', e', hl', ho'.only onl (fun e => hne (by rw [e', eg, e]))⟩
  have farC : ∀ {p : Value}, BoxC wr.heap.size W p y → p ≠ X j → BoxC wr.heap.size (put5 W g (.slice Pk lk ck) (.int .i64 y.cnt) (.slice Ps ls cs) (.slice Pn ln cn) (.slice Pm lm cm)) p y := fun hp hne => by
    obtain ⟨g', k', s', n', m', e', hl', ho', hc'⟩ := hp
    exact ⟨g', k', s', n', m', e', hl', ho'.only onl (fun e => hne (by rw [e', eg, e])), hc'.only onl hog (by decide)⟩
  have agv : ∀ {u : Value}, AgV wr.heap.size W u y → AgV wr.heap.size (put5 W g (.slice Pk lk ck) (.int .i64 y.cnt) (.slice Ps ls cs) (.slice Pn ln cn) (.slice Pm lm cm)) u y := fun hu => by
    obtain ⟨k', s', n', m', e', hc'⟩ := hu
    exact ⟨k', s', n', m', e', hc'.only onl hog (by decide)⟩
  have box : BoxC wr.heap.size (put5 W g (.slice Pk lk ck) (.int .i64 y.cnt) (.slice Ps ls cs) (.slice Pn ln cn) (.slice Pm lm cm)) (X j) y := ⟨g, _, _, _, _, eg, hlo, hnew, hco.only onl hog (by decide)⟩
  have u : ∀ i, i < 4 → upL X (2 + (2 + j)) v i = X i := fun i hi => upL_ne X v (by omega)
  refine ⟨bw, fun e q => by omega, fun e q => ?_, fun e q => by rw [u 0 (by omega), u 1 (by omega)]; exact h.ne e q, fun i hi e => by rw [u i (by omega), hsz]; exact h.lt i hi e, fun q => by rw [u 2 (by omega)]; exact agv (h.c2 (by omega)), fun q => by rw [u 3 (by omega)]; exact agv (h.c3 (by omega)), fun q => ?_, fun q => ?_⟩
  · obtain rfl : j = 0 := by omega
    rw [u 1 (by omega)]
    exact far (h.f1 e (by omega)) (fun e2 => h.ne (ht 0 (by omega) (by omega)) e e2.symm)
  · rw [u 0 (by omega)]
    rcases (by omega : j = 0 ∨ j = 1) with rfl | rfl
    · exact box
    · exact farC (h.d0 (by omega)) (h.ne (ht 0 (by omega) (by omega)) (ht 1 (by omega) (by omega)))
  · obtain rfl : j = 1 := by omega
    rw [u 1 (by omega)]
    exact box
set_option maxRecDepth 100000 in
set_option maxHeartbeats 8000000 in
theorem cellAll_walk (a0 : Int) (a1 : Option Addr) (len1 cap1 : Nat) (z1 : List Int) (a2 : Int) (a3 : Option Addr) (len3 cap3 : Nat) (z3 : List Int) (a4 : Int) (a5 : Int) (w : World) (h0 : inK .i64 a0) (w1 : IsRow .i64 w a1 len1 cap1 z1) (h2 : inK .i64 a2) (w3 : IsRow .i64 w a3 len3 cap3 z3) (h4 : inK .i64 a4) (h5 : inK .i64 a5) (hT : Tab w) (hw1 : 1 < w.heap.size) :
    Calls Tryd.prog 3 #[.int .i64 a0, .slice a1 len1 cap1, .int .i64 a2, .slice a3 len3 cap3, .int .i64 a4, .int .i64 a5] w fun e w' => e = .returned (.bool true) ∧ Below w.heap.size w w' := by
  obtain ⟨n1, lc1, cm1⟩ := w1.nums
  obtain ⟨n3, lc3, cm3⟩ := w3.nums
  have N1 := Lib.hid n1
  have N3 := Lib.hid n3
  have HKn := Lib.hid (known_any w hT hw1)
  have HT := Lib.hid hT
  clear w1 w3 n1 n3 hT
  go_enter Tryd.func3, Tryd.ntmps3
  go_wp2_with fail
  refine HKn.out.mono ?_
  rintro e w1 ⟨rfl, hb1⟩
  have Hb1 := Lib.hid hb1
  clear hb1 HKn
  go_wp2_with fail
  refine (Facts_res a0 a2 a1 a3 len1 cap1 len3 cap3 _ _ w1 (N1.out.keep (Keeps.of_below Hb1.out)) (N3.out.keep (Keeps.of_below Hb1.out)) (by omega) (by omega) h0 h2).mono ?_
  rintro e w2 ⟨A, c, D, d, C, q, mm, m, cs, l, rfl, hF⟩
  have F := Lib.hid hF
  obtain ⟨k1, k2, k3, k4⟩ : 1 ≤ q ∧ q ≤ 4 ∧ mm ≤ 2 ∧ m ≤ 40 := ⟨hF.q1, hF.q4, hF.m2, hF.m40⟩
  have hb2 : Below w.heap.size w w2 := Hb1.out.trans (hF.below.mono Hb1.out.size)
  have hb3 : Below w2.heap.size w2 (w2.alloc (.cells #[.slice A q c, .int .i64 mm] 25)) := (Below.refl _ _).alloc (Nat.le_refl _) _
  have hos : Own 25 (w2.alloc (.cells #[.slice A q c, .int .i64 mm] 25)) w2.heap.size [.slice A q c, .int .i64 mm] := heap_alloc_new w2 _
  obtain ⟨s1, s2, s3⟩ := set_bd a4 q k1 k2
  have Hb2 := Lib.hid hb2
  have Hb3 := Lib.hid hb3
  have OS3 := Lib.hid hos
  clear hF hb2 hb3 hos N1 N3
  go_wp2_with fail
  refine (set_any A q c mm a4 _ k1 k2 h4).mono ?_
  rintro e w4 ⟨rfl, rfl⟩
  obtain ⟨sa, hsa⟩ : ∃ sa, sa = a4 % 2 ^ q := ⟨_, rfl⟩
  rw [← hsa] at s1 s2 s3 ⊢
  have hst := fun W => set_any A q c mm a4 W k1 k2 h4
  simp only [← hsa] at hst
  have HST := Lib.hid hst
  clear hsa hst
  have hb4 : Below w2.heap.size w2 ((w2.alloc (.cells #[.slice A q c, .int .i64 mm] 25)).alloc (.cells #[.slice A q c, .int .i64 mm] 25)) := Hb3.out.alloc Hb3.out.size _
  have HB4 := Lib.hid hb4
  have OS4 := Lib.hid (OS3.out.alloc (.cells #[.slice A q c, .int .i64 mm] 25))
  clear hb4
  generalize (w2.alloc (.cells #[.slice A q c, .int .i64 mm] 25)).alloc (.cells #[.slice A q c, .int .i64 mm] 25) = w4 at HB4 OS4 ⊢
  have hl4 : ∀ r ∈ l, r.key.length = q ∧ r.m.length = mm := F.out.lens
  have HL4 := Lib.hid (fun r hr => (show r.key.length ≤ 4 ∧ r.m.length = mm from ⟨by rw [(hl4 r hr).1]; exact k2, (hl4 r hr).2⟩))
  have Hmk := Lib.hid (fun W (hW : Below w2.heap.size w2 W) => make_any D m d C sa l W (F.out.rows.below hW (Nat.le_refl _)) F.out.em k4 F.out.small (fun r hr => by have := hl4 r hr; omega) s1 s2)
  obtain ⟨L, hL⟩ : ∃ L, L = l.map (ofC sa) := ⟨_, rfl⟩
  have hLm : L.length = m := by rw [hL, List.length_map, F.out.em]
  have hLo : ∀ x ∈ L, EvenC mm x ∧ x.key.length ≤ 1000000 := by
    rw [hL]
    exact ofC_even (set := sa) HL4.out
  have HLo := Lib.hid hLo
  have HLm := Lib.hid hLm
  have HLL := Lib.hid hL
  rw [← hL] at Hmk
  have Hb24 := Lib.hid (Hb2.out.trans (HB4.out.mono Hb2.out.size))
  have GRP := Lib.hid (fun (P : Option Addr) (c N : Nat) (K : List Cel) (W : World) (hK : RowC W P N K) (he : ∀ x ∈ K, EvenC mm x ∧ x.key.length ≤ 1000000) (hN : N = K.length) (hn : N ≤ 60) => groupR_any P c N K mm W hK (fun x h => (he x h).1) (fun x h => (he x h).2) (by omega) hN hn)
  have HFA := Lib.hid (fun (set : Int) (W : World) (hW : Below w2.heap.size w2 W) (e1 : 0 ≤ set) (e2 : set ≤ 15) => rFacts_any D m d C mm set l W (F.out.rows.below hW (Nat.le_refl _)) F.out.em k4 F.out.small HL4.out (by omega) e1 e2)
  have HSM := Lib.hid (fun (P Q : Option Addr) (N c d : Nat) (K : List Cel) (W : World) (r1 : RowC W P N K) (r2 : RowC W Q N K) (hN : N = K.length) (he : ∀ x ∈ K, EvenC mm x ∧ x.key.length ≤ 1000000) (hn : N ≤ 1000000) => same_yes P Q N c d K W r1 r2 hN (fun x hx => by
    obtain ⟨⟨e1, e2, e3⟩, e4⟩ := he x hx
    omega) hn)
  clear hl4 hL hLm hLo
  have HW := Lib.hid (fun (W : World) => lwithin2 a5 16 W h5 (by omega) (by omega))
  have hlq : ∀ r ∈ l, r.key.length = q := fun r hr => (F.out.lens r hr).1
  have HLQ := Lib.hid hlq
  clear hlq
  go_wp2_with fail
  refine (HW.out w4).mono ?_
  rintro e w5 ⟨rfl, rfl⟩
  obtain ⟨b1, b2, b3⟩ := and_sub sa (a5 % 16) s1 s2 (by omega) (by omega)
  obtain ⟨sb, hsb⟩ : ∃ sb, sb = bits .and .i64 sa (a5 % 16) := ⟨_, rfl⟩
  rw [← hsb] at b1 b2 b3
  have HSb := hsb.symm
  have hwl := dims_len s1 s2
  have hon := ones_len sa s1 s2
  obtain ⟨lk, hlk⟩ : ∃ lk, lk = (dimsL sa).length := ⟨_, rfl⟩
  rw [← hlk] at hon hwl
  have HLK := Lib.hid hlk
  have HON := Lib.hid hon
  clear hsb hlk hon HW Hmk
  have OS4' := OS4
  clear OS3 OS4'
  go_upto_block 0 with (fail)
  go_cut [17] (fun s17 wx => ∃ ul, GRs w4.heap.size wx s17 ul L ∧ Below w4.heap.size w4 wx)
  case first =>
    go_wp2_with fail
    go_loopw [17, 18] (fun s17 s18 wr => ∃ (i : Nat) (ul : List V5), s18 = .int .i64 i ∧ i ≤ m ∧ GRs w4.heap.size wr s17 ul (L.take i) ∧ Below w4.heap.size w4 wr) (fun _ s18 _ => m - (intOf s18).toNat)
    case atStart => exact ⟨0, [], rfl, Nat.zero_le _, GRs.nil _ _, Below.refl _ _⟩
    case round =>
      obtain ⟨i, ul, rfl, hi, hg, hb⟩ := hrel
      rename World => wr
      have Hg := Lib.hid hg
      have Hb := Lib.hid hb
      clear hg hb
      by_cases hlt : i < m
      · have d1 : decide ((i : Int) < (m : Int)) = true := decide_eq_true (by omega)
        obtain ⟨r, hr⟩ : ∃ r, l[i]? = some r := ⟨_, List.getElem?_eq_getElem (by rw [F.out.em]; exact hlt)⟩
        have hrm := List.mem_of_getElem? hr
        have l1 := HLQ.out r hrm
        obtain ⟨-, l2⟩ := HL4.out r hrm
        obtain ⟨ad, kv, mv, rfl, cD, cM, r1, r2⟩ := (F.out.rows.below (HB4.out.trans (Hb.out.mono HB4.out.size)) (Nat.le_refl _)).at_ F.out.small F.out.em hr
        have cM' : wr.cell? ⟨(ad.add (i * 2)).block, (ad.add (i * 2)).off + 1, none⟩ = some mv := by
          have e : ad.add (i * 2 + 1) = ⟨(ad.add (i * 2)).block, (ad.add (i * 2)).off + 1, none⟩ := by rw [← add_of_add, Addr.add, if_neg (by omega)]
          rw [← e]; exact cM
        have hww : Keeps w wr := Keeps.of_below (Hb24.out.trans (Hb.out.mono Hb24.out.size))
        have hwz : 1 < wr.heap.size := Nat.lt_of_lt_of_le hw1 (Nat.le_trans Hb24.out.size Hb.out.size)
        obtain ⟨y, hy⟩ : ∃ y, y = ofC sa r := ⟨_, rfl⟩
        have hyc : y.cnt = 1 := by rw [hy]; rfl
        have hLy : L[i]? = some y := by rw [HLL.out, List.getElem?_map, hr, hy]; rfl
        have hyk : y.key.length = lk := by rw [hy, ofC_key l1 k2 s1 s3, List.length_map, HLK.out]
        have hof : ∀ W, Keeps wr W → 1 < W.heap.size → Calls Tryd.prog 20 #[.agg #[kv, mv], .int .i64 sa] W fun e W' => ∃ v, e = .returned v ∧ AgV W.heap.size W' v y ∧ Below W.heap.size W W' := fun W hW hz => by
          refine (of_any kv mv r.key r.m r.key.length sa W rfl (r1.keep hW) (r2.keep hW) (by omega) (by omega) s1 (by rw [l1]; exact s3) ((HT.out.keep hww).keep hW) hz).mono ?_
          rintro e W' ⟨k', s', n', m', rfl, hc, hbw⟩
          refine ⟨_, rfl, ⟨k', s', n', m', by rw [hyc], ?_⟩, hbw⟩
          have e2 : (⟨ofKey r.key sa, 1, r.m, r.m, r.m⟩ : Cel) = y := by rw [hy]; unfold ofC; rw [pk_of r.key sa s1 (by rw [l1]; exact s3) (by omega)]
          rw [← e2]
          exact hc
        have hrof : ∀ W, Keeps wr W → Calls Tryd.prog 21 #[.agg #[kv, mv], .int .i64 sa] W fun e W' => ∃ v, e = .returned v ∧ AgV W.heap.size W' v y ∧ Below W.heap.size W W' := fun W hW => by
          refine (rOf_any kv mv r.key r.m sa W (r1.keep hW) (r2.keep hW) (by omega) (by omega) s1 s2).mono ?_
          rintro e W' ⟨k', s', n', m', rfl, hc, hbw⟩
          refine ⟨_, rfl, ⟨k', s', n', m', by rw [hyc], ?_⟩, hbw⟩
          rw [hy]
          exact hc
        have HOF := Lib.hid hof
        have HRO := Lib.hid hrof
        have HYC := Lib.hid hyc
        have HLY := Lib.hid hLy
        have HYK := Lib.hid hyk
        have hyo : EvenC mm y ∧ y.key.length ≤ 1000000 := HLo.out y (List.mem_of_getElem? hLy)
        have HYO := Lib.hid hyo
        have HWW := Lib.hid hww
        have HWZ := Lib.hid hwz
        have i0 : (0 : Int) ≤ (i : Int) := by omega
        have i1 : (i : Int) < (m : Int) := by omega
        have hws : w4.heap.size ≤ wr.heap.size := Hb.out.size
        have hwr : Below w4.heap.size w4 wr.drew := below_drewN Hb.out 1
        have HWR := Lib.hid hwr
        clear hr hrm l1 l2 r1 r2 cM hww hwz hy hyc hLy hyk hof hrof hyo hwr
        go_upto_region 10 with (fail)
        go_cut [19, 20] from 44 to 55 (fun s19 s20 wx => BoxC wr.heap.size wx s19 y ∧ BoxC wr.heap.size wx s20 y ∧ Below wr.heap.size wr wx)
        case first =>
          refine wp_region_held_drew (S := fun W => Keeps wr W) (by kernel_rfl) ((Keeps.refl wr).drewN 1) (fun hHeld => ?_)
          refine wpAnyH_take (i := 0) (v := ?va0) rfl (by kernel_rfl) (by kernel_rfl) (by kernel_rfl) (fun _ _ _ h => h) (Or.inl ⟨by rfl, ?ya0⟩) hHeld ?ra0
          case ya0 => (intro W hW; go_simp; first | done | with_reducible rfl)
          try simp only [List.getElem_toArray, List.getElem_cons_zero, Act.put, List.setIfInBounds_toArray, List.set_cons_zero, List.set_cons_succ]
          refine wpAnyH_take (i := 1) (v := ?va1) rfl (by kernel_rfl) (by kernel_rfl) (by kernel_rfl) (fun _ _ _ h => h) (Or.inl ⟨by rfl, ?ya1⟩) hHeld ?ra1
          case ya1 => (intro W hW; go_simp; first | done | with_reducible rfl)
          try simp only [List.getElem_toArray, List.getElem_cons_succ, List.getElem_cons_zero, Act.put, List.setIfInBounds_toArray, List.set_cons_zero, List.set_cons_succ]
          refine wpAnyH_take (i := 2) (v := ?va2) rfl (by kernel_rfl) (by kernel_rfl) (by kernel_rfl) (fun _ _ _ h => h) (Or.inl ⟨by rfl, ?ya2⟩) hHeld ?ra2
          case ya2 => (intro W hW; go_simp; first | done | with_reducible rfl)
          try simp only [List.getElem_toArray, List.getElem_cons_succ, List.getElem_cons_zero, Act.put, List.setIfInBounds_toArray, List.set_cons_zero, List.set_cons_succ]
          refine wpAnyH_take (i := 3) (v := ?va3) rfl (by kernel_rfl) (by kernel_rfl) (by kernel_rfl) (fun _ _ _ h => h) (Or.inl ⟨by rfl, ?ya3⟩) hHeld ?ra3
          case ya3 => (intro W hW; have g0 := hW _ _ cD; have g1 := hW _ _ cM'; clear hW; go_simp; first | done | with_reducible rfl)
          try simp only [List.getElem_toArray, List.getElem_cons_succ, List.getElem_cons_zero, Act.put, List.setIfInBounds_toArray, List.set_cons_zero, List.set_cons_succ]
          refine wpAnyH_take (i := 4) (v := ?va4) rfl (by kernel_rfl) (by kernel_rfl) (by kernel_rfl) (fun _ _ _ h => h) (Or.inl ⟨by rfl, ?ya4⟩) hHeld ?ra4
          case ya4 => (intro W hW; go_simp; first | done | with_reducible rfl)
          try simp only [List.getElem_toArray, List.getElem_cons_succ, List.getElem_cons_zero, Act.put, List.setIfInBounds_toArray, List.set_cons_zero, List.set_cons_succ]
          refine wpAnyH_take (i := 6) (v := ?va6) rfl (by kernel_rfl) (by kernel_rfl) (by kernel_rfl) (fun _ _ _ h => h) (Or.inl ⟨by rfl, ?ya6⟩) hHeld ?ra6
          case ya6 => (intro W hW; go_simp; first | done | with_reducible rfl)
          try simp only [List.getElem_toArray, List.getElem_cons_succ, List.getElem_cons_zero, Act.put, List.setIfInBounds_toArray, List.set_cons_zero, List.set_cons_succ]
          refine wpAnyH_take (i := 7) (v := ?va7) rfl (by kernel_rfl) (by kernel_rfl) (by kernel_rfl) (fun _ _ _ h => h) (Or.inl ⟨by rfl, ?ya7⟩) hHeld ?ra7
          case ya7 => (intro W hW; go_simp; first | done | with_reducible rfl)
          try simp only [List.getElem_toArray, List.getElem_cons_succ, List.getElem_cons_zero, Act.put, List.setIfInBounds_toArray, List.set_cons_zero, List.set_cons_succ]
          refine wpAnyH_take (i := 8) (v := ?va8) rfl (by kernel_rfl) (by kernel_rfl) (by kernel_rfl) (fun _ _ _ h => h) (Or.inl ⟨by rfl, ?ya8⟩) hHeld ?ra8
          case ya8 => (intro W hW; go_simp; first | done | with_reducible rfl)
          try simp only [List.getElem_toArray, List.getElem_cons_succ, List.getElem_cons_zero, Act.put, List.setIfInBounds_toArray, List.set_cons_zero, List.set_cons_succ]
          refine wpAnyH_take (i := 9) (v := ?va9) rfl (by kernel_rfl) (by kernel_rfl) (by kernel_rfl) (fun _ _ _ h => h) (Or.inl ⟨by rfl, ?ya9⟩) hHeld ?ra9
          case ya9 => (intro W hW; have g0 := hW _ _ cD; have g1 := hW _ _ cM'; clear hW; go_simp; first | done | with_reducible rfl)
          try simp only [List.getElem_toArray, List.getElem_cons_succ, List.getElem_cons_zero, Act.put, List.setIfInBounds_toArray, List.set_cons_zero, List.set_cons_succ]
          refine wpAnyH_take (i := 10) (v := ?va10) rfl (by kernel_rfl) (by kernel_rfl) (by kernel_rfl) (fun _ _ _ h => h) (Or.inl ⟨by rfl, ?ya10⟩) hHeld ?ra10
          case ya10 => (intro W hW; go_simp; first | done | with_reducible rfl)
          try simp only [List.getElem_toArray, List.getElem_cons_succ, List.getElem_cons_zero, Act.put, List.setIfInBounds_toArray, List.set_cons_zero, List.set_cons_succ]
          clear hHeld
          refine any_tabA 4 2 0 qL qA qD qT (fun a X => (((a.put (some 19) (X 0)).put (some 20) (X 1)).put (some 49) (X 2)).put (some 55) (X 3)) qS (fun m b X W => TwoB wr y m b X W) (fun _ _ _ _ h => Keeps.of_below h.bw) ?hchk ?hfull ?hpc ?hp0 ?hfu ?hli ?hF ?hI ?hL ?hA ?hend
          case hchk => kernel_rfl
          case hfull => decide
          case hpc => decide
          case hp0 => decide
          case hfu => rfl
          case hli => kernel_rfl
          case hF => rfl
          case hI => exact ⟨below_drewN (Below.refl _ wr) 1, fun e => by simp at e, fun e => by simp at e, fun e => by simp at e, fun j hj e => by simp at e, fun e => by omega, fun e => by omega, fun e => by omega, fun e => by omega⟩
          case hL =>
            intro j hj m' b' X W K hb4 hok ht hI hK
            have h := hK (.pointer (some ⟨W.heap.size, 0, none⟩)) (W.alloc (.cells #[.slice none 0 0, .int .i64 0, .slice none 0 0, .slice none 0 0, .slice none 0 0] 33)) (hI.alloc j hj hb4 ht hok)
            clear hK
            simp only [Act.put, List.setIfInBounds_toArray, List.set_cons_zero, List.set_cons_succ] at h ⊢
            rcases (by omega : j = 0 ∨ j = 1) with rfl | rfl
            · change wpOp _ _ _ 12 K _ W
              refine wpOp_step rfl (fun K' hK' => ?_)
              have H := Lib.hid (hK' _ _ h)
              clear h hK'
              go_simp
              exact H.out
            · change wpOp _ _ _ 13 K _ W
              refine wpOp_step rfl (fun K' hK' => ?_)
              have H := Lib.hid (hK' _ _ h)
              clear h hK'
              go_simp
              exact H.out
          case hA =>
            intro k hk b' X W K hb4 hok hI hK
            have hbits : 2 ≤ k → ∀ i, i < 2 → b'.testBit i = true := fun hk2 i hi => by
              simp only [okF, List.all_eq_true, List.mem_range] at hok
              have := hok i hi
              have h2 : decide (qD i < k + 1) = true := decide_eq_true (by show 2 < k + 1; omega)
              rw [h2] at this
              simpa using this
            simp only [Act.put, List.setIfInBounds_toArray, List.set_cons_zero, List.set_cons_succ] at hK ⊢
            rcases (by omega : k = 0 ∨ k = 1 ∨ k = 2 ∨ k = 3) with rfl | rfl | rfl | rfl
            · change wpOp _ _ _ 5 K _ W
              refine wpOp_step rfl (fun K' hK' => ?_)
              go_simp
              refine (HOF.out W (Keeps.of_below hI.bw) (Nat.lt_of_lt_of_le HWZ.out hI.bw.size)).mono ?_
              rintro e W' ⟨v, rfl, hag, hbw⟩
              have h := hK v W' (hI.call (by omega) hbw (by
                obtain ⟨k', s', n', m', e', hc'⟩ := hag
                exact ⟨k', s', n', m', e', hc'.mono hI.bw.size⟩))
              have H := Lib.hid (hK' _ _ h)
              clear h hK' hK
              exact H.out
            · change wpOp _ _ _ 11 K _ W
              refine wpOp_step rfl (fun K' hK' => ?_)
              go_simp
              refine (HRO.out W (Keeps.of_below hI.bw)).mono ?_
              rintro e W' ⟨v, rfl, hag, hbw⟩
              have h := hK v W' (hI.call (by omega) hbw (by
                obtain ⟨k', s', n', m', e', hc'⟩ := hag
                exact ⟨k', s', n', m', e', hc'.mono hI.bw.size⟩))
              have H := Lib.hid (hK' _ _ h)
              clear h hK' hK
              exact H.out
            · obtain ⟨g, Pk, lk', ck, Ps, ls, cs', Pn, ln, cn, Pm, lm, cm, e0, e2, hown, hnew⟩ := TwoB.store (j := 0) (.bool true) hI (by omega) (fun i hi _ => hbits (by omega) i hi)
              have h := hK (.bool true) _ hnew
              clear hK
              have z0 : upL X (2 + (2 + 0)) (Value.bool true) 0 = X 0 := upL_ne X _ (by decide)
              have z1 : upL X (2 + (2 + 0)) (Value.bool true) 1 = X 1 := upL_ne X _ (by decide)
              have z2 : upL X (2 + (2 + 0)) (Value.bool true) 2 = X 2 := upL_ne X _ (by decide)
              have z3 : upL X (2 + (2 + 0)) (Value.bool true) 3 = X 3 := upL_ne X _ (by decide)
              change K { tmps := _, defers := _ } _ at h
              change wpOp _ _ _ 14 K _ W
              refine wpOp_step rfl (fun K' hK' => ?_)
              have h' := hK' _ _ h
              rw [z0, z1, z2, z3, e0, e2] at h'
              have H := Lib.hid h'
              have R0 := hown.cell (i := 0) rfl
              have R1 := hown.cell (i := 1) rfl
              have R2 := hown.cell (i := 2) rfl
              have R3 := hown.cell (i := 3) rfl
              have R4 := hown.cell (i := 4) rfl
              have Rf := hown.frozen
              clear h h' hK' hnew hown hI
              rw [e0, e2]
              go_simp
              exact H.out
            · obtain ⟨g, Pk, lk', ck, Ps, ls, cs', Pn, ln, cn, Pm, lm, cm, e0, e2, hown, hnew⟩ := TwoB.store (j := 1) (.bool true) hI (by omega) (fun i hi _ => hbits (by omega) i hi)
              have h := hK (.bool true) _ hnew
              clear hK
              have z0 : upL X (2 + (2 + 1)) (Value.bool true) 0 = X 0 := upL_ne X _ (by decide)
              have z1 : upL X (2 + (2 + 1)) (Value.bool true) 1 = X 1 := upL_ne X _ (by decide)
              have z2 : upL X (2 + (2 + 1)) (Value.bool true) 2 = X 2 := upL_ne X _ (by decide)
              have z3 : upL X (2 + (2 + 1)) (Value.bool true) 3 = X 3 := upL_ne X _ (by decide)
              change K { tmps := _, defers := _ } _ at h
              change wpOp _ _ _ 15 K _ W
              refine wpOp_step rfl (fun K' hK' => ?_)
              have h' := hK' _ _ h
              rw [z0, z1, z2, z3, e0, e2] at h'
              have H := Lib.hid h'
              have R0 := hown.cell (i := 0) rfl
              have R1 := hown.cell (i := 1) rfl
              have R2 := hown.cell (i := 2) rfl
              have R3 := hown.cell (i := 3) rfl
              have R4 := hown.cell (i := 4) rfl
              have Rf := hown.frozen
              clear h h' hK' hnew hown hI
              rw [e0, e2]
              go_simp
              exact H.out
          case hend =>
            intro X W hI
            simp only [Act.put, List.setIfInBounds_toArray, List.set_cons_zero, List.set_cons_succ]
            refine wpAnyH_done (by kernel_rfl) ?_ _
            go_wp2
            go_meet
            exact ⟨hI.d0 (by omega), hI.d1 (by omega), hI.bw⟩
        case rest =>
          rename World => wy
          obtain ⟨⟨gx, kx, sx, nx, mx, rfl, -, ox, cox⟩, ⟨gy, ky, sy, ny, my, rfl, -, oy, coy⟩, bw⟩ := hcut
          have kp := Keeps.of_below bw
          have sz := bw.size
          obtain ⟨Ak, ak, f1, -⟩ := cox.key.form
          obtain ⟨As, sa', f2, -⟩ := cox.sum.form
          obtain ⟨An, an, f3, -⟩ := cox.mn.form
          obtain ⟨Am, am, f4, -⟩ := cox.mx.form
          obtain ⟨Bk, bk, g1, -⟩ := coy.key.form
          obtain ⟨Bs, bs', g2, -⟩ := coy.sum.form
          obtain ⟨Bn, bn, g3, -⟩ := coy.mn.form
          obtain ⟨Bm, bm, g4, -⟩ := coy.mx.form
          have CX := Lib.hid cox.cr
          have CY := Lib.hid coy.cr
          have COY := Lib.hid coy
          obtain ⟨⟨e1, e2, e3⟩, e4⟩ := HYO.out
          have hT2 := HT.out.keep (HWW.out.trans kp)
          have hz2 : 1 < wy.heap.size := Nat.lt_of_lt_of_le HWZ.out sz
          have hin : inK .i64 y.cnt := by rw [HYC.out]; exact ⟨by show (-9223372036854775808 : Int) ≤ 1; omega, by show (1 : Int) ≤ 9223372036854775807; omega⟩
          have hnw : EvenC mm (nw sa sb y) ∧ (nw sa sb y).key.length ≤ 1000000 := ⟨HYO.out.1, by
            have := dims_len b1 b2
            show ((dimsL sb).map (pick y.key sa)).length ≤ 1000000
            rw [List.length_map]
            omega⟩
          have HB := Lib.hid (Hb.out.trans (bw.mono Hb.out.size))
          have HGy := Lib.hid (Hg.out.below bw)
          have N1 := fun (W : World) (hW : Keeps wy W) (hz : 1 < W.heap.size) => narrow_any _ _ _ _ y sa sb lk W HYK.out.symm (CY.out.keep hW) s1 s2 b1 b2 b3 HON.out (by omega) (by omega) (by omega) (hT2.keep hW) hz
          have N2 := fun (W : World) (hW : Keeps wy W) => rNarrow_any _ _ _ _ y sa sb lk W HYK.out.symm (CY.out.keep hW) s1 s2 b1 b2 b3 HON.out (by omega) (by omega) (by omega)
          have J1 := fun (W : World) (hW : Keeps wy W) => join_any _ _ _ _ _ _ _ _ y y mm W (CX.out.keep hW) (CX.out.keep hW) rfl HYO.out.1 HYO.out.1 e4 (by omega) hin hin
          have J2 := fun (W : World) (hW : Keeps wy W) => rJoin_any _ _ _ _ _ _ _ _ y y mm W (CY.out.keep hW) (CY.out.keep hW) HYO.out.1 HYO.out.1 e4 (by omega) hin hin
          have E0 := fun (W : World) (hW : Keeps wy W) => equal_yes _ _ _ _ _ _ _ _ y W (CX.out.keep hW) (CY.out.keep hW) e4 (by omega) (by omega) (by omega)
          have EN := Lib.hid (fun (k s n m k' s' n' m' : Value) (W : World) (h1 : CR W k s n m (nw sa sb y)) (h2 : CR W k' s' n' m' (nw sa sb y)) => equal_yes k s n m k' s' n' m' (nw sa sb y) W h1 h2 hnw.2 (by have := hnw.1.1; omega) (by have := hnw.1.2.1; omega) (by have := hnw.1.2.2; omega))
          have ej := join2_even HYO.out.1 HYO.out.1
          have EJ := Lib.hid (fun (k s n m k' s' n' m' : Value) (W : World) (h1 : CR W k s n m (join2 y y)) (h2 : CR W k' s' n' m' (join2 y y)) => equal_yes k s n m k' s' n' m' (join2 y y) W h1 h2 e4 (by have := ej.1; omega) (by have := ej.2.1; omega) (by have := ej.2.2; omega))
          have a0' := ox.cell (i := 0) rfl
          have a1' := ox.cell (i := 1) rfl
          have a2' := ox.cell (i := 2) rfl
          have a3' := ox.cell (i := 3) rfl
          have a4' := ox.cell (i := 4) rfl
          have c0' := oy.cell (i := 0) rfl
          have c1' := oy.cell (i := 1) rfl
          have c2' := oy.cell (i := 2) rfl
          have c3' := oy.cell (i := 3) rfl
          have c4' := oy.cell (i := 4) rfl
          rw [HYC.out] at a1' c1'
          simp only [HYC.out] at N1 N2 J1 J2 E0
          rw [show (nw sa sb y).cnt = 1 from HYC.out] at EN
          obtain ⟨jc, hjc⟩ : ∃ jc, jc = (join2 y y).cnt := ⟨_, rfl⟩
          simp only [← hjc] at J1 J2 
          rw [← hjc] at EJ
          have HN1 := Lib.hid N1
          have HN2 := Lib.hid N2
          have HJ1 := Lib.hid J1
          have HJ2 := Lib.hid J2
          have HE0 := Lib.hid E0
          obtain ⟨lk1, hlk1⟩ : ∃ q, q = y.key.length := ⟨_, rfl⟩
          obtain ⟨ls1, hls1⟩ : ∃ q, q = y.sum.length := ⟨_, rfl⟩
          obtain ⟨ln1, hln1⟩ : ∃ q, q = y.mn.length := ⟨_, rfl⟩
          obtain ⟨lm1, hlm1⟩ : ∃ q, q = y.mx.length := ⟨_, rfl⟩
          rw [← hlk1] at f1 g1
          rw [← hls1] at f2 g2
          rw [← hln1] at f3 g3
          rw [← hlm1] at f4 g4
          subst f1 f2 f3 f4 g1 g2 g3 g4
          have kw : Keeps wy wy.drew := (Keeps.refl wy).drewN 1
          have BW := Lib.hid (show Below wy.heap.size wy wy.drew from below_drewN (Below.refl _ _) 1)
          clear N1 N2 J1 J2 E0 cox coy ox oy hT2 kp bw sz hin hnw ej hjc hlk1 hls1 hln1 hlm1 e1 e2 e3 e4 Hg cD cM'
          go_upto_region 11 with (fail)
          refine wp_region_held_drew (S := fun W => Keeps wy W) (by kernel_rfl) kw (fun hHeld => ?_)
          refine wpAnyH_take (i := 0) (v := ?vb0) rfl (by kernel_rfl) (by kernel_rfl) (by kernel_rfl) (fun _ _ _ h => h) (Or.inl ⟨by rfl, ?yb0⟩) hHeld ?rb0
          case yb0 => (intro W hW; have g0 := hW _ _ a0'; have g1 := hW _ _ a1'; have g2 := hW _ _ a2'; have g3 := hW _ _ a3'; have g4 := hW _ _ a4'; clear hW; go_simp; first | done | with_reducible rfl)
          try simp only [List.getElem_toArray, List.getElem_cons_zero, Act.put, List.setIfInBounds_toArray, List.set_cons_zero, List.set_cons_succ]
          refine wpAnyH_take (i := 1) (v := ?vb1) rfl (by kernel_rfl) (by kernel_rfl) (by kernel_rfl) (fun _ _ _ h => h) (Or.inl ⟨by rfl, ?yb1⟩) hHeld ?rb1
          case yb1 => (intro W hW; have g0 := hW _ _ c0'; have g1 := hW _ _ c1'; have g2 := hW _ _ c2'; have g3 := hW _ _ c3'; have g4 := hW _ _ c4'; clear hW; go_simp; first | done | with_reducible rfl)
          try simp only [List.getElem_toArray, List.getElem_cons_succ, List.getElem_cons_zero, Act.put, List.setIfInBounds_toArray, List.set_cons_zero, List.set_cons_succ]
          refine wpAnyH_ready (rs := [2]) (by kernel_rfl) (by simp) ?_
          refine AllReadyH.cons rfl (fun K hK => ?_) (AllReadyH.nil)
          go_simp
          refine (HE0.out _ kw).mono ?_
          rintro e V1 ⟨rfl, hbv⟩
          have BW' := Lib.hid (BW.out.trans (hbv.mono BW.out.size))
          clear hbv BW
          have BW := BW'
          clear BW'
          refine hK.out _ _ (Keeps.of_below BW.out) (fun hHeld => ?_)
          clear hK K
          try simp only [List.getElem_toArray, List.getElem_cons_succ, List.getElem_cons_zero, Act.put, List.setIfInBounds_toArray, List.set_cons_zero, List.set_cons_succ]
          refine wpAnyH_take (i := 3) (v := ?vb3) rfl (by kernel_rfl) (by kernel_rfl) (by kernel_rfl) (fun _ _ _ h => h) (Or.inl ⟨by rfl, ?yb3⟩) hHeld ?rb3
          case yb3 => (intro W hW; go_simp; first | done | with_reducible rfl)
          try simp only [List.getElem_toArray, List.getElem_cons_succ, List.getElem_cons_zero, Act.put, List.setIfInBounds_toArray, List.set_cons_zero, List.set_cons_succ]
          refine wpAnyH_take (i := 4) (v := ?vb4) rfl (by kernel_rfl) (by kernel_rfl) (by kernel_rfl) (fun _ _ _ h => h) (Or.inl ⟨by rfl, ?yb4⟩) hHeld ?rb4
          case yb4 => (intro W hW; go_simp; first | done | with_reducible rfl)
          try simp only [List.getElem_toArray, List.getElem_cons_succ, List.getElem_cons_zero, Act.put, List.setIfInBounds_toArray, List.set_cons_zero, List.set_cons_succ]
          refine wpAnyH_take (i := 5) (v := ?vb5) rfl (by kernel_rfl) (by kernel_rfl) (by kernel_rfl) (fun _ _ _ h => h) (Or.inl ⟨by rfl, ?yb5⟩) hHeld ?rb5
          case yb5 => (intro W hW; have g0 := hW _ _ c0'; have g1 := hW _ _ c1'; have g2 := hW _ _ c2'; have g3 := hW _ _ c3'; have g4 := hW _ _ c4'; clear hW; go_simp; first | done | with_reducible rfl)
          try simp only [List.getElem_toArray, List.getElem_cons_succ, List.getElem_cons_zero, Act.put, List.setIfInBounds_toArray, List.set_cons_zero, List.set_cons_succ]
          refine wpAnyH_take (i := 6) (v := ?vb6) rfl (by kernel_rfl) (by kernel_rfl) (by kernel_rfl) (fun _ _ _ h => h) (Or.inl ⟨by rfl, ?yb6⟩) hHeld ?rb6
          case yb6 => (intro W hW; go_simp; first | done | with_reducible rfl)
          try simp only [List.getElem_toArray, List.getElem_cons_succ, List.getElem_cons_zero, Act.put, List.setIfInBounds_toArray, List.set_cons_zero, List.set_cons_succ]
          refine wpAnyH_take (i := 7) (v := ?vb7) rfl (by kernel_rfl) (by kernel_rfl) (by kernel_rfl) (fun _ _ _ h => h) (Or.inl ⟨by rfl, ?yb7⟩) hHeld ?rb7
          case yb7 => (intro W hW; go_simp; first | done | with_reducible rfl)
          try simp only [List.getElem_toArray, List.getElem_cons_succ, List.getElem_cons_zero, Act.put, List.setIfInBounds_toArray, List.set_cons_zero, List.set_cons_succ]
          refine wpAnyH_take (i := 9) (v := ?vb9) rfl (by kernel_rfl) (by kernel_rfl) (by kernel_rfl) (fun _ _ _ h => h) (Or.inl ⟨by rfl, ?yb9⟩) hHeld ?rb9
          case yb9 => (intro W hW; have g0 := hW _ _ c0'; have g1 := hW _ _ c1'; have g2 := hW _ _ c2'; have g3 := hW _ _ c3'; have g4 := hW _ _ c4'; clear hW; go_simp; first | done | with_reducible rfl)
          try simp only [List.getElem_toArray, List.getElem_cons_succ, List.getElem_cons_zero, Act.put, List.setIfInBounds_toArray, List.set_cons_zero, List.set_cons_succ]
          refine wpAnyH_take (i := 10) (v := ?vb10) rfl (by kernel_rfl) (by kernel_rfl) (by kernel_rfl) (fun _ _ _ h => h) (Or.inl ⟨by rfl, ?yb10⟩) hHeld ?rb10
          case yb10 => (intro W hW; go_simp; first | done | with_reducible rfl)
          try simp only [List.getElem_toArray, List.getElem_cons_succ, List.getElem_cons_zero, Act.put, List.setIfInBounds_toArray, List.set_cons_zero, List.set_cons_succ]
          refine wpAnyH_take (i := 11) (v := ?vb11) rfl (by kernel_rfl) (by kernel_rfl) (by kernel_rfl) (fun _ _ _ h => h) (Or.inl ⟨by rfl, ?yb11⟩) hHeld ?rb11
          case yb11 => (intro W hW; go_simp; first | done | with_reducible rfl)
          try simp only [List.getElem_toArray, List.getElem_cons_succ, List.getElem_cons_zero, Act.put, List.setIfInBounds_toArray, List.set_cons_zero, List.set_cons_succ]
          refine wpAnyH_ready (rs := [8]) (by kernel_rfl) (by simp) ?_
          refine AllReadyH.cons rfl (fun K hK => ?_) (AllReadyH.nil)
          go_simp
          refine (HN1.out _ (Keeps.of_below BW.out) (Nat.lt_of_lt_of_le hz2 BW.out.size)).mono ?_
          rintro e V2 ⟨k2', s2', n2', m2', rfl, hco, hbv⟩
          have BW' := Lib.hid (BW.out.trans (hbv.mono BW.out.size))
          have CA := Lib.hid (show CR V2 k2' s2' n2' m2' (nw sa sb y) from ⟨hco.cr.key, hco.cr.sum, hco.cr.mn, hco.cr.mx⟩)
          clear hco
          clear hbv BW
          have BW := BW'
          clear BW'
          refine hK.out _ _ (Keeps.of_below BW.out) (fun hHeld => ?_)
          clear hK K
          try simp only [List.getElem_toArray, List.getElem_cons_succ, List.getElem_cons_zero, Act.put, List.setIfInBounds_toArray, List.set_cons_zero, List.set_cons_succ]
          refine wpAnyH_ready (rs := [12]) (by kernel_rfl) (by simp) ?_
          refine AllReadyH.cons rfl (fun K hK => ?_) (AllReadyH.nil)
          go_simp
          refine (HN2.out _ (Keeps.of_below BW.out)).mono ?_
          rintro e V3 ⟨k3', s3', n3', m3', rfl, hco, hbv⟩
          have BW' := Lib.hid (BW.out.trans (hbv.mono BW.out.size))
          have CB := Lib.hid hco.cr
          have CA' := Lib.hid (CA.out.keep (Keeps.of_below hbv))
          clear hco
          clear hbv BW
          have BW := BW'
          clear BW'
          refine hK.out _ _ (Keeps.of_below BW.out) (fun hHeld => ?_)
          clear hK K
          try simp only [List.getElem_toArray, List.getElem_cons_succ, List.getElem_cons_zero, Act.put, List.setIfInBounds_toArray, List.set_cons_zero, List.set_cons_succ]
          refine wpAnyH_ready (rs := [13]) (by kernel_rfl) (by simp) ?_
          refine AllReadyH.cons rfl (fun K hK => ?_) (AllReadyH.nil)
          go_simp
          refine (EN.out _ _ _ _ _ _ _ _ _ CA'.out CB.out).mono ?_
          rintro e V4 ⟨rfl, hbv⟩
          have BW' := Lib.hid (BW.out.trans (hbv.mono BW.out.size))
          clear hbv BW
          have BW := BW'
          clear BW'
          refine hK.out _ _ (Keeps.of_below BW.out) (fun hHeld => ?_)
          clear hK K
          try simp only [List.getElem_toArray, List.getElem_cons_succ, List.getElem_cons_zero, Act.put, List.setIfInBounds_toArray, List.set_cons_zero, List.set_cons_succ]
          refine wpAnyH_take (i := 14) (v := ?vb14) rfl (by kernel_rfl) (by kernel_rfl) (by kernel_rfl) (fun _ _ _ h => h) (Or.inl ⟨by rfl, ?yb14⟩) hHeld ?rb14
          case yb14 => (intro W hW; go_simp; first | done | with_reducible rfl)
          try simp only [List.getElem_toArray, List.getElem_cons_succ, List.getElem_cons_zero, Act.put, List.setIfInBounds_toArray, List.set_cons_zero, List.set_cons_succ]
          refine wpAnyH_take (i := 15) (v := ?vb15) rfl (by kernel_rfl) (by kernel_rfl) (by kernel_rfl) (fun _ _ _ h => h) (Or.inl ⟨by rfl, ?yb15⟩) hHeld ?rb15
          case yb15 => (intro W hW; go_simp; first | done | with_reducible rfl)
          try simp only [List.getElem_toArray, List.getElem_cons_succ, List.getElem_cons_zero, Act.put, List.setIfInBounds_toArray, List.set_cons_zero, List.set_cons_succ]
          refine wpAnyH_take (i := 16) (v := ?vb16) rfl (by kernel_rfl) (by kernel_rfl) (by kernel_rfl) (fun _ _ _ h => h) (Or.inl ⟨by rfl, ?yb16⟩) hHeld ?rb16
          case yb16 => (intro W hW; go_simp; first | done | with_reducible rfl)
          try simp only [List.getElem_toArray, List.getElem_cons_succ, List.getElem_cons_zero, Act.put, List.setIfInBounds_toArray, List.set_cons_zero, List.set_cons_succ]
          refine wpAnyH_take (i := 17) (v := ?vb17) rfl (by kernel_rfl) (by kernel_rfl) (by kernel_rfl) (fun _ _ _ h => h) (Or.inl ⟨by rfl, ?yb17⟩) hHeld ?rb17
          case yb17 => (intro W hW; have g0 := hW _ _ a0'; have g1 := hW _ _ a1'; have g2 := hW _ _ a2'; have g3 := hW _ _ a3'; have g4 := hW _ _ a4'; clear hW; go_simp; first | done | with_reducible rfl)
          try simp only [List.getElem_toArray, List.getElem_cons_succ, List.getElem_cons_zero, Act.put, List.setIfInBounds_toArray, List.set_cons_zero, List.set_cons_succ]
          refine wpAnyH_take (i := 18) (v := ?vb18) rfl (by kernel_rfl) (by kernel_rfl) (by kernel_rfl) (fun _ _ _ h => h) (Or.inl ⟨by rfl, ?yb18⟩) hHeld ?rb18
          case yb18 => (intro W hW; have g0 := hW _ _ a0'; have g1 := hW _ _ a1'; have g2 := hW _ _ a2'; have g3 := hW _ _ a3'; have g4 := hW _ _ a4'; clear hW; go_simp; first | done | with_reducible rfl)
          try simp only [List.getElem_toArray, List.getElem_cons_succ, List.getElem_cons_zero, Act.put, List.setIfInBounds_toArray, List.set_cons_zero, List.set_cons_succ]
          refine wpAnyH_take (i := 20) (v := ?vb20) rfl (by kernel_rfl) (by kernel_rfl) (by kernel_rfl) (fun _ _ _ h => h) (Or.inl ⟨by rfl, ?yb20⟩) hHeld ?rb20
          case yb20 => (intro W hW; have g0 := hW _ _ c0'; have g1 := hW _ _ c1'; have g2 := hW _ _ c2'; have g3 := hW _ _ c3'; have g4 := hW _ _ c4'; clear hW; go_simp; first | done | with_reducible rfl)
          try simp only [List.getElem_toArray, List.getElem_cons_succ, List.getElem_cons_zero, Act.put, List.setIfInBounds_toArray, List.set_cons_zero, List.set_cons_succ]
          refine wpAnyH_take (i := 21) (v := ?vb21) rfl (by kernel_rfl) (by kernel_rfl) (by kernel_rfl) (fun _ _ _ h => h) (Or.inl ⟨by rfl, ?yb21⟩) hHeld ?rb21
          case yb21 => (intro W hW; have g0 := hW _ _ c0'; have g1 := hW _ _ c1'; have g2 := hW _ _ c2'; have g3 := hW _ _ c3'; have g4 := hW _ _ c4'; clear hW; go_simp; first | done | with_reducible rfl)
          try simp only [List.getElem_toArray, List.getElem_cons_succ, List.getElem_cons_zero, Act.put, List.setIfInBounds_toArray, List.set_cons_zero, List.set_cons_succ]
          refine wpAnyH_ready (rs := [19]) (by kernel_rfl) (by simp) ?_
          refine AllReadyH.cons rfl (fun K hK => ?_) (AllReadyH.nil)
          go_simp
          refine (HJ1.out _ (Keeps.of_below BW.out)).mono ?_
          rintro e V5 ⟨k5', s5', n5', m5', rfl, hco, hbv⟩
          have BW' := Lib.hid (BW.out.trans (hbv.mono BW.out.size))
          have CC := Lib.hid hco.cr
          clear hco
          clear hbv BW
          have BW := BW'
          clear BW'
          refine hK.out _ _ (Keeps.of_below BW.out) (fun hHeld => ?_)
          clear hK K
          try simp only [List.getElem_toArray, List.getElem_cons_succ, List.getElem_cons_zero, Act.put, List.setIfInBounds_toArray, List.set_cons_zero, List.set_cons_succ]
          refine wpAnyH_ready (rs := [22]) (by kernel_rfl) (by simp) ?_
          refine AllReadyH.cons rfl (fun K hK => ?_) (AllReadyH.nil)
          go_simp
          refine (HJ2.out _ (Keeps.of_below BW.out)).mono ?_
          rintro e V6 ⟨k6', s6', n6', m6', rfl, hco, hbv⟩
          have BW' := Lib.hid (BW.out.trans (hbv.mono BW.out.size))
          have CD := Lib.hid hco.cr
          have CC' := Lib.hid (CC.out.keep (Keeps.of_below hbv))
          clear hco
          clear hbv BW
          have BW := BW'
          clear BW'
          refine hK.out _ _ (Keeps.of_below BW.out) (fun hHeld => ?_)
          clear hK K
          try simp only [List.getElem_toArray, List.getElem_cons_succ, List.getElem_cons_zero, Act.put, List.setIfInBounds_toArray, List.set_cons_zero, List.set_cons_succ]
          refine wpAnyH_ready (rs := [23]) (by kernel_rfl) (by simp) ?_
          refine AllReadyH.cons rfl (fun K hK => ?_) (AllReadyH.nil)
          go_simp
          refine (EJ.out _ _ _ _ _ _ _ _ _ CC'.out CD.out).mono ?_
          rintro e V7 ⟨rfl, hbv⟩
          have BW' := Lib.hid (BW.out.trans (hbv.mono BW.out.size))
          clear hbv BW
          have BW := BW'
          clear BW'
          refine hK.out _ _ (Keeps.of_below BW.out) (fun hHeld => ?_)
          clear hK K
          try simp only [List.getElem_toArray, List.getElem_cons_succ, List.getElem_cons_zero, Act.put, List.setIfInBounds_toArray, List.set_cons_zero, List.set_cons_succ]
          refine wpAnyH_take (i := 24) (v := ?vb24) rfl (by kernel_rfl) (by kernel_rfl) (by kernel_rfl) (fun _ _ _ h => h) (Or.inl ⟨by rfl, ?yb24⟩) hHeld ?rb24
          case yb24 => (intro W hW; go_simp; first | done | with_reducible rfl)
          try simp only [List.getElem_toArray, List.getElem_cons_succ, List.getElem_cons_zero, Act.put, List.setIfInBounds_toArray, List.set_cons_zero, List.set_cons_succ]
          refine wpAnyH_take (i := 25) (v := ?vb25) rfl (by kernel_rfl) (by kernel_rfl) (by kernel_rfl) (fun _ _ _ h => h) (Or.inl ⟨by rfl, ?yb25⟩) hHeld ?rb25
          case yb25 => (intro W hW; go_simp; first | done | with_reducible rfl)
          try simp only [List.getElem_toArray, List.getElem_cons_succ, List.getElem_cons_zero, Act.put, List.setIfInBounds_toArray, List.set_cons_zero, List.set_cons_succ]
          refine wpAnyH_done (by kernel_rfl) ?_ _
          have hq : OwnC w4.heap.size V7 ⟨.slice Bk lk1 bk, .int .i64 1, .slice Bs ls1 bs', .slice Bn ln1 bn, .slice Bm lm1 bm⟩ y := ⟨by rw [HYC.out], (COY.out.below BW.out).mono hws, by rw [HYC.out]; exact ⟨by show (-9223372036854775808 : Int) ≤ 1; omega, by show (1 : Int) ≤ 9223372036854775807; omega⟩⟩
          have hgv := HGy.out.below BW.out
          have hbv := HB.out.trans (BW.out.mono HB.out.size)
          have hul := hgv.len
          rw [List.length_take] at hul
          obtain ⟨v', X3, hrun, hg3, hgr3, -⟩ := append_one hgv hq (by omega) hbv.size
          have hbX := hbv.alloc hbv.size (.cells #[.slice Bk lk1 bk, .int .i64 1, .slice Bs ls1 bs', .slice Bn ln1 bn, .slice Bm lm1 bm] 33)
          have hbF := hbX.grown hgr3 hbX.size fun j e => (hgv.1.lt j e).1
          have ht : L.take (i + 1) = L.take i ++ [y] := by rw [List.take_add_one, HLY.out]; rfl
          rw [← ht] at hg3
          have HG3 := Lib.hid hg3
          have HBF := Lib.hid hbF
          have Hrun := Lib.hid hrun
          have d0' := Keeps.of_below BW.out _ _ c0'
          have d1' := Keeps.of_below BW.out _ _ c1'
          have d2' := Keeps.of_below BW.out _ _ c2'
          have d3' := Keeps.of_below BW.out _ _ c3'
          have d4' := Keeps.of_below BW.out _ _ c4'
          clear hq hgv hbv hul hrun hg3 hgr3 hbX hbF ht
          go_wp2_with (at_builtin; have _t := Hrun; refine wpList_append_eq rfl (.tmp 82) (.tmp 84) 31 rfl _ _ _ _ rfl rfl Hrun.out ?_; clear _t Hrun)
          go_roundw
          case rel => exact ⟨i + 1, _, by go_num, by omega, HG3.out, HBF.out⟩
          case measure => simp [intOf]; omega
      · obtain rfl : i = m := by omega
        have d1 : decide ((i : Int) < (i : Int)) = false := by simp
        have hfin := Hg.out
        rw [List.take_of_length_le (by rw [HLm.out]; exact Nat.le_refl _)] at hfin
        have HF := Lib.hid hfin
        clear hfin
        go_wp2
        go_meet
        exact ⟨ul, HF.out, Hb.out⟩
  case rest =>
    rename World => wx
    obtain ⟨ul, hg, hb⟩ := hcut
    obtain ⟨Px, cx, fx, -⟩ := hg.form
    have hul := hg.len
    rw [HLm.out] at hul
    rw [hul] at fx
    subst fx
    obtain ⟨NG, hNG⟩ : ∃ NG, NG = (grpR L).length := ⟨_, rfl⟩
    have HNG := Lib.hid hNG
    have HGo := Lib.hid (grp_ok HLo.out)
    have hNG4 : NG ≤ 40 := by
      have := grp_le L
      have := HLm.out
      omega
    have HR := Lib.hid hg.rowC.1
    have HBF := Lib.hid hb
    have H24 := HB4
    have HRG := Lib.hid (fun (W : World) (hW : RowC W Px m L) => rGroup_any Px cx m mm L W hW HLo.out (by omega) HLm.out.symm (by omega))
    clear hg hul hNG hb
    go_wp2_with fail
    refine (GRP.out Px cx m L wx HR.out HLo.out HLm.out.symm (by omega)).mono ?_
    rintro e V1 ⟨v1, u1, rfl, g1, b1'⟩
    obtain ⟨P1, d1, f1, -⟩ := g1.form
    have l1 : u1.length = NG := by rw [g1.len, HNG.out]
    rw [l1] at f1
    subst f1
    have R1 := Lib.hid g1.rowC.1
    have BV1 := Lib.hid (HBF.out.trans (b1'.mono HBF.out.size))
    have HR1 := Lib.hid (HR.out.keep (Keeps.of_below b1'))
    clear g1 b1' l1
    go_wp2_with fail
    refine (HRG.out V1 HR1.out).mono ?_
    rintro e V2 ⟨v2, u2, rfl, g2, b2'⟩
    obtain ⟨P2, d2, f2, -⟩ := g2.form
    have l2 : u2.length = NG := by rw [g2.len, HNG.out]
    rw [l2] at f2
    subst f2
    have R2 := Lib.hid g2.rowC.1
    have R12 := Lib.hid (R1.out.keep (Keeps.of_below b2'))
    have BV2 := Lib.hid (BV1.out.trans (b2'.mono BV1.out.size))
    have HR2 := Lib.hid (HR1.out.keep (Keeps.of_below b2'))
    clear g2 b2' l2
    go_wp2_with fail
    refine (HSM.out P1 P2 NG d1 d2 _ _ R12.out R2.out HNG.out HGo.out (by omega)).mono ?_
    rintro e V3 ⟨rfl, b3'⟩
    have BV3 := Lib.hid (BV2.out.trans (b3'.mono BV2.out.size))
    have HR3 := Lib.hid (HR2.out.keep (Keeps.of_below b3'))
    clear b3'
    go_wp2_with fail
    refine (GRP.out Px cx m L V3 HR3.out HLo.out HLm.out.symm (by omega)).mono ?_
    rintro e V4 ⟨v4, u4, rfl, g4, b4'⟩
    obtain ⟨P4, d4, f4, -⟩ := g4.form
    have l4 : u4.length = NG := by rw [g4.len, HNG.out]
    rw [l4] at f4
    subst f4
    have R4 := Lib.hid g4.rowC.1
    have BV4 := Lib.hid (BV3.out.trans (b4'.mono BV3.out.size))
    clear g4 b4' l4
    go_wp2_with fail
    refine (HFA.out sa _ (H24.out.trans (BV4.out.mono H24.out.size)) s1 s2).mono ?_
    rintro e V5 ⟨v5, u5, rfl, g5, b5'⟩
    rw [← HLL.out] at g5
    obtain ⟨P5, d5, f5, -⟩ := g5.form
    have l5 : u5.length = NG := by rw [g5.len, HNG.out]
    rw [l5] at f5
    subst f5
    have R5 := Lib.hid g5.rowC.1
    have R45 := Lib.hid (R4.out.keep (Keeps.of_below b5'))
    have BV5 := Lib.hid (BV4.out.trans (b5'.mono BV4.out.size))
    clear g5 b5' l5
    go_wp2_with fail
    refine (HSM.out P4 P5 NG d4 d5 _ _ R45.out R5.out HNG.out HGo.out (by omega)).mono ?_
    rintro e V6 ⟨rfl, b6'⟩
    have BV6 := Lib.hid (BV5.out.trans (b6'.mono BV5.out.size))
    clear b6'
    go_wp2
    go_ret
    exact ⟨rfl, Hb24.out.trans (BV6.out.mono Hb24.out.size)⟩
end Go.Proofs.YtbkcclmhgnplcaaDoor
