/- Package sorts: prices. -/
import Derived.Test.YtjllmladhjbnaaaDoorSize
import Derived.Test.YtjllmladhjbnaaaDoorParN
import Derived.Test.YtjllmladhjbnaaaDoorSrtA
import Derived.Test.YtjllmladhjbnaaaDoorMatUA
import Derived.Test.YtjllmladhjbnaaaDoorFactsLaw8
import Derived.Test.YtjllmladhjbnaaaDoorLev
namespace Go.Proofs.YtjllmladhjbnaaaDoor
open Go.RowKit Go.Shelf
attribute [local go_sem] Oper.semAt_some
/-- A schema that may be, and how many rows, as both prices hang on. -/
structure FQ (w : World) (A : Option Addr) (q : Nat) (mm : Nat) (cs : List Int) (n : Int) : Prop where
  nums : Nums .i64 w A q cs
  q1 : 1 ≤ q
  q4 : q ≤ 4
  m2 : mm ≤ 2
  c : ∀ x ∈ cs, 1 ≤ x ∧ x ≤ 16
  n0 : 0 ≤ n
  n3 : n ≤ 300
  tab : Tab w
  w1 : 1 < w.heap.size
section
variable {w w' : World} {A : Option Addr} {q mm : Nat} {cs : List Int} {n : Int}
theorem FQ.len (h : FQ w A q mm cs n) : cs.length = q := h.nums.len
theorem FQ.good (h : FQ w A q mm cs n) : Good cs n := ⟨h.c, by rw [h.len]; exact h.q1, by rw [h.len]; exact h.q4, h.n0, h.n3⟩
theorem FQ.below {B : Nat} (h : FQ w A q mm cs n) (hb : Below B w w') (hB : w.heap.size ≤ B) : FQ w' A q mm cs n :=
  ⟨h.nums.keep (Keeps.of_below (hb.mono hB)), h.q1, h.q4, h.m2, h.c, h.n0, h.n3, h.tab.below (hb.mono hB) h.w1, Nat.lt_of_lt_of_le h.w1 hb.size⟩
theorem FQ.drew (h : FQ w A q mm cs n) : FQ w.drew A q mm cs n := h.below ((Below.refl w.heap.size w).drew) (Nat.le_refl _)
end
theorem below_box (w : World) (o : Obj) : Below w.heap.size w (w.alloc o) := (Below.refl _ w).alloc (Nat.le_refl _) o
end Go.Proofs.YtjllmladhjbnaaaDoor
/- Package sorts: the cheapest parent. -/
namespace Go.Proofs.YtjllmladhjbnaaaDoor
open Go.RowKit Go.Shelf
attribute [local go_sem] Oper.semAt_some
theorem add0' (a : Addr) : a.add 0 = a := by simp [Addr.add]
theorem cmpI_neg (x y : Int) : cmpI x y < 0 ↔ x < y := by
  unfold cmpI
  split
  · simp; assumption
  · split <;> simp <;> omega
end Go.Proofs.YtjllmladhjbnaaaDoor
/- Package sorts: where a number is, whether it is there; what may be asked. -/
namespace Go.Proofs.YtjllmladhjbnaaaDoor
open Go.RowKit Go.Shelf
attribute [local go_sem] Oper.semAt_some
/-- Where a number is first; -1: nowhere. -/
def idxI (xs : List Int) (v : Int) : Int := match xs.findIdx? (· == v) with | some k => (k : Int) | none => -1
theorem idxI_at {xs : List Int} {v : Int} {k : Nat} (h : xs[k]? = some v) (hno : ∀ j, j < k → xs[j]? ≠ some v) : idxI xs v = k := by
  have : xs.findIdx? (· == v) = some k := by
    rw [List.findIdx?_eq_some_iff_getElem]
    obtain ⟨h1, h2⟩ := List.getElem?_eq_some_iff.1 h
    refine ⟨h1, by simp [h2], fun j hj hb => ?_⟩
    have hjl : j < xs.length := by omega
    exact hno j hj (by rw [List.getElem?_eq_getElem hjl]; simpa using hb)
  unfold idxI
  rw [this]
theorem idxI_none {xs : List Int} {v : Int} (h : v ∉ xs) : idxI xs v = -1 := by
  have : xs.findIdx? (· == v) = none := by
    rw [List.findIdx?_eq_none_iff]
    intro x hx
    have : x ≠ v := fun e => h (e ▸ hx)
    simpa using this
  unfold idxI
  rw [this]
theorem idxI_nn (xs : List Int) (v : Int) : 0 ≤ idxI xs v ↔ v ∈ xs := by
  constructor
  · intro h
    apply Classical.byContradiction
    intro hn
    rw [idxI_none hn] at h
    omega
  · intro h
    unfold idxI
    cases hf : xs.findIdx? (· == v) with
    | none => rw [List.findIdx?_eq_none_iff] at hf; exact absurd (hf v h) (by simp)
    | some k => simp
end Go.Proofs.YtjllmladhjbnaaaDoor
/- Edges in memory: rows of three cells. -/
namespace Go.Proofs.YtjllmladhjbnaaaDoor
open Go.RowKit Go.Shelf
/-- An edge, as a value. -/
def eC (e : Ed) : List Value := [.int .i64 e.s, .int .i64 e.p, .bool e.sc]
def eV (e : Ed) : Value := .agg #[.int .i64 e.s, .int .i64 e.p, .bool e.sc]
def eCs (es : List Ed) : List Value := es.flatMap eC
theorem eCs_len (es : List Ed) : (eCs es).length = es.length * 3 := by
  induction es with
  | nil => rfl
  | cons e t ih => rw [eCs, List.flatMap_cons, List.length_append, ← eCs, ih, List.length_cons]; simp [eC]; omega
theorem eCs_at : ∀ (es : List Ed) (j r : Nat) (e : Ed), r < 3 → es[j]? = some e → (eCs es)[j * 3 + r]? = (eC e)[r]?
  | [], _, _, _, _, h => by simp at h
  | a :: t, 0, r, e, hr, h => by
    simp at h
    subst h
    rw [eCs, List.flatMap_cons, Nat.zero_mul, Nat.zero_add, List.getElem?_append_left (by simpa [eC] using hr)]
  | a :: t, j + 1, r, e, hr, h => by
    rw [eCs, List.flatMap_cons, ← eCs, List.getElem?_append_right (by simp [eC]; omega)]
    have : (j + 1) * 3 + r - (eC a).length = j * 3 + r := by simp [eC]; omega
    rw [this]
    exact eCs_at t j r e hr (by simpa using h)
theorem eCs_set {es : List Ed} {j : Nat} (e : Ed) (hj : j < es.length) : (((eCs es).set (j * 3) (.int .i64 e.s)).set (j * 3 + 1) (.int .i64 e.p)).set (j * 3 + 2) (.bool e.sc) = eCs (es.set j e) := by
  apply List.ext_getElem?
  intro i
  by_cases hi : i < es.length * 3
  · have hq : i / 3 < es.length := by omega
    have hr : i % 3 < 3 := Nat.mod_lt _ (by omega)
    have hi3 : i = i / 3 * 3 + i % 3 := by omega
    by_cases hjq : i / 3 = j
    · rw [hjq] at hi3
      have hR := eCs_at (es.set j e) j (i % 3) e hr (List.getElem?_set_self hj)
      rw [← hi3] at hR
      rw [hR]
      rcases (by omega : i % 3 = 0 ∨ i % 3 = 1 ∨ i % 3 = 2) with h | h | h
      · rw [h] at hi3 ⊢
        rw [List.getElem?_set_ne (by omega), List.getElem?_set_ne (by omega), hi3, Nat.add_zero, List.getElem?_set_self (by rw [eCs_len]; omega)]; rfl
      · rw [h] at hi3 ⊢
        rw [List.getElem?_set_ne (by omega), hi3, List.getElem?_set_self (by rw [List.length_set, eCs_len]; omega)]; rfl
      · rw [h] at hi3 ⊢
        rw [hi3, List.getElem?_set_self (by rw [List.length_set, List.length_set, eCs_len]; omega)]; rfl
    · rw [List.getElem?_set_ne (by omega), List.getElem?_set_ne (by omega), List.getElem?_set_ne (by omega)]
      have he : es[i / 3]? = some es[i / 3] := List.getElem?_eq_getElem hq
      have a := eCs_at es (i / 3) (i % 3) _ hr he
      have b := eCs_at (es.set j e) (i / 3) (i % 3) _ hr (by rw [List.getElem?_set_ne (by omega)]; exact he)
      rw [← hi3] at a b
      rw [a, b]
  · rw [List.getElem?_eq_none (by simp [eCs_len]; omega), List.getElem?_eq_none (by simp [eCs_len]; omega)]
def zE : Ed := ⟨0, 0, false⟩
theorem made_eCs (n : Nat) : (madeCells #[.int .i64 0, .int .i64 0, .bool false] (n * 3)).toList = eCs (List.replicate n zE) := by
  apply List.ext_getElem?
  intro i
  by_cases hi : i < n * 3
  · have hr : i % 3 < 3 := Nat.mod_lt _ (by omega)
    have hi3 : i / 3 * 3 + i % 3 = i := by omega
    have b := eCs_at (List.replicate n zE) (i / 3) (i % 3) zE hr (by rw [List.getElem?_replicate, if_pos (by omega)])
    rw [hi3] at b
    rw [b]
    unfold madeCells
    simp only [Array.toList_map, Array.toList_range, List.getElem?_map, List.getElem?_range hi, Option.map_some]
    rcases (by omega : i % 3 = 0 ∨ i % 3 = 1 ∨ i % 3 = 2) with h | h | h <;> simp [h, eC, zE]
  · rw [List.getElem?_eq_none (by simp [madeCells]; omega), List.getElem?_eq_none (by simp [eCs_len]; omega)]
/-- A block of the call's own that holds just these edges. -/
def OwnE (w : World) (g : Nat) (es : List Ed) : Prop := Own 36 w g (eCs es)
theorem OwnE.cells {w : World} {g : Nat} {es : List Ed} (h : OwnE w g es) {j : Nat} {e : Ed} (he : es[j]? = some e) :
    w.cell? ⟨g, j * 3, none⟩ = some (.int .i64 e.s) ∧ w.cell? ⟨g, j * 3 + 1, none⟩ = some (.int .i64 e.p) ∧ w.cell? ⟨g, j * 3 + 2, none⟩ = some (.bool e.sc) :=
  ⟨Own.cell h (by have := eCs_at es j 0 e (by omega) he; simpa [eC] using this), Own.cell h (by have := eCs_at es j 1 e (by omega) he; simpa [eC] using this), Own.cell h (by have := eCs_at es j 2 e (by omega) he; simpa [eC] using this)⟩
theorem OwnE.set_ {w : World} {g : Nat} {es : List Ed} (h : OwnE w g es) {j : Nat} (e : Ed) (hj : j < es.length) :
    OwnE (((w.setCell ⟨g, j * 3, none⟩ (.int .i64 e.s)).setCell ⟨g, j * 3 + 1, none⟩ (.int .i64 e.p)).setCell ⟨g, j * 3 + 2, none⟩ (.bool e.sc)) g (es.set j e) := by
  have := ((Own.set_ h (j * 3) (.int .i64 e.s)).set_ (j * 3 + 1) (.int .i64 e.p)).set_ (j * 3 + 2) (.bool e.sc)
  rw [eCs_set e hj] at this
  exact this
theorem OwnE.below {B : Nat} {w w' : World} {g : Nat} {es : List Ed} (h : OwnE w g es) (hb : Below B w w') (hg : g < B) : OwnE w' g es := Own.below h hb hg
theorem OwnE.lt {w : World} {g : Nat} {es : List Ed} (h : OwnE w g es) : g < w.heap.size := Own.lt h
theorem OwnE.made (w : World) (n : Nat) : OwnE (w.alloc (.cells (madeCells #[.int .i64 0, .int .i64 0, .bool false] (n * 3)) 36)) w.heap.size (List.replicate n zE) := by
  unfold OwnE Own
  rw [heap_alloc_new]
  congr 2
  apply Array.ext'
  rw [made_eCs]
theorem infoE : (Tryd.prog.info? 36).map (fun i => (i.zero, i.size, i.bytes)) = some (some (.agg #[.int .i64 0, .int .i64 0, .bool false]), 3, 24) := by kernel_rfl
theorem make_edges (n : Nat) (hn : n ≤ 1000) (w : World) : (Instr.makeSlice 30 (.int .i64 (n : Int)) (.int .i64 (n : Int))).run Tryd.prog w = .ok (.slice (some ⟨w.heap.size, 0, none⟩) n n) (w.alloc (.cells (madeCells #[.int .i64 0, .int .i64 0, .bool false] (n * 3)) 36)) := by
  obtain ⟨i, hi, hz, hs, hb⟩ := info_parts infoE
  have hr := run_make (P := Tryd.prog) w 30 36 i (.agg #[.int .i64 0, .int .i64 0, .bool false]) Tryd.underlying30 hi hz .i64 .i64 n n (by omega) (by omega) (by rw [hb]; omega) (by omega)
  simpa [hs, Value.cells] using hr
/-- Edges to be read. -/
def Edgs (w : World) (A : Option Addr) (n : Nat) (es : List Ed) : Prop :=
  es.length = n ∧ (∀ e ∈ es, inK .i64 e.s ∧ inK .i64 e.p) ∧ (0 < n → ∃ g o, A = some ⟨g, o, none⟩ ∧ ∀ (j : Nat) e, es[j]? = some e → w.cell? ⟨g, o + j * 3, none⟩ = some (.int .i64 e.s) ∧ w.cell? ⟨g, o + j * 3 + 1, none⟩ = some (.int .i64 e.p) ∧ w.cell? ⟨g, o + j * 3 + 2, none⟩ = some (.bool e.sc))
theorem Edgs.keep {w w' : World} {A : Option Addr} {n : Nat} {es : List Ed} (h : Edgs w A n es) (hk : Keeps w w') : Edgs w' A n es :=
  ⟨h.1, h.2.1, fun hn => by
    obtain ⟨g, o, e, hc⟩ := h.2.2 hn
    exact ⟨g, o, e, fun j x hx => ⟨hk _ _ (hc j x hx).1, hk _ _ (hc j x hx).2.1, hk _ _ (hc j x hx).2.2⟩⟩⟩
theorem OwnE.edgs {w : World} {g : Nat} {es : List Ed} (h : OwnE w g es) (hk : ∀ e ∈ es, inK .i64 e.s ∧ inK .i64 e.p) : Edgs w (some ⟨g, 0, none⟩) es.length es :=
  ⟨rfl, hk, fun _ => ⟨g, 0, rfl, fun j e he => by rw [Nat.zero_add]; exact h.cells he⟩⟩
/-- What a box holds. -/
def Bx (W : World) (g : Nat) (vs : Array Value) : Prop := ∀ (j : Nat) (u : Value), vs[j]? = some u → W.cell? ⟨g, j, none⟩ = some u
theorem Bx.keep {W W' : World} {g : Nat} {vs : Array Value} (h : Bx W g vs) (hk : Keeps W W') : Bx W' g vs := fun j u hu => hk _ _ (h j u hu)
theorem Bx.other {W : World} {g g' : Nat} {vs : Array Value} (h : Bx W g vs) (hne : g ≠ g') (i : Nat) (u : Value) : Bx (W.setCell ⟨g', i, none⟩ u) g vs := fun j v hv => by
  rw [World.cell?_of_block (Below.heap_setCell _ _ _ _ hne)]; exact h j v hv
theorem Bx.new (w : World) (vs : Array Value) (T : TypeId) : Bx (w.alloc (.cells vs T)) w.heap.size vs := fun j u hu => by
  rw [cell_of_row _ _ _ _ T (0, 0) (heap_alloc_new w _)]; exact hu
/-- Edges of the call's own that grow. -/
def OE (B : Nat) (w : World) (v : Value) (es : List Ed) : Prop := w.ownsRow B 36 3 v es.length (eCs es)
theorem OE.below {B : Nat} {w w' : World} {v : Value} {es : List Ed} (h : OE B w v es) (hb : Below w.heap.size w w') : OE B w' v es := own_below h hb (Nat.le_refl _)
theorem OE.mono {B B' : Nat} {w : World} {v : Value} {es : List Ed} (h : OE B w v es) (hb : B' ≤ B) : OE B' w v es := own_mono h hb
theorem OE.nil (B : Nat) (w : World) : OE B w (.slice none 0 0) [] := World.ownsRow_nil _ _ _ _
theorem eCs_one (es : List Ed) : ∀ u ∈ eCs es, u.oneCell' = true := by
  intro u hu
  obtain ⟨e, -, h⟩ := List.mem_flatMap.1 hu
  simp [eC] at h
  rcases h with rfl | rfl | rfl <;> rfl
theorem eCs_app (a b : List Ed) : eCs (a ++ b) = eCs a ++ eCs b := by simp [eCs]
theorem OE.lit (w : World) (B : Nat) (e : Ed) (hB : B ≤ w.heap.size) : OE B (w.alloc (.cells #[.int .i64 e.s, .int .i64 e.p, .bool e.sc] 36)) (.slice (some ⟨w.heap.size, 0, none⟩) 1 1) [e] :=
  own_lit w B 36 (eCs [e]) w.heap.size 1 3 rfl hB (by simp [maxLen]) (by simp [eCs, eC])
theorem OE.form {B : Nat} {w : World} {v : Value} {es : List Ed} (h : OE B w v es) (hk : ∀ e ∈ es, inK .i64 e.s ∧ inK .i64 e.p) : ∃ A c, v = .slice A es.length c ∧ Edgs w A es.length es := by
  obtain ⟨P, c, hv, h1, h2, h3⟩ := own_form h
  refine ⟨P, c, hv, rfl, hk, fun hn => ?_⟩
  obtain ⟨g, e1, _, hc⟩ := h3 hn
  refine ⟨g, 0, e1, fun j e he => ?_⟩
  rw [Nat.zero_add]
  have a := eCs_at es j 0 e (by omega) he
  have b := eCs_at es j 1 e (by omega) he
  have d := eCs_at es j 2 e (by omega) he
  exact ⟨hc _ _ (by simpa [eC] using a), hc _ _ (by simpa [eC] using b), hc _ _ (by simpa [eC] using d)⟩
theorem oe_append {B : Nat} {w : World} {v : Value} {es es2 : List Ed} {g m c : Nat} (h : OE B w v es) (h2 : OwnE w g es2) (hm : es2.length = m) (hn : es.length + m ≤ 1000) (hB : B ≤ w.heap.size) :
    ∃ v' w', (Builtin.append_ #[30, 30] 30 #[v, .slice (some ⟨g, 0, none⟩) m c]).run Tryd.prog w = .ok v' w' ∧ OE B w' v' (es ++ es2) ∧ Below B w w' := by
  obtain ⟨i0, hi, hz0, hz1, hz2⟩ := info_parts infoE
  obtain ⟨v', w', hrun, ho, hgr, _, _⟩ := run_append_own_at (P := Tryd.prog) w B 30 30 36 i0 _ 3 24 Tryd.underlying30 hi hz0 hz1 hz2 rfl (by omega) v es.length (eCs es) h
    ⟨g, 0, none⟩ m c (eCs es2) (by rw [eCs_len, hm]) (fun j x hx => by rw [add0]; exact Own.cell h2 hx) (eCs_one es2) (by simp [maxLen]; omega) (by omega) hB
  refine ⟨v', w', hrun, ?_, (Below.refl B w).grown hgr hB (fun k e => (h.lt k e).1)⟩
  unfold OE
  rw [List.length_append, eCs_app, hm]
  exact ho
theorem Only.keeps {g : Nat} {w4 w5 wr : World} (h : Only g w5 wr) (h0 : Keeps w4 w5) (hg : w4.heap.size ≤ g) : Keeps w4 wr := fun p v hp => by
  have h1 := block_lt hp
  have h2 := h0 p v hp
  rw [World.cell?_of_block (h.block _ (block_lt h2) (by omega))]
  exact h2
end Go.Proofs.YtjllmladhjbnaaaDoor
/- Package sorts: the levels of sets. -/
namespace Go.Proofs.YtjllmladhjbnaaaDoor
open Go.RowKit Go.Shelf
attribute [local go_sem] Oper.semAt_some
/-- The levels, of the first sets alone. -/
def lvTo (d k : Nat) : List (List Int) := (List.range (d + 1)).map fun t => ((setsL d).take k).filter fun s => lvl s == ((d - t : Nat) : Int)
theorem lvTo_len (d k : Nat) : (lvTo d k).length = d + 1 := by simp [lvTo]
theorem lvTo_zero (d : Nat) : lvTo d 0 = List.replicate (d + 1) [] := by
  apply List.ext_getElem
  · simp [lvTo]
  · intro i h1 h2
    simp [lvTo]
theorem lvTo_at {d k t : Nat} (h : t ≤ d) : (lvTo d k)[t]? = some (((setsL d).take k).filter fun s => lvl s == ((d - t : Nat) : Int)) := by
  unfold lvTo
  rw [List.getElem?_map, List.getElem?_range (by omega)]; rfl
theorem lvTo_row {d k t : Nat} (h : t ≤ d) {r : List Int} (hr : (lvTo d k)[t]? = some r) : r.length ≤ k := by
  rw [lvTo_at h] at hr
  injection hr with hr
  subst hr
  exact Nat.le_trans (List.length_filter_le _ _) (by rw [List.length_take]; omega)
theorem lvTo_set {d k t : Nat} {s : Int} {r : List Int} (hs : (setsL d)[k]? = some s) (ht : t ≤ d) (hl : lvl s = ((d - t : Nat) : Int)) (hr : (lvTo d k)[t]? = some r) : (lvTo d k).set t (r ++ [s]) = lvTo d (k + 1) := by
  rw [lvTo_at ht] at hr
  injection hr with hr
  apply List.ext_getElem?
  intro i
  by_cases hi : i ≤ d
  · rw [lvTo_at (k := k + 1) hi, List.take_add_one, hs, List.filter_append]
    by_cases hit : t = i
    · subst hit
      rw [List.getElem?_set_self (by rw [lvTo_len]; omega), ← hr]
      simp [hl]
    · rw [List.getElem?_set_ne hit, lvTo_at hi]
      have : ¬ lvl s = ((d - i : Nat) : Int) := by omega
      simp [this]
  · rw [List.getElem?_eq_none (by rw [List.length_set, lvTo_len]; omega), List.getElem?_eq_none (by rw [lvTo_len]; omega)]
theorem lvl_sets : ∀ d, 1 ≤ d → d ≤ 4 → ∀ s ∈ setsL d, 0 ≤ lvl s ∧ lvl s ≤ d ∧ 0 ≤ s ∧ s ≤ 15 := by
  intro d h1 h2
  rcases (by omega : d = 1 ∨ d = 2 ∨ d = 3 ∨ d = 4) with rfl | rfl | rfl | rfl <;> decide +kernel
/-- All levels, the highest first. -/
def lvsL (d : Nat) : List (List Int) := (List.range (d + 1)).map fun t => levL d (d - t)
theorem lvTo_all (d : Nat) : lvTo d (setsL d).length = lvsL d := by
  unfold lvTo lvsL levL
  rw [List.take_length]
end Go.Proofs.YtjllmladhjbnaaaDoor
