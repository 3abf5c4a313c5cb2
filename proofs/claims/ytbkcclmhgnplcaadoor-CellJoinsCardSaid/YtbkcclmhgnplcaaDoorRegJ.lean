/- Three loads, three literals, three appends in one chain, three stores: a cell goes on by one measure. -/
import Derived.Test.YtbkcclmhgnplcaaDoorJoinS
import Derived.Test.YtbkcclmhgnplcaaDoorAnyTab
namespace Go.Proofs.YtbkcclmhgnplcaaDoor
open Go.RowKit Go.Shelf
theorem app_lit1 {B L : Nat} {W : World} {u : Value} {xs : List Int} (x : Int) (hu : OI B W u xs) (hx : inK .i64 x) (hl : xs.length ≤ 1000000) (hB : B ≤ W.heap.size) (hc : W.cell? ⟨L, 0, none⟩ = some (.int .i64 x)) :
    ∃ A c W', (Builtin.append_ #[22, 22] 22 #[u, .slice (some ⟨L, 0, none⟩) 1 1]).run Tryd.prog W = .ok (.slice A (xs.length + 1) c) W' ∧ OI B W' (.slice A (xs.length + 1) c) (xs ++ [x]) ∧
      W.grownBy W' u.ownBlock ∧ ((Value.slice A (xs.length + 1) c).ownBlock = u.ownBlock ∨ (Value.slice A (xs.length + 1) c).ownBlock = some W.heap.size) := by
  obtain ⟨i0, hi, hz0, hz1, hz2⟩ := info_parts infoI
  obtain ⟨v', W', hrun, ho, hgr, _, hbl⟩ := run_append_own_at (P := Tryd.prog) W B 22 22 3 i0 _ 1 8 Tryd.underlying22 hi hz0 hz1 hz2 rfl (by omega) u xs.length (ints xs) hu.1 ⟨L, 0, none⟩ 1 1 (ints [x]) (by simp [ints_len])
    (fun j w hw => by
      rw [add0]
      cases j with
      | zero => simp [ints] at hw; rw [hc, hw]
      | succ j => simp [ints] at hw) (ints_one [x]) (by simp only [maxLen]; omega) (by omega) hB
  have h2 : OI B W' v' (xs ++ [x]) := ⟨by rw [List.length_append]; simpa [ints] using ho, fun y hy => by
    rcases List.mem_append.1 hy with h | h
    · exact hu.2 y h
    · simp only [List.mem_singleton] at h
      subst h
      exact hx⟩
  obtain ⟨A, c, hv, -⟩ := h2.form
  rw [List.length_append] at hv
  replace hv : v' = .slice A (xs.length + 1) c := hv
  subst hv
  exact ⟨A, c, W', hrun, h2, hgr, hbl⟩
def curOf (v X : Nat → Value) (m i : Nat) : Value := if 1 ≤ i ∧ i ≤ m then X (6 + i) else v i
def xsOf (S : Nat → List Int) (x : Int) (m i : Nat) : List Int := if 1 ≤ i ∧ i ≤ m then S i ++ [x] else S i
def LitX (cur : Nat → Value) (W : World) (p : Value) (x : Int) : Prop := ∃ L, p = .slice (some ⟨L, 0, none⟩) 1 1 ∧ W.cell? ⟨L, 0, none⟩ = some (.int .i64 x) ∧ ∀ i, i < 4 → (cur i).ownBlock ≠ some L
structure RJ (B : Nat) (cur : Nat → Value) (xs : Nat → List Int) (W : World) : Prop where
  bs : B ≤ W.heap.size
  ok : ∀ i, i < 4 → OI B W (cur i) (xs i)
  ap : ∀ i j, i < 4 → j < 4 → i ≠ j → Ap (cur i) (cur j)
theorem RJ.below {B : Nat} {cur : Nat → Value} {xs : Nat → List Int} {W W' : World} (h : RJ B cur xs W) (hb : Below W.heap.size W W') : RJ B cur xs W' := ⟨Nat.le_trans h.bs hb.size, fun i hi => (h.ok i hi).below hb, h.ap⟩
theorem LitX.below {cur : Nat → Value} {W W' : World} {p : Value} {x : Int} (h : LitX cur W p x) (hb : Below W.heap.size W W') : LitX cur W' p x := by
  obtain ⟨L, e, hc, ha⟩ := h
  exact ⟨L, e, Keeps.of_below hb _ _ hc, ha⟩
/-- What stands on the way. -/
structure IJ (B g : Nat) (w0 : World) (cnt : Int) (v : Nat → Value) (S : Nat → List Int) (x : Int) (m b : Nat) (X : Nat → Value) (W : World) : Prop where
  rj : RJ B (curOf v X (min m 3)) (xsOf S x (min m 3)) W
  box : Own 33 W g [v 0, .int .i64 cnt, if 4 ≤ m then X 7 else v 1, if 6 ≤ m then X 8 else v 2, if 8 ≤ m then X 9 else v 3]
  bel : Below B w0 W
  ld : ∀ j, j < 3 → b.testBit j = true → X j = v (j + 1)
  lt : ∀ j, j < 3 → b.testBit (j + 3) = true → m ≤ j → LitX (curOf v X (min m 3)) W (X (j + 3)) x
  p2 : b.testBit 6 = true → X 6 = .pointer (some ⟨g, 2, none⟩)
  p3 : 5 ≤ m → X 11 = .pointer (some ⟨g, 3, none⟩)
  p4 : 7 ≤ m → X 13 = .pointer (some ⟨g, 4, none⟩)
def jA (k : Nat) : Nat := match k with | 0 => 4 | 1 => 9 | 2 => 14 | 3 => 16 | 4 => 17 | 5 => 18 | 6 => 19 | _ => 20
def jL (j : Nat) : Nat := match j with | 0 => 1 | 1 => 6 | 2 => 11 | 3 => 3 | 4 => 8 | 5 => 13 | _ => 15
def jD (j : Nat) : Nat := match j with | 0 => 0 | 1 => 1 | 2 => 2 | 3 => 0 | 4 => 1 | 5 => 2 | _ => 3
def jS (j : Nat) : Nat := match j with | 0 => 48 | 1 => 53 | 2 => 58 | 3 => 50 | 4 => 55 | 5 => 60 | 6 => 62 | 7 => 51 | 8 => 56 | 9 => 61 | 11 => 63 | 13 => 64 | _ => 0
def jF (a : Act) (X : Nat → Value) : Act := (((((((((((a.put (some 48) (X 0)).put (some 53) (X 1)).put (some 58) (X 2)).put (some 50) (X 3)).put (some 55) (X 4)).put (some 60) (X 5)).put (some 62) (X 6)).put (some 51) (X 7)).put (some 56) (X 8)).put (some 61) (X 9)).put (some 63) (X 11)).put (some 64) (X 13)
theorem put_self {a : Act} {i : Nat} (h : i < a.tmps.size) : a.put (some i) (a.tmps[i]!) = a := by
  cases a with
  | mk tmps defers =>
    replace h : i < tmps.size := h
    show Act.put ⟨tmps, defers⟩ (some i) (tmps[i]!) = _
    rw [getElem!_pos tmps i h]
    have e : tmps.setIfInBounds i tmps[i] = tmps := by
      apply Array.ext_getElem?
      intro k
      rw [Array.getElem?_setIfInBounds]
      split
      · rename_i e
        subst e
        simp [h]
      · rfl
    show (⟨tmps.setIfInBounds i tmps[i], defers⟩ : Act) = _
    rw [e]
theorem jF_self (a : Act) (h : 64 < a.tmps.size) : jF a (fun i => a.tmps[jS i]!) = a := by
  unfold jF
  simp only [jS]
  rw [put_self (by omega), put_self (by omega), put_self (by omega), put_self (by omega), put_self (by omega), put_self (by omega), put_self (by omega), put_self (by omega), put_self (by omega), put_self (by omega), put_self (by omega), put_self (by omega)]
def jT (m b : Nat) : Array Bool := #[true, b.testBit 0, true, b.testBit 3, decide (1 ≤ m), true, b.testBit 1, true, b.testBit 4, decide (2 ≤ m), true, b.testBit 2, true, b.testBit 5, decide (3 ≤ m), b.testBit 6, decide (4 ≤ m), decide (5 ≤ m), decide (6 ≤ m), decide (7 ≤ m), decide (8 ≤ m)]
theorem bits_fin : ∀ (b : Fin 128) (j k : Fin 7), b.val.testBit j.val = false → b.val + 2 ^ j.val < 128 ∧ (b.val + 2 ^ j.val).testBit k.val = (b.val.testBit k.val || decide (k = j)) := by decide +kernel
theorem bits_up {b j k : Nat} (hb : b < 128) (hj : j < 7) (hk : k < 7) (ht : b.testBit j = false) : (b + 2 ^ j).testBit k = (b.testBit k || decide (k = j)) := by
  have := (bits_fin ⟨b, hb⟩ ⟨j, hj⟩ ⟨k, hk⟩ ht).2
  simpa using this
section
variable {B g : Nat} {w0 : World} {cnt : Int} {v : Nat → Value} {S : Nat → List Int} {x : Int} {m b : Nat} {X : Nat → Value} {W : World}
theorem curOf_up (p : Value) {j : Nat} (h : j < 7 ∨ 9 < j) (hm : m ≤ 3) : curOf v (upL X j p) m = curOf v X m := by
  funext i
  unfold curOf
  split
  · rw [upL_ne X p (by omega)]
  · rfl
theorem IJ.boxUp (h : IJ B g w0 cnt v S x m b X W) (p : Value) {j : Nat} (hj : j < 7 ∨ 9 < j) : Own 33 W g [v 0, .int .i64 cnt, if 4 ≤ m then upL X j p 7 else v 1, if 6 ≤ m then upL X j p 8 else v 2, if 8 ≤ m then upL X j p 9 else v 3] := by
  rw [upL_ne X p (by omega), upL_ne X p (by omega), upL_ne X p (by omega)]
  exact h.box
/-- A field is read. -/
theorem IJ.load (h : IJ B g w0 cnt v S x m b X W) {j : Nat} (hj : j < 3) (hb : b < 128) (ht : b.testBit j = false) : IJ B g w0 cnt v S x m (b + 2 ^ j) (upL X j (v (j + 1))) W := by
  have cu : curOf v (upL X j (v (j + 1))) (min m 3) = curOf v X (min m 3) := curOf_up _ (by omega) (by omega)
  refine ⟨by rw [cu]; exact h.rj, h.boxUp _ (by omega), h.bel, fun i hi e => ?_, fun i hi e hm => ?_, fun e => ?_, fun e => by rw [upL_ne X _ (by omega)]; exact h.p3 e, fun e => by rw [upL_ne X _ (by omega)]; exact h.p4 e⟩
  · by_cases hij : i = j
    · subst hij; rw [upL_same]
    · rw [upL_ne X _ hij]
      rw [bits_up hb (by omega) (by omega) ht] at e
      exact h.ld i hi (by simpa [hij] using e)
  · rw [cu, upL_ne X _ (by omega)]
    rw [bits_up hb (by omega) (by omega) ht] at e
    exact h.lt i hi (by simpa [show i + 3 ≠ j by omega] using e) hm
  · rw [upL_ne X _ (by omega)]
    rw [bits_up hb (by omega) (by omega) ht] at e
    exact h.p2 (by simpa [show 6 ≠ j by omega] using e)
/-- The first store's place. -/
theorem IJ.ptr (h : IJ B g w0 cnt v S x m b X W) (hb : b < 128) (ht : b.testBit 6 = false) : IJ B g w0 cnt v S x m (b + 2 ^ 6) (upL X 6 (.pointer (some ⟨g, 2, none⟩))) W := by
  have cu : curOf v (upL X 6 (.pointer (some ⟨g, 2, none⟩))) (min m 3) = curOf v X (min m 3) := curOf_up _ (by omega) (by omega)
  refine ⟨by rw [cu]; exact h.rj, h.boxUp _ (by omega), h.bel, fun i hi e => ?_, fun i hi e hm => ?_, fun _ => by rw [upL_same], fun e => by rw [upL_ne X _ (by omega)]; exact h.p3 e, fun e => by rw [upL_ne X _ (by omega)]; exact h.p4 e⟩
  · rw [upL_ne X _ (by omega)]
    rw [bits_up hb (by omega) (by omega) ht] at e
    exact h.ld i hi (by simpa [show i ≠ 6 by omega] using e)
  · rw [cu, upL_ne X _ (by omega)]
    rw [bits_up hb (by omega) (by omega) ht] at e
    exact h.lt i hi (by simpa [show i + 3 ≠ 6 by omega] using e) hm
/-- A literal of one number is laid. -/
theorem IJ.lit (h : IJ B g w0 cnt v S x m b X W) {j : Nat} (hj : j < 3) (hb : b < 128) (ht : b.testBit (j + 3) = false) : IJ B g w0 cnt v S x m (b + 2 ^ (j + 3)) (upL X (j + 3) (.slice (some ⟨W.heap.size, 0, none⟩) 1 1)) (W.alloc (.cells #[.int .i64 x] 3)) := by
  have hal : Below W.heap.size W (W.alloc (.cells #[.int .i64 x] 3)) := (Below.refl _ _).alloc (Nat.le_refl _) _
  have cu : curOf v (upL X (j + 3) (.slice (some ⟨W.heap.size, 0, none⟩) 1 1)) (min m 3) = curOf v X (min m 3) := curOf_up _ (by omega) (by omega)
  have hbox := (h.boxUp (.slice (some ⟨W.heap.size, 0, none⟩) 1 1) (j := j + 3) (by omega)).below hal h.box.lt
  refine ⟨by rw [cu]; exact h.rj.below hal, hbox, h.bel.alloc h.rj.bs _, fun i hi e => ?_, fun i hi e hm => ?_, fun e => ?_, fun e => by rw [upL_ne X _ (by omega)]; exact h.p3 e, fun e => by rw [upL_ne X _ (by omega)]; exact h.p4 e⟩
  · rw [upL_ne X _ (by omega)]
    rw [bits_up hb (by omega) (by omega) ht] at e
    exact h.ld i hi (by simpa [show i ≠ j + 3 by omega] using e)
  · rw [cu]
    by_cases hij : i = j
    · subst hij
      rw [upL_same]
      refine ⟨_, rfl, ?_, fun k hk e2 => ?_⟩
      · rw [show (W.alloc (.cells #[.int .i64 x] 3)).cell? ⟨W.heap.size, 0, none⟩ = #[.int .i64 x][0]? from cell_of_row _ _ _ _ 3 (0, 0) (heap_alloc_new W _)]
        rfl
      · have := ((h.rj.ok k hk).1.lt _ e2).2
        omega
    · rw [upL_ne X _ (by omega)]
      rw [bits_up hb (by omega) (by omega) ht] at e
      exact (h.lt i hi (by simpa [show i ≠ j by omega] using e) hm).below hal
  · rw [upL_ne X _ (by omega)]
    rw [bits_up hb (by omega) (by omega) ht] at e
    exact h.p2 (by simpa [show 6 ≠ j + 3 by omega] using e)
/-- An append. -/
theorem IJ.app (h : IJ B g w0 cnt v S x m b X W) (hm : m < 3) (hx : inK .i64 x) (hl : ∀ i, i < 4 → (S i).length ≤ 1000) (hld : b.testBit m = true) (hlt : b.testBit (m + 3) = true) :
    ∃ A c W', (Builtin.append_ #[22, 22] 22 #[X m, X (m + 3)]).run Tryd.prog W = .ok (.slice A ((S (m + 1)).length + 1) c) W' ∧ IJ B g w0 cnt v S x (m + 1) b (upL X (7 + m) (.slice A ((S (m + 1)).length + 1) c)) W' := by
  have hmin : min m 3 = m := by omega
  have hmin' : min (m + 1) 3 = m + 1 := by omega
  have hrj := h.rj
  rw [hmin] at hrj
  obtain ⟨L, eL, hcL, hLa⟩ := h.lt m hm hlt (Nat.le_refl _)
  rw [hmin] at hLa
  have hc1 : curOf v X m (m + 1) = v (m + 1) := by unfold curOf; rw [if_neg (by omega)]
  have hs1 : xsOf S x m (m + 1) = S (m + 1) := by unfold xsOf; rw [if_neg (by omega)]
  have hok := hrj.ok (m + 1) (by omega)
  rw [hc1, hs1] at hok
  obtain ⟨A, c, W', hrun, ho, hgr, hbl⟩ := app_lit1 x hok hx (by have := hl (m + 1) (by omega); omega) hrj.bs hcL
  obtain ⟨T, hT⟩ : ∃ T, T = Value.slice A ((S (m + 1)).length + 1) c := ⟨_, rfl⟩
  rw [← hT] at hrun ho hbl
  have cu : ∀ i, curOf v (upL X (7 + m) T) (m + 1) i = if i = m + 1 then T else curOf v X m i := fun i => by
    unfold curOf
    by_cases e : i = m + 1
    · subst e
      rw [if_pos ⟨by omega, by omega⟩, if_pos rfl, show 6 + (m + 1) = 7 + m by omega, upL_same]
    · rw [if_neg e]
      by_cases e2 : 1 ≤ i ∧ i ≤ m
      · rw [if_pos ⟨e2.1, by omega⟩, if_pos e2, upL_ne X _ (by omega)]
      · rw [if_neg (by omega), if_neg e2]
  have xu : ∀ i, xsOf S x (m + 1) i = if i = m + 1 then S (m + 1) ++ [x] else xsOf S x m i := fun i => by
    unfold xsOf
    by_cases e : i = m + 1
    · subst e
      rw [if_pos ⟨by omega, by omega⟩, if_pos rfl]
    · rw [if_neg e]
      by_cases e2 : 1 ≤ i ∧ i ≤ m
      · rw [if_pos ⟨e2.1, by omega⟩, if_pos e2]
      · rw [if_neg (by omega), if_neg e2]
  have hap : ∀ i, i < 4 → i ≠ m + 1 → Ap (curOf v X m i) (v (m + 1)) := fun i hi hne => by
    have := hrj.ap i (m + 1) hi (by omega) hne
    rwa [hc1] at this
  have new : ∀ i, i < 4 → i ≠ m + 1 → Ap (curOf v X m i) T := fun i hi hne q h1 h2 => by
    rcases hbl with e | e
    · rw [e] at h2
      exact hap i hi hne q h1 h2
    · rw [e] at h2
      injection h2 with h2
      have := ((hrj.ok i hi).1.lt q h1).2
      omega
  have own : ∀ {n : Nat} {us : List Value}, Own 33 W n us → Own 33 W' n us := fun o => o.grownI hok.1 (by decide) hgr
  have bw : Below B W W' := (Below.refl B W).grown hgr hrj.bs fun k e => (hok.1.lt k e).1
  refine ⟨A, c, W', by rw [← hT, h.ld m hm hld, eL]; exact hrun, ⟨?_, ?_, h.bel.trans bw, fun i hi e => by rw [upL_ne X _ (by omega)]; exact h.ld i hi e, fun i hi e hmi => ?_, fun e => by rw [upL_ne X _ (by omega)]; exact h.p2 e, fun e => by omega, fun e => by omega⟩⟩
  · rw [hmin', ← hT]
    refine ⟨Nat.le_trans hrj.bs bw.size, fun i hi => ?_, fun i j hi hj hij => ?_⟩
    · rw [cu i, xu i]
      by_cases e : i = m + 1
      · rw [if_pos e, if_pos e]; exact ho
      · rw [if_neg e, if_neg e]; exact (hrj.ok i hi).grownI (hap i hi e) hgr
    · rw [cu i, cu j]
      by_cases e : i = m + 1
      · rw [if_pos e, if_neg (by omega)]; exact (new j hj (by omega)).symm
      · rw [if_neg e]
        by_cases e2 : j = m + 1
        · rw [if_pos e2]; exact new i hi e
        · rw [if_neg e2]; exact hrj.ap i j hi hj hij
  · have hb := own h.box
    rw [if_neg (by omega), if_neg (by omega), if_neg (by omega)] at hb
    rw [if_neg (by omega), if_neg (by omega), if_neg (by omega)]
    exact hb
  · obtain ⟨L', e', hc', ha'⟩ := h.lt i hi e (by omega)
    rw [hmin] at ha'
    rw [hmin', upL_ne X _ (by omega), ← hT]
    have hne : (v (m + 1)).ownBlock ≠ some L' := by
      have := ha' (m + 1) (by omega)
      rwa [hc1] at this
    refine ⟨L', e', ?_, fun k hk => ?_⟩
    · rw [← hc']
      exact World.cell?_of_block (hgr.block L' (cell_lt hc') (fun e => hne e.symm))
    · rw [cu k]
      by_cases e : k = m + 1
      · rw [if_pos e]
        intro h2
        rcases hbl with e3 | e3
        · rw [e3] at h2; exact hne h2
        · rw [e3] at h2
          injection h2 with h2
          have := cell_lt hc'
          simp at this
          omega
      · rw [if_neg e]; exact ha' k hk
/-- A store into one of the cell's fields. -/
theorem IJ.store (h : IJ B g w0 cnt v S x m b X W) (hgB : B ≤ g) (p : Value) {s : Nat} (hs : m = 3 ∧ s = 2 ∨ m = 5 ∧ s = 3 ∨ m = 7 ∧ s = 4) : IJ B g w0 cnt v S x (m + 1) b (upL X (7 + m) p) (W.setCell ⟨g, s, none⟩ (X (5 + s))) := by
  have hmin : min m 3 = 3 := by omega
  have hmin' : min (m + 1) 3 = 3 := by omega
  have cu : curOf v (upL X (7 + m) p) 3 = curOf v X 3 := curOf_up _ (by omega) (by omega)
  have hrj := h.rj
  rw [hmin] at hrj
  have o := h.box.set_ s (X (5 + s))
  refine ⟨?_, ?_, h.bel.setCell hgB _, fun i hi e => by rw [upL_ne X _ (by omega)]; exact h.ld i hi e, fun i hi e hm => by omega, fun e => by rw [upL_ne X _ (by omega)]; exact h.p2 e, fun e => by rw [upL_ne X _ (by omega)]; exact h.p3 (by omega), fun e => by rw [upL_ne X _ (by omega)]; exact h.p4 (by omega)⟩
  · rw [hmin', cu]
    exact ⟨by simp [World.setCell]; exact hrj.bs, fun i hi => (hrj.ok i hi).box h.box (by decide), hrj.ap⟩
  · rw [upL_ne X p (by omega), upL_ne X p (by omega), upL_ne X p (by omega)]
    rcases hs with ⟨rfl, rfl⟩ | ⟨rfl, rfl⟩ | ⟨rfl, rfl⟩ <;> simpa using o
/-- A later store's place. -/
theorem IJ.place (h : IJ B g w0 cnt v S x m b X W) (hs : m = 4 ∨ m = 6) : IJ B g w0 cnt v S x (m + 1) b (upL X (7 + m) (.pointer (some ⟨g, if m = 4 then 3 else 4, none⟩))) W := by
  have hmin : min m 3 = 3 := by omega
  have hmin' : min (m + 1) 3 = 3 := by omega
  have cu : curOf v (upL X (7 + m) (.pointer (some ⟨g, if m = 4 then 3 else 4, none⟩))) 3 = curOf v X 3 := curOf_up _ (by omega) (by omega)
  have hrj := h.rj
  rw [hmin] at hrj
  refine ⟨by rw [hmin', cu]; exact hrj, ?_, h.bel, fun i hi e => by rw [upL_ne X _ (by omega)]; exact h.ld i hi e, fun i hi e hm => by omega, fun e => by rw [upL_ne X _ (by omega)]; exact h.p2 e, fun e => ?_, fun e => ?_⟩
  · have hb := h.box
    rw [upL_ne X _ (by omega), upL_ne X _ (by omega), upL_ne X _ (by omega)]
    rcases hs with rfl | rfl <;> simpa using hb
  · rcases hs with rfl | rfl
    · rw [show (11 : Nat) = 7 + 4 from rfl, upL_same]; rfl
    · rw [upL_ne X _ (by omega)]; exact h.p3 (by omega)
  · rcases hs with rfl | rfl
    · omega
    · rw [show (13 : Nat) = 7 + 6 from rfl, upL_same]; rfl
end
end Go.Proofs.YtbkcclmhgnplcaaDoor
