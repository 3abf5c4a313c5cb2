/- The law CellKnown. -/
import Derived.Test.YtbkcclmhgnplcaaDoorSet
import Derived.Test.YtbkcclmhgnplcaaDoorPutP
import Derived.Test.YtbkcclmhgnplcaaDoorWaysP
namespace Go.Proofs.YtbkcclmhgnplcaaDoor
open Go.RowKit Go.Shelf
/-- Objects, laid one behind the other. -/
def laysL (w : World) : List Obj → World
  | [] => w
  | o :: t => laysL (w.alloc o) t
theorem laysL_keep : ∀ (t : List Obj) (w : World) (g : Nat) (o : Obj), w.heap[g]? = some o → (laysL w t).heap[g]? = some o
  | [], _, _, _, h => h
  | p :: t, w, g, o, h => by
    have hg : g < w.heap.size := (Array.getElem?_eq_some_iff.1 h).1
    have hb : Below w.heap.size w (w.alloc p) := (Below.refl _ _).alloc (Nat.le_refl _) _
    exact laysL_keep t (w.alloc p) g o ((hb.block g hg).trans h)
theorem laysL_at : ∀ (os : List Obj) (w : World) (i : Nat) (o : Obj), os[i]? = some o → (laysL w os).heap[w.heap.size + i]? = some o
  | [], _, _, _, h => by simp at h
  | o :: t, w, 0, o', h => by
    simp only [List.getElem?_cons_zero, Option.some.injEq] at h
    subst h
    exact laysL_keep t (w.alloc o) w.heap.size o (heap_alloc_new w o)
  | o :: t, w, i + 1, o', h => by
    have := laysL_at t (w.alloc o) i o' (by simpa using h)
    rw [show (w.alloc o).heap.size = w.heap.size + 1 from by simp] at this
    rw [show w.heap.size + (i + 1) = w.heap.size + 1 + i by omega]
    exact this
theorem laysL_below : ∀ (os : List Obj) (w : World) (B : Nat), B ≤ w.heap.size → Below B w (laysL w os)
  | [], _, B, _ => Below.refl B _
  | o :: t, w, B, h => by
    have h1 : Below B w (w.alloc o) := (Below.refl _ _).alloc h _
    exact h1.trans (laysL_below t (w.alloc o) B (Nat.le_trans h h1.size))
theorem own_ri {W : World} {g n : Nat} {xs : List Int} (h : Own 3 W g (ints xs)) (hn : n = xs.length) (hl : n ≤ 1000) (hk : ∀ x ∈ xs, -1000 ≤ x ∧ x ≤ 1000) : RI W (.slice (some ⟨g, 0, none⟩) n n) xs := by
  subst hn
  refine ⟨_, _, rfl, ⟨rfl, fun x hx => ?_, fun _ => ⟨_, rfl, fun j x hx => ?_⟩⟩, Nat.le_refl _, by simp only [maxLen]; omega, fun e => by cases e⟩
  · obtain ⟨h1, h2⟩ := hk x hx
    exact ⟨by show (-9223372036854775808 : Int) ≤ x; omega, by show x ≤ 9223372036854775807; omega⟩
  · rw [add0]
    exact h.cell (i := j) (by simp [ints, hx])
def rowsK : List Fact := [⟨[1, 0], [5]⟩, ⟨[0, 2], [-3]⟩, ⟨[1, 2], [4]⟩, ⟨[1, 0], [-9]⟩]
def cellsK (k : Nat) : List Cel := match k with
  | 0 => [⟨[], 4, [-3], [-9], [5]⟩]
  | 1 => [⟨[0], 1, [-3], [-3], [-3]⟩, ⟨[1], 3, [0], [-9], [5]⟩]
  | 2 => [⟨[0], 2, [-4], [-9], [5]⟩, ⟨[2], 2, [1], [-3], [4]⟩]
  | _ => [⟨[0, 2], 1, [-3], [-3], [-3]⟩, ⟨[1, 0], 2, [-4], [-9], [5]⟩, ⟨[1, 2], 1, [4], [4], [4]⟩]
def osR (n : Nat) : List Obj := [
  .cells #[.int .i64 1, .int .i64 0] 3,
  .cells #[.int .i64 5] 3,
  .cells #[.int .i64 0, .int .i64 2] 3,
  .cells #[.int .i64 (-3)] 3,
  .cells #[.int .i64 1, .int .i64 2] 3,
  .cells #[.int .i64 4] 3,
  .cells #[.int .i64 1, .int .i64 0] 3,
  .cells #[.int .i64 (-9)] 3,
  .cells #[.slice (some ⟨n, 0, none⟩) 2 2, .slice (some ⟨n + 1, 0, none⟩) 1 1, .slice (some ⟨n + 2, 0, none⟩) 2 2, .slice (some ⟨n + 3, 0, none⟩) 1 1, .slice (some ⟨n + 4, 0, none⟩) 2 2, .slice (some ⟨n + 5, 0, none⟩) 1 1, .slice (some ⟨n + 6, 0, none⟩) 2 2, .slice (some ⟨n + 7, 0, none⟩) 1 1] 36]
def osK (n : Nat) : List Obj := [
  .cells #[.int .i64 (-3)] 3,
  .cells #[.int .i64 (-9)] 3,
  .cells #[.int .i64 5] 3,
  .cells #[.slice none 0 0, .int .i64 4, .slice (some ⟨n, 0, none⟩) 1 1, .slice (some ⟨n + 1, 0, none⟩) 1 1, .slice (some ⟨n + 2, 0, none⟩) 1 1] 33,
  .cells #[.int .i64 0] 3,
  .cells #[.int .i64 (-3)] 3,
  .cells #[.int .i64 (-3)] 3,
  .cells #[.int .i64 (-3)] 3,
  .cells #[.int .i64 1] 3,
  .cells #[.int .i64 0] 3,
  .cells #[.int .i64 (-9)] 3,
  .cells #[.int .i64 5] 3,
  .cells #[.slice (some ⟨n + 4, 0, none⟩) 1 1, .int .i64 1, .slice (some ⟨n + 5, 0, none⟩) 1 1, .slice (some ⟨n + 6, 0, none⟩) 1 1, .slice (some ⟨n + 7, 0, none⟩) 1 1, .slice (some ⟨n + 8, 0, none⟩) 1 1, .int .i64 3, .slice (some ⟨n + 9, 0, none⟩) 1 1, .slice (some ⟨n + 10, 0, none⟩) 1 1, .slice (some ⟨n + 11, 0, none⟩) 1 1] 33,
  .cells #[.int .i64 0] 3,
  .cells #[.int .i64 (-4)] 3,
  .cells #[.int .i64 (-9)] 3,
  .cells #[.int .i64 5] 3,
  .cells #[.int .i64 2] 3,
  .cells #[.int .i64 1] 3,
  .cells #[.int .i64 (-3)] 3,
  .cells #[.int .i64 4] 3,
  .cells #[.slice (some ⟨n + 13, 0, none⟩) 1 1, .int .i64 2, .slice (some ⟨n + 14, 0, none⟩) 1 1, .slice (some ⟨n + 15, 0, none⟩) 1 1, .slice (some ⟨n + 16, 0, none⟩) 1 1, .slice (some ⟨n + 17, 0, none⟩) 1 1, .int .i64 2, .slice (some ⟨n + 18, 0, none⟩) 1 1, .slice (some ⟨n + 19, 0, none⟩) 1 1, .slice (some ⟨n + 20, 0, none⟩) 1 1] 33,
  .cells #[.int .i64 0, .int .i64 2] 3,
  .cells #[.int .i64 (-3)] 3,
  .cells #[.int .i64 (-3)] 3,
  .cells #[.int .i64 (-3)] 3,
  .cells #[.int .i64 1, .int .i64 0] 3,
  .cells #[.int .i64 (-4)] 3,
  .cells #[.int .i64 (-9)] 3,
  .cells #[.int .i64 5] 3,
  .cells #[.int .i64 1, .int .i64 2] 3,
  .cells #[.int .i64 4] 3,
  .cells #[.int .i64 4] 3,
  .cells #[.int .i64 4] 3,
  .cells #[.slice (some ⟨n + 22, 0, none⟩) 2 2, .int .i64 1, .slice (some ⟨n + 23, 0, none⟩) 1 1, .slice (some ⟨n + 24, 0, none⟩) 1 1, .slice (some ⟨n + 25, 0, none⟩) 1 1, .slice (some ⟨n + 26, 0, none⟩) 2 2, .int .i64 2, .slice (some ⟨n + 27, 0, none⟩) 1 1, .slice (some ⟨n + 28, 0, none⟩) 1 1, .slice (some ⟨n + 29, 0, none⟩) 1 1, .slice (some ⟨n + 30, 0, none⟩) 2 2, .int .i64 1, .slice (some ⟨n + 31, 0, none⟩) 1 1, .slice (some ⟨n + 32, 0, none⟩) 1 1, .slice (some ⟨n + 33, 0, none⟩) 1 1] 33,
  .cells #[.slice (some ⟨n + 3, 0, none⟩) 1 1, .slice (some ⟨n + 12, 0, none⟩) 2 2, .slice (some ⟨n + 21, 0, none⟩) 2 2, .slice (some ⟨n + 34, 0, none⟩) 3 3] 31]
structure KR (w : World) (s3 : Value) (W : World) : Prop where
  s3 : s3 = .slice (some ⟨w.heap.size + 8, 0, none⟩) 4 4
  rows : ∀ i r, rowsK[i]? = some r → ∃ kv mv, W.cell? ⟨w.heap.size + 8, i * 2, none⟩ = some kv ∧ W.cell? ⟨w.heap.size + 8, i * 2 + 1, none⟩ = some mv ∧ RI W kv r.key ∧ RI W mv r.m
  below : Below w.heap.size w W
structure KF (w : World) (s4 : Value) (W : World) : Prop where
  s4 : s4 = .slice (some ⟨w.heap.size + 35, 0, none⟩) 4 4
  cells : ∀ k, k ≤ 3 → ∃ g nk, W.cell? ⟨w.heap.size + 35, k, none⟩ = some (.slice (some ⟨g, 0, none⟩) nk nk) ∧ CellsR W ⟨g, 0, none⟩ (cellsK k) ∧ nk = (cellsK k).length
  below : Below w.heap.size w W
theorem cellAt_of {W : World} {g j : Nat} {k s n m : Value} {x : Cel} (h0 : W.cell? ⟨g, j, none⟩ = some k) (h1 : W.cell? ⟨g, j + 1, none⟩ = some (.int .i64 x.cnt)) (h2 : W.cell? ⟨g, j + 2, none⟩ = some s) (h3 : W.cell? ⟨g, j + 3, none⟩ = some n) (h4 : W.cell? ⟨g, j + 4, none⟩ = some m) (hc : CR W k s n m x) (hi : 0 ≤ x.cnt ∧ x.cnt ≤ 1000) : CellAt W ⟨g, j, none⟩ x :=
  ⟨k, s, n, m, h0, h1, h2, h3, h4, hc, ⟨by have := hi.1; show (-9223372036854775808 : Int) ≤ x.cnt; omega, by have := hi.2; show x.cnt ≤ 9223372036854775807; omega⟩⟩
def ofK (k : Nat) (r : Fact) : Cel := ⟨ofKey r.key k, 1, r.m, r.m, r.m⟩
theorem cellsK_grp : ∀ k : Fin 4, grpR (rowsK.map (ofK k.val)) = cellsK k.val
  | 0 => by kernel_rfl
  | 1 => by kernel_rfl
  | 2 => by kernel_rfl
  | 3 => by kernel_rfl
theorem rowsK_ok : ∀ r ∈ rowsK, r.key.length = 2 ∧ r.m.length = 1 := fun r hr => by
  simp only [rowsK, List.mem_cons, List.not_mem_nil, or_false] at hr
  rcases hr with rfl | rfl | rfl | rfl <;> exact ⟨rfl, rfl⟩
theorem row_facts (w : World) : KR w (.slice (some ⟨w.heap.size + 8, 0, none⟩) 4 4) (laysL w (osR w.heap.size)) := by
  obtain ⟨n, hn⟩ : ∃ n, n = w.heap.size := ⟨_, rfl⟩
  have own : ∀ (i : Nat) (vs : List Value) (T : TypeId), (osR n)[i]? = some (.cells vs.toArray T) → Own T (laysL w (osR n)) (n + i) vs := fun i vs T h => by
    have := laysL_at (osR n) w i _ h
    rw [← hn] at this
    exact this
  have hbel : Below w.heap.size w (laysL w (osR n)) := laysL_below _ _ _ (Nat.le_refl _)
  rw [← hn] at hbel ⊢
  generalize laysL w (osR n) = W at own hbel ⊢
  have ri : ∀ (i : Nat) (xs : List Int), (osR n)[i]? = some (.cells (ints xs).toArray 3) → xs.length ≤ 1000 → (∀ x ∈ xs, -1000 ≤ x ∧ x ≤ 1000) → RI W (.slice (some ⟨n + i, 0, none⟩) xs.length xs.length) xs := fun i xs h h1 h2 => own_ri (own i _ _ h) rfl h1 h2
  have oR := own 8 [.slice (some ⟨n, 0, none⟩) 2 2, .slice (some ⟨n + 1, 0, none⟩) 1 1, .slice (some ⟨n + 2, 0, none⟩) 2 2, .slice (some ⟨n + 3, 0, none⟩) 1 1, .slice (some ⟨n + 4, 0, none⟩) 2 2, .slice (some ⟨n + 5, 0, none⟩) 1 1, .slice (some ⟨n + 6, 0, none⟩) 2 2, .slice (some ⟨n + 7, 0, none⟩) 1 1] 36 rfl
  refine ⟨by rw [← hn], fun i r hr => ?_, by rw [← hn]; exact hbel⟩
  rw [← hn]
  match i, hr with
  | 0, hr => simp only [rowsK, List.getElem?_cons_zero, Option.some.injEq] at hr; subst hr; exact ⟨_, _, oR.cell (i := 0) rfl, oR.cell (i := 1) rfl, ri 0 [1, 0] rfl (by decide) (by decide), ri 1 [5] rfl (by decide) (by decide)⟩
  | 1, hr => simp only [rowsK, List.getElem?_cons_zero, List.getElem?_cons_succ, Option.some.injEq] at hr; subst hr; exact ⟨_, _, oR.cell (i := 2) rfl, oR.cell (i := 3) rfl, ri 2 [0, 2] rfl (by decide) (by decide), ri 3 [-3] rfl (by decide) (by decide)⟩
  | 2, hr => simp only [rowsK, List.getElem?_cons_zero, List.getElem?_cons_succ, Option.some.injEq] at hr; subst hr; exact ⟨_, _, oR.cell (i := 4) rfl, oR.cell (i := 5) rfl, ri 4 [1, 2] rfl (by decide) (by decide), ri 5 [4] rfl (by decide) (by decide)⟩
  | 3, hr => simp only [rowsK, List.getElem?_cons_zero, List.getElem?_cons_succ, Option.some.injEq] at hr; subst hr; exact ⟨_, _, oR.cell (i := 6) rfl, oR.cell (i := 7) rfl, ri 6 [1, 0] rfl (by decide) (by decide), ri 7 [-9] rfl (by decide) (by decide)⟩
  | i + 4, hr => simp [rowsK] at hr
theorem cell_facts (w : World) : KF w (.slice (some ⟨w.heap.size + 35, 0, none⟩) 4 4) (laysL w (osK w.heap.size)) := by
  obtain ⟨n, hn⟩ : ∃ n, n = w.heap.size := ⟨_, rfl⟩
  have own : ∀ (i : Nat) (vs : List Value) (T : TypeId), (osK n)[i]? = some (.cells vs.toArray T) → Own T (laysL w (osK n)) (n + i) vs := fun i vs T h => by
    have := laysL_at (osK n) w i _ h
    rw [← hn] at this
    exact this
  have hbel : Below w.heap.size w (laysL w (osK n)) := laysL_below _ _ _ (Nat.le_refl _)
  rw [← hn] at hbel ⊢
  generalize laysL w (osK n) = W at own hbel ⊢
  have ri : ∀ (i : Nat) (xs : List Int), (osK n)[i]? = some (.cells (ints xs).toArray 3) → xs.length ≤ 1000 → (∀ x ∈ xs, -1000 ≤ x ∧ x ≤ 1000) → RI W (.slice (some ⟨n + i, 0, none⟩) xs.length xs.length) xs := fun i xs h h1 h2 => own_ri (own i _ _ h) rfl h1 h2
  have oS := own 35 [.slice (some ⟨n + 3, 0, none⟩) 1 1, .slice (some ⟨n + 12, 0, none⟩) 2 2, .slice (some ⟨n + 21, 0, none⟩) 2 2, .slice (some ⟨n + 34, 0, none⟩) 3 3] 31 rfl
  have oC0 := own 3 [.slice none 0 0, .int .i64 4, .slice (some ⟨n, 0, none⟩) 1 1, .slice (some ⟨n + 1, 0, none⟩) 1 1, .slice (some ⟨n + 2, 0, none⟩) 1 1] 33 rfl
  have oC1 := own 12 [.slice (some ⟨n + 4, 0, none⟩) 1 1, .int .i64 1, .slice (some ⟨n + 5, 0, none⟩) 1 1, .slice (some ⟨n + 6, 0, none⟩) 1 1, .slice (some ⟨n + 7, 0, none⟩) 1 1, .slice (some ⟨n + 8, 0, none⟩) 1 1, .int .i64 3, .slice (some ⟨n + 9, 0, none⟩) 1 1, .slice (some ⟨n + 10, 0, none⟩) 1 1, .slice (some ⟨n + 11, 0, none⟩) 1 1] 33 rfl
  have oC2 := own 21 [.slice (some ⟨n + 13, 0, none⟩) 1 1, .int .i64 2, .slice (some ⟨n + 14, 0, none⟩) 1 1, .slice (some ⟨n + 15, 0, none⟩) 1 1, .slice (some ⟨n + 16, 0, none⟩) 1 1, .slice (some ⟨n + 17, 0, none⟩) 1 1, .int .i64 2, .slice (some ⟨n + 18, 0, none⟩) 1 1, .slice (some ⟨n + 19, 0, none⟩) 1 1, .slice (some ⟨n + 20, 0, none⟩) 1 1] 33 rfl
  have oC3 := own 34 [.slice (some ⟨n + 22, 0, none⟩) 2 2, .int .i64 1, .slice (some ⟨n + 23, 0, none⟩) 1 1, .slice (some ⟨n + 24, 0, none⟩) 1 1, .slice (some ⟨n + 25, 0, none⟩) 1 1, .slice (some ⟨n + 26, 0, none⟩) 2 2, .int .i64 2, .slice (some ⟨n + 27, 0, none⟩) 1 1, .slice (some ⟨n + 28, 0, none⟩) 1 1, .slice (some ⟨n + 29, 0, none⟩) 1 1, .slice (some ⟨n + 30, 0, none⟩) 2 2, .int .i64 1, .slice (some ⟨n + 31, 0, none⟩) 1 1, .slice (some ⟨n + 32, 0, none⟩) 1 1, .slice (some ⟨n + 33, 0, none⟩) 1 1] 33 rfl
  refine ⟨by rw [← hn], fun k hk => ?_, by rw [← hn]; exact hbel⟩
  rw [← hn]
  match k, hk with
  | 0, _ =>
    refine ⟨n + 3, 1, oS.cell (i := 0) rfl, fun j x hx => ?_, rfl⟩
    rw [add0]
    match j, hx with
    | 0, hx => simp only [cellsK, List.getElem?_cons_zero, Option.some.injEq] at hx; subst hx; exact cellAt_of (oC0.cell (i := 0) rfl) (oC0.cell (i := 1) rfl) (oC0.cell (i := 2) rfl) (oC0.cell (i := 3) rfl) (oC0.cell (i := 4) rfl) ⟨ri_none W, ri 0 [-3] rfl (by decide) (by decide), ri 1 [-9] rfl (by decide) (by decide), ri 2 [5] rfl (by decide) (by decide)⟩ (by decide)
    | j + 1, hx => simp [cellsK] at hx
  | 1, _ =>
    refine ⟨n + 12, 2, oS.cell (i := 1) rfl, fun j x hx => ?_, rfl⟩
    rw [add0]
    match j, hx with
    | 0, hx => simp only [cellsK, List.getElem?_cons_zero, Option.some.injEq] at hx; subst hx; exact cellAt_of (oC1.cell (i := 0) rfl) (oC1.cell (i := 1) rfl) (oC1.cell (i := 2) rfl) (oC1.cell (i := 3) rfl) (oC1.cell (i := 4) rfl) ⟨ri 4 [0] rfl (by decide) (by decide), ri 5 [-3] rfl (by decide) (by decide), ri 6 [-3] rfl (by decide) (by decide), ri 7 [-3] rfl (by decide) (by decide)⟩ (by decide)
    | 1, hx => simp only [cellsK, List.getElem?_cons_zero, List.getElem?_cons_succ, Option.some.injEq] at hx; subst hx; exact cellAt_of (oC1.cell (i := 5) rfl) (oC1.cell (i := 6) rfl) (oC1.cell (i := 7) rfl) (oC1.cell (i := 8) rfl) (oC1.cell (i := 9) rfl) ⟨ri 8 [1] rfl (by decide) (by decide), ri 9 [0] rfl (by decide) (by decide), ri 10 [-9] rfl (by decide) (by decide), ri 11 [5] rfl (by decide) (by decide)⟩ (by decide)
    | j + 2, hx => simp [cellsK] at hx
  | 2, _ =>
    refine ⟨n + 21, 2, oS.cell (i := 2) rfl, fun j x hx => ?_, rfl⟩
    rw [add0]
    match j, hx with
    | 0, hx => simp only [cellsK, List.getElem?_cons_zero, Option.some.injEq] at hx; subst hx; exact cellAt_of (oC2.cell (i := 0) rfl) (oC2.cell (i := 1) rfl) (oC2.cell (i := 2) rfl) (oC2.cell (i := 3) rfl) (oC2.cell (i := 4) rfl) ⟨ri 13 [0] rfl (by decide) (by decide), ri 14 [-4] rfl (by decide) (by decide), ri 15 [-9] rfl (by decide) (by decide), ri 16 [5] rfl (by decide) (by decide)⟩ (by decide)
    | 1, hx => simp only [cellsK, List.getElem?_cons_zero, List.getElem?_cons_succ, Option.some.injEq] at hx; subst hx; exact cellAt_of (oC2.cell (i := 5) rfl) (oC2.cell (i := 6) rfl) (oC2.cell (i := 7) rfl) (oC2.cell (i := 8) rfl) (oC2.cell (i := 9) rfl) ⟨ri 17 [2] rfl (by decide) (by decide), ri 18 [1] rfl (by decide) (by decide), ri 19 [-3] rfl (by decide) (by decide), ri 20 [4] rfl (by decide) (by decide)⟩ (by decide)
    | j + 2, hx => simp [cellsK] at hx
  | 3, _ =>
    refine ⟨n + 34, 3, oS.cell (i := 3) rfl, fun j x hx => ?_, rfl⟩
    rw [add0]
    match j, hx with
    | 0, hx => simp only [cellsK, List.getElem?_cons_zero, Option.some.injEq] at hx; subst hx; exact cellAt_of (oC3.cell (i := 0) rfl) (oC3.cell (i := 1) rfl) (oC3.cell (i := 2) rfl) (oC3.cell (i := 3) rfl) (oC3.cell (i := 4) rfl) ⟨ri 22 [0, 2] rfl (by decide) (by decide), ri 23 [-3] rfl (by decide) (by decide), ri 24 [-3] rfl (by decide) (by decide), ri 25 [-3] rfl (by decide) (by decide)⟩ (by decide)
    | 1, hx => simp only [cellsK, List.getElem?_cons_zero, List.getElem?_cons_succ, Option.some.injEq] at hx; subst hx; exact cellAt_of (oC3.cell (i := 5) rfl) (oC3.cell (i := 6) rfl) (oC3.cell (i := 7) rfl) (oC3.cell (i := 8) rfl) (oC3.cell (i := 9) rfl) ⟨ri 26 [1, 0] rfl (by decide) (by decide), ri 27 [-4] rfl (by decide) (by decide), ri 28 [-9] rfl (by decide) (by decide), ri 29 [5] rfl (by decide) (by decide)⟩ (by decide)
    | 2, hx => simp only [cellsK, List.getElem?_cons_zero, List.getElem?_cons_succ, Option.some.injEq] at hx; subst hx; exact cellAt_of (oC3.cell (i := 10) rfl) (oC3.cell (i := 11) rfl) (oC3.cell (i := 12) rfl) (oC3.cell (i := 13) rfl) (oC3.cell (i := 14) rfl) ⟨ri 30 [1, 2] rfl (by decide) (by decide), ri 31 [4] rfl (by decide) (by decide), ri 32 [4] rfl (by decide) (by decide), ri 33 [4] rfl (by decide) (by decide)⟩ (by decide)
    | j + 3, hx => simp [cellsK] at hx
set_option maxRecDepth 100000 in
set_option maxHeartbeats 8000000 in
theorem cellKnown_walk (a0 : Int) (w : World) (h0 : inK .i64 a0) (hT : Tab w) (hw1 : 1 < w.heap.size) :
    Calls Tryd.prog 10 #[.int .i64 a0] w fun e w' => e = .returned (.bool true) ∧ Below w.heap.size w w' := by
  have HKn := Lib.hid (known_any w hT hw1)
  obtain ⟨k, hk⟩ : ∃ k : Nat, a0 % 4 = k := Int.eq_ofNat_of_zero_le (Int.emod_nonneg a0 (by omega))
  have hk3 : k ≤ 3 := by have := Int.emod_lt_of_pos a0 (show (0 : Int) < 4 by omega); omega
  have wb := fun W => lwithin2 a0 4 W h0 (by omega) (by omega)
  rw [hk] at wb
  have Wb := Lib.hid wb
  have HT := Lib.hid hT
  clear hT wb hk
  go_enter Tryd.func10, Tryd.ntmps10
  go_wp2_with fail
  refine HKn.out.mono ?_
  rintro e w2 ⟨rfl, hb1⟩
  have Hb := Lib.hid hb1
  clear hb1 HKn
  go_upto_region 3 with (fail)
  go_cut [3] from 10 to 22 (fun s3 wx => KR w2 s3 wx)
  case first =>
    go_wp2_with fail
    go_meet
    exact row_facts w2
  case rest =>
    rename World => w3
    obtain ⟨rfl, hrows, hb3⟩ := hcut
    have HR := Lib.hid hrows
    have HB3 := Lib.hid hb3
    clear hrows hb3
    go_upto_region 4 with (fail)
    go_cut [4] from 23 to 66 (fun s4 wx => KF w3 s4 wx)
    case first =>
      go_wp2_with fail
      go_meet
      exact cell_facts w3
    case rest =>
      rename World => w4
      obtain ⟨rfl, hcells, hb4⟩ := hcut
      have HC := Lib.hid hcells
      have HB4 := Lib.hid hb4
      clear hcells hb4
      go_wp2_with fail
      refine (Wb.out _).mono ?_
      rintro e w5 ⟨rfl, rfl⟩
      clear Wb
      have HBA := Lib.hid (Hb.out.trans ((HB3.out.trans (HB4.out.mono HB3.out.size)).mono Hb.out.size))
      go_upto_block 0 with (fail)
      go_cut [6] (fun s6 wx => ∃ us, GRs w4.heap.size wx s6 us (rowsK.map (ofK k)) ∧ Below w4.heap.size w4 wx)
      case first =>
        go_wp2_with fail
        go_loopw [6, 7] (fun s6 s7 wr => ∃ (i : Nat) (us : List V5), s7 = .int .i64 i ∧ i ≤ 4 ∧ GRs w4.heap.size wr s6 us ((rowsK.take i).map (ofK k)) ∧ Below w4.heap.size w4 wr) (fun _ s7 _ => 4 - (intOf s7).toNat)
        case atStart => exact ⟨0, [], rfl, by omega, GRs.nil _ _, Below.refl _ _⟩
        case round =>
          rename World => wr
          obtain ⟨i, us, rfl, hi, hg, hb⟩ := hrel
          have HG := Lib.hid hg
          have HB := Lib.hid hb
          clear hg hb
          by_cases hlt : i < 4
          · have d1 : decide ((i : Int) < 4) = true := decide_eq_true (by omega)
            obtain ⟨r, hr⟩ : ∃ r, rowsK[i]? = some r := ⟨_, List.getElem?_eq_getElem (by show i < 4; exact hlt)⟩
            obtain ⟨kv, mv, c0, c1, r1, r2⟩ := HR.out i r hr
            have kk := (Keeps.of_below HB4.out).trans (Keeps.of_below HB.out)
            replace c0 := kk _ _ c0
            replace c1 := kk _ _ c1
            obtain ⟨q1, q2⟩ := rowsK_ok r (List.mem_of_getElem? hr)
            have hww := (Keeps.of_below HBA.out).trans (Keeps.of_below HB.out)
            have hof := of_any kv mv r.key r.m r.key.length k wr rfl (r1.keep kk) (r2.keep kk) (by omega) (by omega) (by omega) (by rw [q1]; show (k : Int) ≤ 3; omega) (HT.out.keep hww) (Nat.lt_of_lt_of_le hw1 (Nat.le_trans HBA.out.size HB.out.size))
            have hstep : ∀ X1 kq s n mm, CO wr.heap.size X1 kq s n mm (ofK k r) → Below wr.heap.size wr X1 → ∃ v' X3, (Builtin.append_ #[31, 31] 31 #[u6, .slice (some ⟨X1.heap.size, 0, none⟩) 1 1]).run Tryd.prog (X1.alloc (.cells #[kq, .int .i64 1, s, n, mm] 33)) = .ok v' X3 ∧
                (∃ us', GRs w4.heap.size X3 v' us' ((rowsK.take (i + 1)).map (ofK k))) ∧ Below w4.heap.size w4 X3 := fun X1 kq s n mm hc hbx => by
              have hg1 := HG.out.below hbx
              have hu : OwnC w4.heap.size X1 ⟨kq, .int .i64 1, s, n, mm⟩ (ofK k r) := ⟨rfl, hc.mono HB.out.size, ⟨by show (-9223372036854775808 : Int) ≤ 1; omega, by show (1 : Int) ≤ 9223372036854775807; omega⟩⟩
              have hul := HG.out.len
              rw [List.length_map, List.length_take] at hul
              obtain ⟨v', X3, hrun, hgr, hgb, -⟩ := append_one hg1 hu (by omega) (Nat.le_trans HB.out.size hbx.size)
              have hlt2 : (rowsK.take (i + 1)).map (ofK k) = (rowsK.take i).map (ofK k) ++ [ofK k r] := by rw [List.take_add_one, hr, List.map_append]; rfl
              refine ⟨v', X3, hrun, ⟨_, by rw [hlt2]; exact hgr⟩, ?_⟩
              have h1 : Below w4.heap.size w4 (X1.alloc (.cells #[kq, .int .i64 1, s, n, mm] 33)) := (HB.out.trans (hbx.mono HB.out.size)).alloc (Nat.le_trans HB.out.size hbx.size) _
              exact h1.grown hgb h1.size fun j e => (hg1.1.lt j e).1
            have Hof := Lib.hid hof
            have Hst := Lib.hid hstep
            have i0 : (0 : Int) ≤ (i : Int) := by omega
            have i1 : (i : Int) < 4 := by omega
            clear hof hstep hr r1 r2 q1 q2 kk hww
            go_wp2_with fail
            refine Hof.out.mono ?_
            rintro e X1 ⟨kq, s, n, mm, rfl, hc, hbx⟩
            obtain ⟨v', X3, hrun, hfin, hb3⟩ := Hst.out X1 kq s n mm hc hbx
            obtain ⟨Pk, ck, f1, -⟩ := hc.key.form
            obtain ⟨Ps, cs, f2, -⟩ := hc.sum.form
            obtain ⟨Pn, cn, f3, -⟩ := hc.mn.form
            obtain ⟨Pm, cm, f4, -⟩ := hc.mx.form
            subst f1 f2 f3 f4
            have Hrun := Lib.hid hrun
            have Hfin := Lib.hid hfin
            have Hb3 := Lib.hid hb3
            clear hrun hfin hb3 hc hbx Hst Hof
            go_wp2_with (at_builtin; have _t := Hrun; refine wpList_append_eq rfl (.tmp 75) (.tmp 82) 31 rfl _ _ _ _ rfl rfl Hrun.out ?_; clear _t Hrun)
            go_roundw
            case rel =>
              obtain ⟨us', hg'⟩ := Hfin.out
              exact ⟨i + 1, us', by go_num, by omega, hg', Hb3.out⟩
            case measure => simp [intOf]; omega
          · obtain rfl : i = 4 := by omega
            have hf : ∃ us, GRs w4.heap.size wr u6 us (rowsK.map (ofK k)) ∧ Below w4.heap.size w4 wr := ⟨us, HG.out, HB.out⟩
            have HF := Lib.hid hf
            clear hf
            go_wp2
            go_meet
            exact HF.out
      case rest =>
        rename World => wx
        obtain ⟨us, hg, hb⟩ := hcut
        obtain ⟨Px, cx, fx, -⟩ := hg.form
        have hul := hg.len
        rw [List.length_map] at hul
        replace hul : us.length = 4 := hul
        rw [hul] at fx
        subst fx
        obtain ⟨gk, nk, cw, hrow, hnk⟩ := HC.out k hk3
        have kx := Keeps.of_below hb
        replace cw := kx _ _ cw
        have heq : grpR (rowsK.map (ofK k)) = cellsK k := cellsK_grp ⟨k, by omega⟩
        have hev : ∀ x ∈ rowsK.map (ofK k), EvenC 1 x ∧ x.key.length ≤ 1000000 := fun x hx => by
          obtain ⟨r, hr, rfl⟩ := List.mem_map.1 hx
          obtain ⟨q1, q2⟩ := rowsK_ok r hr
          refine ⟨⟨q2, q2, q2⟩, ?_⟩
          show (ofKey r.key k).length ≤ 1000000
          unfold ofKey
          rw [List.length_map]
          have := dimsL_le (k : Int)
          omega
        have hgr := fun W (hW : Keeps wx W) => groupR_any Px cx 4 (rowsK.map (ofK k)) 1 W (hg.rowC.1.keep hW) (fun x h => (hev x h).1) (fun x h => (hev x h).2) (by omega) (by rw [List.length_map]; rfl) (by omega)
        rw [heq] at hgr
        have hgo : ∀ x ∈ cellsK k, EvenC 1 x ∧ x.key.length ≤ 1000000 := by
          rw [← heq]
          intro x hx
          refine ⟨grp_even _ [] (fun x h => by cases h) (fun y hy => (hev y hy).1) x hx, ?_⟩
          rcases grp_keys _ [] x hx with ⟨z, hz, _⟩ | ⟨z, hz, e⟩
          · cases hz
          · rw [← e]; exact (hev z hz).2
        have hfew : FewC (cellsK k) := fun x hx => by
          obtain ⟨⟨e1, e2, e3⟩, e4⟩ := hgo x hx
          omega
        have hrw : RowC wx (some ⟨gk, 0, none⟩) nk (cellsK k) := fun _ => ⟨_, rfl, hrow.keep kx⟩
        have HGR := Lib.hid hgr
        have HRW := Lib.hid hrw
        have HNK := Lib.hid hnk
        have HFEW := Lib.hid hfew
        have HBX := Lib.hid (HBA.out.trans (hb.mono HBA.out.size))
        have hnk3 : nk ≤ 3 := by
          rw [hnk]
          rcases (by omega : k = 0 ∨ k = 1 ∨ k = 2 ∨ k = 3) with rfl | rfl | rfl | rfl <;> decide
        have i0 : (0 : Int) ≤ (k : Int) := by omega
        have i1 : (k : Int) < 4 := by omega
        have kw : Keeps wx wx.drew := (Keeps.refl wx).drewN 1
        clear hg hb hul hrow hnk heq hev hgr hgo hfew hrw kx
        go_upto_region 11 with (fail)
        refine wp_region_held_drew (S := fun W => Keeps wx W) (by kernel_rfl) kw (fun hHeld => ?_)
        refine wpAnyH_take (i := 0) (v := ?vk0) rfl (by kernel_rfl) (by kernel_rfl) (by kernel_rfl) (fun _ _ _ h => h) (Or.inl ⟨by rfl, ?yk0⟩) hHeld ?rk0
        case yk0 => (intro W hW; go_simp; first | done | with_reducible rfl)
        try simp only [List.getElem_toArray, List.getElem_cons_zero, Act.put, List.setIfInBounds_toArray, List.set_cons_zero, List.set_cons_succ]
        refine wpAnyH_take (i := 2) (v := ?vk2) rfl (by kernel_rfl) (by kernel_rfl) (by kernel_rfl) (fun _ _ _ h => h) (Or.inl ⟨by rfl, ?yk2⟩) hHeld ?rk2
        case yk2 => (intro W hW; go_simp; first | done | with_reducible rfl)
        try simp only [List.getElem_toArray, List.getElem_cons_succ, List.getElem_cons_zero, Act.put, List.setIfInBounds_toArray, List.set_cons_zero, List.set_cons_succ]
        refine wpAnyH_take (i := 3) (v := ?vk3) rfl (by kernel_rfl) (by kernel_rfl) (by kernel_rfl) (fun _ _ _ h => h) (Or.inl ⟨by rfl, ?yk3⟩) hHeld ?rk3
        case yk3 => (intro W hW; go_simp; first | done | with_reducible rfl)
        try simp only [List.getElem_toArray, List.getElem_cons_succ, List.getElem_cons_zero, Act.put, List.setIfInBounds_toArray, List.set_cons_zero, List.set_cons_succ]
        refine wpAnyH_take (i := 4) (v := ?vk4) rfl (by kernel_rfl) (by kernel_rfl) (by kernel_rfl) (fun _ _ _ h => h) (Or.inl ⟨by rfl, ?yk4⟩) hHeld ?rk4
        case yk4 => (intro W hW; go_simp; first | done | with_reducible rfl)
        try simp only [List.getElem_toArray, List.getElem_cons_succ, List.getElem_cons_zero, Act.put, List.setIfInBounds_toArray, List.set_cons_zero, List.set_cons_succ]
        refine wpAnyH_take (i := 5) (v := ?vk5) rfl (by kernel_rfl) (by kernel_rfl) (by kernel_rfl) (fun _ _ _ h => h) (Or.inl ⟨by rfl, ?yk5⟩) hHeld ?rk5
        case yk5 => (intro W hW; have g0 := hW _ _ cw; clear hW; go_simp; first | done | with_reducible rfl)
        try simp only [List.getElem_toArray, List.getElem_cons_succ, List.getElem_cons_zero, Act.put, List.setIfInBounds_toArray, List.set_cons_zero, List.set_cons_succ]
        refine wpAnyH_ready (rs := [1]) (by kernel_rfl) (by simp) ?_
        refine AllReadyH.cons rfl (fun K hK => ?_) (AllReadyH.nil)
        go_simp
        refine (HGR.out _ kw).mono ?_
        rintro e V1 ⟨v1, u1, rfl, g1, b1⟩
        obtain ⟨P1, d1, f1, -⟩ := g1.form
        have l1 : u1.length = nk := by rw [g1.len, HNK.out]
        rw [l1] at f1
        subst f1
        have R1 := Lib.hid g1.rowC.1
        have KV1 := Lib.hid (kw.trans (Keeps.of_below b1))
        have BV1 := Lib.hid ((below_drewN HBX.out 1).trans (b1.mono (show w.heap.size ≤ wx.drew.heap.size from HBX.out.size)))
        clear g1 b1 l1
        refine hK.out _ _ (KV1.out) (fun hHeld => ?_)
        clear hK K
        try simp only [List.getElem_toArray, List.getElem_cons_succ, List.getElem_cons_zero, Act.put, List.setIfInBounds_toArray, List.set_cons_zero, List.set_cons_succ]
        refine wpAnyH_ready (rs := [6]) (by kernel_rfl) (by simp) ?_
        refine AllReadyH.cons rfl (fun K hK => ?_) (AllReadyH.nil)
        go_simp
        refine (same_yes P1 (some ⟨gk, 0, none⟩) nk d1 nk (cellsK k) _ R1.out (HRW.out.keep KV1.out) HNK.out HFEW.out (by omega)).mono ?_
        rintro e V2 ⟨rfl, b2⟩
        have KV2 := Lib.hid (KV1.out.trans (Keeps.of_below b2))
        have HF4 := Lib.hid (BV1.out.trans (b2.mono BV1.out.size))
        clear b2
        refine hK.out _ _ (KV2.out) (fun hHeld => ?_)
        clear hK K
        try simp only [List.getElem_toArray, List.getElem_cons_succ, List.getElem_cons_zero, Act.put, List.setIfInBounds_toArray, List.set_cons_zero, List.set_cons_succ]
        refine wpAnyH_take (i := 7) (v := ?vk7) rfl (by kernel_rfl) (by kernel_rfl) (by kernel_rfl) (fun _ _ _ h => h) (Or.inl ⟨by rfl, ?yk7⟩) hHeld ?rk7
        case yk7 => (intro W hW; go_simp; first | done | with_reducible rfl)
        try simp only [List.getElem_toArray, List.getElem_cons_succ, List.getElem_cons_zero, Act.put, List.setIfInBounds_toArray, List.set_cons_zero, List.set_cons_succ]
        refine wpAnyH_done (by kernel_rfl) ?_ _
        go_wp2
        go_ret
        exact ⟨rfl, HF4.out⟩
end Go.Proofs.YtbkcclmhgnplcaaDoor
