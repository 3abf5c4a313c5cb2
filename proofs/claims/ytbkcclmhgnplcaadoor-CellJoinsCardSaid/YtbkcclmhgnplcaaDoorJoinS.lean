/- What stands while the reference's Join goes on. -/
import Derived.Test.YtbkcclmhgnplcaaDoorRcopy
namespace Go.Proofs.YtbkcclmhgnplcaaDoor
open Go.RowKit Go.Shelf
theorem app_own {B : Nat} {W : World} {u : Value} {xs : List Int} (x : Int) (hu : OI B W u xs) (hx : inK .i64 x) (hl : xs.length ≤ 1000000) (hB : B ≤ W.heap.size) :
    ∃ A c W', (Builtin.append_ #[22, 22] 22 #[u, .slice (some ⟨W.heap.size, 0, none⟩) 1 1]).run Tryd.prog (W.alloc (.cells #[.int .i64 x] 3)) = .ok (.slice A (xs.length + 1) c) W' ∧ OI B W' (.slice A (xs.length + 1) c) (xs ++ [x]) ∧
      (W.alloc (.cells #[.int .i64 x] 3)).grownBy W' u.ownBlock ∧ ((Value.slice A (xs.length + 1) c).ownBlock = u.ownBlock ∨ (Value.slice A (xs.length + 1) c).ownBlock = some (W.heap.size + 1)) := by
  obtain ⟨i0, hi, hz0, hz1, hz2⟩ := info_parts infoI
  have hb : Below W.heap.size W (W.alloc (.cells #[.int .i64 x] 3)) := (Below.refl _ _).alloc (Nat.le_refl _) _
  have hu1 := hu.below hb
  obtain ⟨v', W', hrun, ho, hgr, _, hbl⟩ := run_append_own_at (P := Tryd.prog) (W.alloc (.cells #[.int .i64 x] 3)) B 22 22 3 i0 _ 1 8 Tryd.underlying22 hi hz0 hz1 hz2 rfl (by omega) u xs.length (ints xs) hu1.1 ⟨W.heap.size, 0, none⟩ 1 1 (ints [x]) (by simp [ints_len])
    (fun j w hw => by
      rw [add0, show (W.alloc (.cells #[.int .i64 x] 3)).cell? ⟨W.heap.size, j, none⟩ = #[.int .i64 x][j]? from cell_of_row _ _ _ _ 3 (0, 0) (heap_alloc_new W _)]
      simpa [ints] using hw) (ints_one [x]) (by simp only [maxLen]; omega) (by omega) (by simp; omega)
  have h2 : OI B W' v' (xs ++ [x]) := ⟨by rw [List.length_append]; simpa [ints] using ho, fun y hy => by
    rcases List.mem_append.1 hy with h | h
    · exact hu.2 y h
    · simp only [List.mem_singleton] at h
      subst h
      exact hx⟩
  obtain ⟨A, c, hv, -⟩ := h2.form
  rw [List.length_append] at hv
  replace hv : v' = .slice A (xs.length + 1) c := hv
  subst hv
  exact ⟨A, c, W', hrun, h2, hgr, by simpa using hbl⟩
structure JS (w W : World) (g : Nat) (ra rb : List Value) (cnt : Int) (v : Nat → Value) (xs : Nat → List Int) : Prop where
  a : Own 33 W w.heap.size ra
  b : Own 33 W (w.heap.size + 1) rb
  r : Own 33 W (w.heap.size + 1 + 1) [.slice none 0 0, .int .i64 0, .slice none 0 0, .slice none 0 0, .slice none 0 0]
  c : Own 33 W g [v 0, .int .i64 cnt, v 1, v 2, v 3]
  gb : w.heap.size + 1 + 1 < g
  bel : Below w.heap.size w W
  ok : ∀ i, i < 4 → OI w.heap.size W (v i) (xs i)
  ap : ∀ i j, i < 4 → j < 4 → i ≠ j → Ap (v i) (v j)
theorem JS.drew {w W : World} {g : Nat} {ra rb : List Value} {cnt : Int} {v : Nat → Value} {xs : Nat → List Int} (h : JS w W g ra rb cnt v xs) : JS w W.drew g ra rb cnt v xs := ⟨h.a, h.b, h.r, h.c, h.gb, h.bel.drew, h.ok, h.ap⟩
theorem JS.step {w W : World} {g : Nat} {ra rb : List Value} {cnt : Int} {v : Nat → Value} {xs : Nat → List Int} (h : JS w W g ra rb cnt v xs) (j : Nat) (hj : 1 ≤ j) (hj3 : j ≤ 3) (x : Int) (hx : inK .i64 x) (hl : (xs j).length ≤ 1000000) :
    ∃ A c X, (Builtin.append_ #[22, 22] 22 #[v j, .slice (some ⟨W.heap.size, 0, none⟩) 1 1]).run Tryd.prog (W.alloc (.cells #[.int .i64 x] 3)) = .ok (.slice A ((xs j).length + 1) c) X ∧
      Own 33 X g [v 0, .int .i64 cnt, v 1, v 2, v 3] ∧ (Own 33 X w.heap.size ra ∧ Own 33 X (w.heap.size + 1) rb ∧ Below w.heap.size w X) ∧ JS w (X.setCell ⟨g, j + 1, none⟩ (.slice A ((xs j).length + 1) c)) g ra rb cnt (upL v j (.slice A ((xs j).length + 1) c)) (fun i => if i = j then xs j ++ [x] else xs i) := by
  have hB : w.heap.size ≤ W.heap.size := h.bel.size
  obtain ⟨A, c, X, hrun, ho, hgr, hbl⟩ := app_own x (h.ok j (by omega)) hx hl hB
  have hal : Below W.heap.size W (W.alloc (.cells #[.int .i64 x] 3)) := (Below.refl _ _).alloc (Nat.le_refl _) _
  have hj1 := (h.ok j (by omega)).below hal
  have own : ∀ {n : Nat} {us : List Value}, Own 33 W n us → Own 33 X n us := fun o => (o.alloc _).grownI hj1.1 (by decide) hgr
  have hbx : Below w.heap.size w X := (h.bel.alloc hB _).grown hgr (by simp; omega) fun k e => (hj1.1.lt k e).1
  have hc := own h.c
  refine ⟨A, c, X, hrun, hc, ⟨own h.a, own h.b, hbx⟩, ⟨(own h.a).only (only_setCell _ _ _ _) (by have := h.gb; omega), (own h.b).only (only_setCell _ _ _ _) (by have := h.gb; omega), (own h.r).only (only_setCell _ _ _ _) (by have := h.gb; omega), ?_, h.gb, hbx.setCell (by have := h.gb; show w.heap.size ≤ g; omega) _, fun i hi => ?_, fun i k hi hk hik => ?_⟩⟩
  · have := hc.set_ (j + 1) (.slice A ((xs j).length + 1) c)
    rcases (by omega : j = 1 ∨ j = 2 ∨ j = 3) with rfl | rfl | rfl <;> exact this
  · by_cases e : i = j
    · subst e
      rw [upL_same, if_pos rfl]
      exact ho.box hc (by decide)
    · rw [upL_ne _ _ e, if_neg e]
      exact (((h.ok i hi).below hal).grownI (h.ap i j hi (by omega) e) hgr).box hc (by decide)
  · have new : ∀ q, q < 4 → q ≠ j → Ap (v q) (.slice A ((xs j).length + 1) c) := fun q hq hqj b h1 h2 => by
      rcases hbl with e | e
      · rw [e] at h2
        exact h.ap q j hq (by omega) hqj b h1 h2
      · rw [e] at h2
        injection h2 with h2
        have := ((h.ok q hq).1.lt b h1).2
        omega
    by_cases e1 : i = j
    · subst e1
      rw [upL_same, upL_ne _ _ (Ne.symm hik)]
      exact (new k hk (Ne.symm hik)).symm
    · rw [upL_ne _ _ e1]
      by_cases e2 : k = j
      · subst e2
        rw [upL_same]
        exact new i hi e1
      · rw [upL_ne _ _ e2]
        exact h.ap i k hi hk hik
theorem Nums.cell_ {kd : IntKind} {w : World} {ad : Addr} {n k : Nat} {xs : List Int} {x : Int} (h : Nums kd w (some ad) n xs) (hk : k < n) (hx : xs[k]? = some x) : w.cell? (ad.add k) = some (.int kd x) := by
  obtain ⟨ad', e, hc⟩ := h.2.2 (by omega)
  injection e with e
  subst e
  exact hc k x hx
theorem wrap64_in (x : Int) : inK .i64 (wrap64 x) := by unfold wrap64; exact ⟨by omega, by omega⟩
theorem zip_at {f : Int → Int → Int} {a b : List Int} {i : Nat} {x y : Int} (hx : a[i]? = some x) (hy : b[i]? = some y) : (List.zipWith f a b).take (i + 1) = (List.zipWith f a b).take i ++ [f x y] := by
  rw [List.take_add_one, List.getElem?_zipWith, hx, hy]
  rfl
end Go.Proofs.YtbkcclmhgnplcaaDoor
