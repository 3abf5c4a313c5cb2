/- What a law's walk is told of the slices of numbers that come in. -/
import Derived.Test.YtejjbbomkedpcaaKnown
import Derived.Test.YtejjbbomkedpcaaGrow
import Derived.OpenShut
import Derived.Maps.AppendAt
namespace Go.Proofs.Ytejjbbomkedpcaa
open Go.RowKit
/-- A slice of integers that came in: nil, or a row of cap numbers, the first len its elements. -/
def IsRow (k : IntKind) (w : World) (a : Option Addr) (len cap : Nat) (zs : List Int) : Prop :=
  (a = none ∧ len = 0 ∧ cap = 0 ∧ zs = []) ∨
  ∃ x, a = some x ∧ len ≤ cap ∧ cap ≤ maxLen ∧ zs.length = cap ∧ (∀ i, i < zs.length → w.cell? (x.add i) = some (.int k (zs.getD i 0))) ∧ ∀ n ∈ zs, (Lit.int k n).wf = true
theorem IsRow.nums {w : World} {a : Option Addr} {len cap : Nat} {zs : List Int} (h : IsRow .i64 w a len cap zs) : Nums .i64 w a len (zs.take len) ∧ len ≤ cap ∧ cap ≤ 9223372036854775807 := by
  rcases h with ⟨rfl, rfl, rfl, rfl⟩ | ⟨x, rfl, h1, h2, h3, h4, h5⟩
  · exact ⟨Nums.nil _ _ _, Nat.le_refl _, by omega⟩
  · refine ⟨⟨by rw [List.length_take, h3, Nat.min_eq_left h1], fun y hy => ?_, fun _ => ⟨x, rfl, fun j y hj => ?_⟩⟩, h1, by simpa [maxLen] using h2⟩
    · have := bounds_i64 (h5 y (List.mem_of_mem_take hy))
      exact this
    · rw [List.getElem?_take] at hj
      split at hj
      · have hjl : j < zs.length := (List.getElem?_eq_some_iff.1 hj).1
        rw [h4 j hjl, List.getD_eq_getElem?_getD, hj]
        rfl
      · cases hj
theorem IsRow.bytes {w : World} {a : Option Addr} {len cap : Nat} {zs : List Int} (h : IsRow .u8 w a len cap zs) : Nums .u8 w a len (zs.take len) ∧ len ≤ cap ∧ cap ≤ 9223372036854775807 := by
  rcases h with ⟨rfl, rfl, rfl, rfl⟩ | ⟨x, rfl, h1, h2, h3, h4, h5⟩
  · exact ⟨Nums.nil _ _ _, Nat.le_refl _, by omega⟩
  · refine ⟨⟨by rw [List.length_take, h3, Nat.min_eq_left h1], fun y hy => ?_, fun _ => ⟨x, rfl, fun j y hj => ?_⟩⟩, h1, by simpa [maxLen] using h2⟩
    · have := bounds_u8 (h5 y (List.mem_of_mem_take hy))
      exact this
    · rw [List.getElem?_take] at hj
      split at hj
      · have hjl : j < zs.length := (List.getElem?_eq_some_iff.1 hj).1
        rw [h4 j hjl, List.getD_eq_getElem?_getD, hj]
        rfl
      · cases hj
theorem below_grown {B : Nat} {w w' : World} {v : Value} {e : TypeId} {s n : Nat} {xs : List Value} (hg : w.grownBy w' v.ownBlock) (ho : w.ownsRow B e s v n xs) (hB : B ≤ w.heap.size) : Below B w w' :=
  (Below.refl B w).grown hg hB fun k hk => (ho.lt k hk).1
/-- A row of two slices that the statement has just laid is appended to a list of the call's own. -/
theorem append_rowW (wr : World) (Bl Br : Nat) (v : Value) (l : List Fact) (r : Fact) (kv mv : Value) (g : Nat) (hg : g = wr.heap.size) (hR : RowsW wr Bl Br v l) (hr : RowV wr Br (kv, mv) r) (h1 : kv.oneCell' = true) (h2 : mv.oneCell' = true) (hn : l.length ≤ 1000000) (hB : Bl ≤ wr.heap.size) :
    ∃ v' w', (Builtin.append_ #[25, 25] 25 #[v, .slice (some ⟨g, 0, none⟩) 1 1]).run Try.prog (wr.alloc (.cells #[kv, mv] 33)) = .ok v' w' ∧ RowsW w' Bl Br v' (l ++ [r]) ∧ Below Bl wr w' := by
  obtain ⟨i0, hi, hz0, hz1, hz2⟩ := info_parts infoRow
  obtain ⟨vs, h3, h4, h5⟩ := hR.alloc (.cells #[kv, mv] 33)
  obtain ⟨v', w', hrun, ho, hgr, _, _⟩ := run_append_own_at (P := Try.prog) (wr.alloc (.cells #[kv, mv] 33)) Bl 25 25 33 i0 _ 2 48 Try.underlying25 hi hz0 hz1 hz2 rfl (by omega) v l.length (cellsV vs) h4
    ⟨g, 0, none⟩ 1 1 [kv, mv] rfl (fun j u hu => by
      rw [add0, hg, show (wr.alloc (.cells #[kv, mv] 33)).cell? ⟨wr.heap.size, j, none⟩ = #[kv, mv][j]? from cell_of_row _ _ _ _ 33 (0, 0) (heap_alloc_new wr _)]
      simpa using hu)
    (by intro u hu; simp at hu; rcases hu with rfl | rfl <;> assumption) (by simp [maxLen]; omega) (by omega) (by simp; omega)
  have hb := (Below.refl wr.heap.size wr).alloc (Nat.le_refl _) (.cells #[kv, mv] 33)
  exact ⟨v', w', hrun, RowsW.snoc h3 h4 h5 ⟨own_below hr.1 hb (Nat.le_refl _), own_below hr.2 hb (Nat.le_refl _)⟩ ho hgr,
    (hb.mono hB).trans (below_grown hgr h4 (by simp; omega))⟩
theorem append_row (wr : World) (B : Nat) (v : Value) (l : List Fact) (r : Fact) (kv mv : Value) (g : Nat) (hg : g = wr.heap.size) (hR : RowsV wr B v l) (hr : RowV wr B (kv, mv) r) (h1 : kv.oneCell' = true) (h2 : mv.oneCell' = true) (hn : l.length ≤ 1000000) (hB : B ≤ wr.heap.size) :
    ∃ v' w', (Builtin.append_ #[25, 25] 25 #[v, .slice (some ⟨g, 0, none⟩) 1 1]).run Try.prog (wr.alloc (.cells #[kv, mv] 33)) = .ok v' w' ∧ RowsV w' B v' (l ++ [r]) ∧ Below B wr w' :=
  append_rowW wr B B v l r kv mv g hg hR hr h1 h2 hn hB
theorem infoInt2 : (Try.prog.info? 3).map (fun i => (i.zero, i.size, i.bytes)) = some (some (.int .i64 0), 1, 8) := by kernel_rfl
/-- One number is appended to a row of the call's own. -/
theorem append_int (wr : World) (B : Nat) (v : Value) (xs : List Int) (x : Int) (g : Nat) (hg : g = wr.heap.size) (h : wr.ownsRow B 3 1 v xs.length (ints xs)) (hn : xs.length ≤ 1000000) (hB : B ≤ wr.heap.size) :
    ∃ v' w', (Builtin.append_ #[22, 22] 22 #[v, .slice (some ⟨g, 0, none⟩) 1 1]).run Try.prog (wr.alloc (.cells #[.int .i64 x] 3)) = .ok v' w' ∧ w'.ownsRow B 3 1 v' (xs ++ [x]).length (ints (xs ++ [x])) ∧ (wr.alloc (.cells #[.int .i64 x] 3)).grownBy w' v.ownBlock := by
  obtain ⟨i0, hi, hz0, hz1, hz2⟩ := info_parts infoInt2
  obtain ⟨v', w', hrun, ho, hgr, _, _⟩ := run_append_own_at (P := Try.prog) (wr.alloc (.cells #[.int .i64 x] 3)) B 22 22 3 i0 _ 1 8 Try.underlying22 hi hz0 hz1 hz2 rfl (by omega) v xs.length (ints xs) (h.alloc _)
    ⟨g, 0, none⟩ 1 1 [.int .i64 x] rfl (fun j u hu => by
      rw [add0, hg, show (wr.alloc (.cells #[.int .i64 x] 3)).cell? ⟨wr.heap.size, j, none⟩ = #[.int .i64 x][j]? from cell_of_row _ _ _ _ 3 (0, 0) (heap_alloc_new wr _)]
      simpa using hu)
    (by intro u hu; simp at hu; subst hu; rfl) (by simp [maxLen]; omega) (by omega) (by simp; omega)
  exact ⟨v', w', hrun, by rw [List.length_append]; simpa [ints] using ho, hgr⟩
theorem own_kept {w w' : World} {b b' : Nat} {e e' : TypeId} {s s' n n' : Nat} {v u : Value} {xs ys : List Value} (h : w.ownsRow b e s v n xs) (hg : w.grownBy w' u.ownBlock) (hu : w.ownsRow b' e' s' u n' ys) (hne : e ≠ e') : w'.ownsRow b e s v n xs :=
  h.kept hg (own_apart h hu hne)

/-- All rows of one list are appended to an empty one. -/
theorem append_rows (wr : World) (Bl Bn Br : Nat) (g n c : Nat) (l : List Fact) (hR : RowsW wr Bl Br (.slice (some ⟨g, 0, none⟩) n c) l) (hl : l.length = n) (h0 : 0 < n) (hn : n ≤ 1000000) (hB : Bn ≤ wr.heap.size) (e : Value) (he : wr.ownsRow Bn 33 2 e 0 []) :
    ∃ v' w', (Builtin.append_ #[25, 25] 25 #[e, .slice (some ⟨g, 0, none⟩) n c]).run Try.prog wr = .ok v' w' ∧ RowsW w' Bn Br v' l ∧ Below Bn wr w' := by
  obtain ⟨i0, hi, hz0, hz1, hz2⟩ := info_parts infoRow
  obtain ⟨vs, h3, h4, h5⟩ := hR
  obtain ⟨A, c', hv, _, _, hg⟩ := own_form h4
  injection hv with e1 e2 e3
  obtain ⟨g', e4, _, hcell⟩ := hg (by omega)
  rw [← e1] at e4
  injection e4 with e4
  injection e4 with e4
  subst e4
  have h1 : ∀ u ∈ cellsV vs, u.oneCell' = true := by
    intro u hu
    simp only [cellsV, List.mem_flatMap] at hu
    obtain ⟨p, hp, hu⟩ := hu
    obtain ⟨i, hi2⟩ := List.getElem?_of_mem hp
    have hil : i < l.length := by rw [← h3]; exact (List.getElem?_eq_some_iff.1 hi2).1
    obtain ⟨a1, a2⟩ := h5 i p _ hi2 (List.getElem?_eq_getElem hil)
    obtain ⟨_, _, q1, _⟩ := own_form a1
    obtain ⟨_, _, q2, _⟩ := own_form a2
    simp at hu
    rcases hu with rfl | rfl
    · rw [q1]; rfl
    · rw [q2]; rfl
  obtain ⟨v', w', hrun, ho, hgr, _, _⟩ := run_append_own_at (P := Try.prog) wr Bn 25 25 33 i0 _ 2 48 Try.underlying25 hi hz0 hz1 hz2 rfl (by omega) e 0 [] he
    ⟨g, 0, none⟩ n c (cellsV vs) (by rw [cellsV_len, h3, hl]) (fun j u hu => by rw [add0]; exact hcell j u hu) h1 (by simp [maxLen]; omega) (by omega) hB
  have keep : ∀ {u : Value} {k : Nat} {xs : List Value}, wr.ownsRow Br 3 1 u k xs → w'.ownsRow Br 3 1 u k xs := fun hu => hu.kept hgr (own_apart hu he (by decide))
  refine ⟨v', w', hrun, ⟨vs, h3, ?_, fun i p r hp hr => ⟨keep (h5 i p r hp hr).1, keep (h5 i p r hp hr).2⟩⟩, below_grown hgr he hB⟩
  rw [hl]
  simpa using ho
/-- A row stays where a box of another kind is written. -/
theorem own_box {w : World} {b : Nat} {e T : TypeId} {s n g : Nat} {v x y : Value} {xs : List Value} (h : w.ownsRow b e s v n xs) (hb : Box2 T w g x y) (hne : e ≠ T) (i : Nat) (u : Value) : (w.setCell ⟨g, i, none⟩ u).ownsRow b e s v n xs := by
  refine h.kept (row := some g) ⟨rfl, rfl, rfl, by simp [World.setCell], fun k _ hk => Below.heap_setCell _ _ _ _ (fun e => hk (by simp [e]))⟩ ?_
  rcases h.2 with ⟨rfl, _⟩ | ⟨g', cap, cur, rfl, _, hh, _⟩
  · exact .inl rfl
  · refine .inr fun e0 => ?_
    simp only [Value.ownBlock, Option.some.injEq] at e0
    subst e0
    unfold Box2 at hb
    rw [hh] at hb
    injection hb with hb
    injection hb with _ h2
    exact hne h2

end Go.Proofs.Ytejjbbomkedpcaa
