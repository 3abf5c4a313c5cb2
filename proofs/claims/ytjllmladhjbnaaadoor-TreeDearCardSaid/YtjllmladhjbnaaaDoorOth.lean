/- The laws' other plan, by numbers. -/
import Derived.Deep.CutRange
import Derived.Deep.DeepCutAuto
import Derived.Shelf.Abstract
import Derived.Test.YtjllmladhjbnaaaDoorSoA
import Derived.Test.YtjllmladhjbnaaaDoorRset
import Derived.Test.YtjllmladhjbnaaaDoorInts
import Derived.Test.YtjllmladhjbnaaaDoorRegion
namespace Go.Proofs.YtjllmladhjbnaaaDoor
open Go.RowKit Go.Shelf
attribute [local go_sem] Oper.semAt_some
/-- An edge is appended; a row of numbers stays. -/
theorem oe_push {B B' : Nat} {w : World} {v u : Value} {es : List Ed} {xs : List Int} (e : Ed) (h : OE B w v es) (ho : OI B' w u xs) (hn : es.length + 1 ≤ 1000) (hB : B ≤ w.heap.size) :
    ∃ v' w', (Builtin.append_ #[30, 30] 30 #[v, .slice (some ⟨w.heap.size, 0, none⟩) 1 1]).run Tryd.prog (w.alloc (.cells #[.int .i64 e.s, .int .i64 e.p, .bool e.sc] 36)) = .ok v' w' ∧ OE B w' v' (es ++ [e]) ∧ OI B' w' u xs ∧ Below B w w' := by
  obtain ⟨i0, hi, hz0, hz1, hz2⟩ := info_parts infoE
  obtain ⟨v', w', hrun, ho', hgr, _, _⟩ := run_append_own_at (P := Tryd.prog) (w.alloc (.cells #[.int .i64 e.s, .int .i64 e.p, .bool e.sc] 36)) B 30 30 36 i0 _ 3 24 Tryd.underlying30 hi hz0 hz1 hz2 rfl (by omega) v es.length (eCs es) (h.alloc _)
    ⟨w.heap.size, 0, none⟩ 1 1 (eCs [e]) (by rw [eCs_len]; rfl) (fun j x hx => by
      rw [add0, show (w.alloc (.cells #[.int .i64 e.s, .int .i64 e.p, .bool e.sc] 36)).cell? ⟨w.heap.size, j, none⟩ = #[Value.int .i64 e.s, .int .i64 e.p, .bool e.sc][j]? from cell_of_row _ _ _ _ 36 (0, 0) (heap_alloc_new w _)]
      simpa [eCs, eC] using hx) (eCs_one [e]) (by simp [maxLen]; omega) (by omega) (by simp; omega)
  refine ⟨v', w', hrun, ?_, ⟨(ho.1.alloc _).kept hgr (own_apart ho.1 h (by decide)), ho.2⟩, ((Below.refl B w).alloc hB _).grown hgr (by simp; omega) (fun k e => (h.lt k e).1)⟩
  unfold OE
  rw [List.length_append, eCs_app]
  exact ho'
theorem ownE_kept {B g : Nat} {w w' : World} {o : Obj} {u : Value} {xs : List Int} {es : List Ed} (h : OI B w u xs) (ho : OwnE w g es) (hgr : (w.alloc o).grownBy w' u.ownBlock) : OwnE w' g es := by
  have hl := ho.lt
  refine ((hgr.block g (by simp; omega) fun e => ?_).trans (Below.heap_alloc _ _ _ hl)).trans ho
  rcases h.1.2 with ⟨e0, _⟩ | ⟨gg, cap, cur, e0, _, a2, _⟩
  · rw [e0] at e; cases e
  · rw [e0] at e
    have e' : g = gg := by simpa [Value.ownBlock] using e
    subst e'
    unfold OwnE Own at ho
    rw [ho] at a2
    injection a2 with a2
    injection a2 with _ h3 _
    exact absurd h3 (by decide)
/-- A number is appended; a row of edges stays. -/
theorem oi_push2 {B B' : Nat} {w : World} {v u : Value} {es : List Ed} {xs : List Int} (x : Int) (h : OI B w u xs) (ho : OE B' w v es) (hx : inK .i64 x) (hn : xs.length ≤ 1000) (hB : B ≤ w.heap.size) :
    ∃ u' w', (Builtin.append_ #[22, 22] 22 #[u, .slice (some ⟨w.heap.size, 0, none⟩) 1 1]).run Tryd.prog (w.alloc (.cells #[.int .i64 x] 3)) = .ok u' w' ∧ OI B w' u' (xs ++ [x]) ∧ OE B' w' v es ∧ Below B w w' ∧ ∀ g es', OwnE w g es' → OwnE w' g es' := by
  obtain ⟨i0, hi, hz0, hz1, hz2⟩ := info_parts infoI
  obtain ⟨u', w', hrun, ho', hgr, _, _⟩ := run_append_own_at (P := Tryd.prog) (w.alloc (.cells #[.int .i64 x] 3)) B 22 22 3 i0 _ 1 8 Tryd.underlying22 hi hz0 hz1 hz2 rfl (by omega) u xs.length (ints xs) (h.1.alloc _)
    ⟨w.heap.size, 0, none⟩ 1 1 [.int .i64 x] rfl (fun j y hy => by
      rw [add0, show (w.alloc (.cells #[.int .i64 x] 3)).cell? ⟨w.heap.size, j, none⟩ = #[.int .i64 x][j]? from cell_of_row _ _ _ _ 3 (0, 0) (heap_alloc_new w _)]
      simpa using hy)
    (by intro y hy; simp at hy; subst hy; rfl) (by simp [maxLen]; omega) (by omega) (by simp; omega)
  refine ⟨u', w', hrun, ⟨by rw [List.length_append]; simpa [ints] using ho', fun y hy => ?_⟩, (ho.alloc _).kept hgr (own_apart ho h.1 (by decide)), ((Below.refl B w).alloc hB _).grown hgr (by simp; omega) (fun k e => (h.1.lt k e).1), fun g es' hx' => ownE_kept h hx' hgr⟩
  rcases List.mem_append.1 hy with g | g
  · exact h.2 y g
  · rw [List.mem_singleton.1 g]; exact hx
/-- Which parents are scanned, in a row. -/
def scnL (es : List Ed) : List Int := (es.filter fun x => x.sc).map (·.p)
theorem scnL_snoc (es : List Ed) (e : Ed) : scnL (es ++ [e]) = if e.sc then scnL es ++ [e.p] else scnL es := by
  unfold scnL
  rw [List.filter_append, List.map_append]
  cases h : e.sc <;> simp [h]
theorem scnL_any (es : List Ed) (p : Int) : (scnL es).any (fun x => x == p) = es.any fun x => x.sc && x.p == p := by
  unfold scnL
  rw [List.any_map, List.any_filter]
  rfl
theorem scnL_len (es : List Ed) : (scnL es).length ≤ es.length := by
  unfold scnL
  rw [List.length_map]
  exact List.length_filter_le _ _
theorem anyI_take' {l : List Int} {k : Nat} {x p : Int} (h : l[k]? = some x) : (l.take (k + 1)).any (fun x => x == p) = ((l.take k).any (fun x => x == p) || x == p) := by
  rw [List.take_add_one, h, List.any_append]; simp
theorem tdiv4_bd {k : Int} (h : inK .i64 k) : -2305843009213693953 ≤ k.tdiv 4 ∧ k.tdiv 4 ≤ 2305843009213693953 := by
  obtain ⟨h1, h2⟩ := h
  rw [Int.tdiv_eq_ediv, show Int.sign 4 = 1 from rfl]
  split <;> omega
end Go.Proofs.YtjllmladhjbnaaaDoor
