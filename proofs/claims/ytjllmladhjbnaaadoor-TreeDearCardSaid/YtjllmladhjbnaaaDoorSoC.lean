/- Package sorts: Right. -/
import Derived.Test.YtjllmladhjbnaaaDoorSoA
import Derived.Test.YtjllmladhjbnaaaDoorRegion
import Derived.Test.YtjllmladhjbnaaaDoorRegP
namespace Go.Proofs.YtjllmladhjbnaaaDoor
open Go.RowKit Go.Shelf
attribute [local go_sem] Oper.semAt_some
/-- A block of bools. -/
def BArr (w : World) (g : Nat) (bs : List Bool) : Prop := Own 4 w g (bs.map Value.bool)
theorem BArr.cell {w : World} {g : Nat} {bs : List Bool} (h : BArr w g bs) {i : Nat} {b : Bool} (hb : bs[i]? = some b) : w.cell? ⟨g, i, none⟩ = some (.bool b) := Own.cell h (by rw [List.getElem?_map, hb]; rfl)
theorem BArr.set_ {w : World} {g : Nat} {bs : List Bool} (h : BArr w g bs) (i : Nat) (b : Bool) : BArr (w.setCell ⟨g, i, none⟩ (.bool b)) g (bs.set i b) := by
  have := Own.set_ h i (.bool b)
  rwa [← List.map_set] at this
/-- Which parents are scanned, of the first edges. -/
def scT (es : List Ed) (N k : Nat) : List Bool := (List.range N).map fun (p : Nat) => (es.take k).any fun x => x.sc && x.p == (p : Int)
theorem scT_at (es : List Ed) {N k p : Nat} (h : p < N) : (scT es N k)[p]? = some ((es.take k).any fun x => x.sc && x.p == (p : Int)) := by
  unfold scT
  rw [List.getElem?_map, List.getElem?_range h]; rfl
theorem scT_len (es : List Ed) (N k : Nat) : (scT es N k).length = N := by simp [scT]
theorem scT_set {es : List Ed} {N k p : Nat} {e : Ed} (he : es[k]? = some e) (hp : e.p = (p : Int)) : (scT es N k).set p (((es.take k).any fun x => x.sc && x.p == (p : Int)) || e.sc) = scT es N (k + 1) := by
  apply List.ext_getElem?
  intro i
  by_cases hi : i < N
  · rw [scT_at es hi, List.take_add_one, he]
    by_cases hip : p = i
    · subst hip
      rw [List.getElem?_set_self (by rw [scT_len]; exact hi)]
      simp [hp]
    · rw [List.getElem?_set_ne hip, scT_at es hi]
      have : ¬ e.p = (i : Int) := by omega
      simp [this]
  · rw [List.getElem?_eq_none (by simp [scT]; omega), List.getElem?_eq_none (by simp [scT]; omega)]
theorem scT_zero (es : List Ed) (N : Nat) {d : Nat} (h : es[0]? = some (topE d)) : scT es N 1 = List.replicate N false := by
  rw [List.eq_replicate_iff]
  refine ⟨scT_len _ _ _, fun b hb => ?_⟩
  obtain ⟨p, -, rfl⟩ := List.mem_map.1 hb
  rw [List.take_add_one, h]
  simp [topE]
theorem infoB : (Tryd.prog.info? 4).map (fun i => (i.zero, i.size, i.bytes)) = some (some (.bool false), 1, 1) := by kernel_rfl
theorem plan_false {es : List Ed} {d k : Nat} (hk : k < es.length) (h : okAt d es k = false) : planB es d = false := by
  unfold planB
  rw [okTo_false h hk, Bool.and_false]
end Go.Proofs.YtjllmladhjbnaaaDoor
/- Package sorts: Cost. -/
namespace Go.Proofs.YtjllmladhjbnaaaDoor
open Go.RowKit Go.Shelf
attribute [local go_sem] Oper.semAt_some
def sumTo (cs : List Int) (n : Int) (es : List Ed) (k : Nat) : Int := ((es.take k).map (costE cs n)).sum
theorem sumTo_succ {cs : List Int} {n : Int} {es : List Ed} {k : Nat} {e : Ed} (h : es[k]? = some e) : sumTo cs n es (k + 1) = sumTo cs n es k + costE cs n e := by
  unfold sumTo
  rw [List.take_add_one, h]
  simp
theorem sumTo_bd {cs : List Int} {n : Int} {es : List Ed} (h : ∀ e ∈ es, 0 ≤ costE cs n e ∧ costE cs n e ≤ 3000) : ∀ k, k ≤ es.length → 0 ≤ sumTo cs n es k ∧ sumTo cs n es k ≤ 3000 * (k : Int)
  | 0, _ => by simp [sumTo]
  | k + 1, hk => by
    have ih := sumTo_bd h k (by omega)
    have he : es[k]? = some es[k] := List.getElem?_eq_getElem (by omega)
    have := h es[k] (List.getElem_mem _)
    rw [sumTo_succ he]
    omega
theorem right_p {cs : List Int} {es : List Ed} (g1 : 1 ≤ cs.length) (g4 : cs.length ≤ 4) (h : RightP cs.length es) {e : Ed} (he : e ∈ es.tail) : 0 ≤ e.p ∧ e.p ≤ fullB cs.length := by
  have hm := h.mem (List.mem_of_mem_tail he)
  exact sets_bd _ g1 g4 _ (par_lvl _ g1 g4 _ hm _ (h.par e he)).2
theorem costE_bd {cs : List Int} {n : Int} {es : List Ed} (g : Good cs n) (h : RightP cs.length es) : ∀ e ∈ es, 0 ≤ costE cs n e ∧ costE cs n e ≤ 3000 := by
  intro e he
  unfold costE
  split
  · omega
  · rename_i hp
    have ht : e ∈ es.tail := by
      rw [h.cons] at he
      rcases List.mem_cons.1 he with rfl | h2
      · exact absurd (show (-1 : Int) < 0 by omega) hp
      · exact h2
    obtain ⟨p0, p1⟩ := right_p g.d1 g.d4 h ht
    have a := sortB_bd g.c p0 p1 g.d4 g.n0 g.n3
    have b := sizeB_bd g.c p0 p1 g.d4 g.n0 g.n3
    split <;> omega
/-- What Cost answers. -/
def costB (cs : List Int) (n : Int) (es : List Ed) : Int := if planB es cs.length then costP cs n es else 0
end Go.Proofs.YtjllmladhjbnaaaDoor
