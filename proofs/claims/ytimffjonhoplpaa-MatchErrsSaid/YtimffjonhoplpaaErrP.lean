/- Costs that come in; a row that is named five times more. -/
import Derived.Test.YtimffjonhoplpaaMatU
import Derived.Deep.Matrix
namespace Go.Proofs.Ytimffjonhoplpaa
open Go.RowKit Go.Shelf Go.WideShapes Go.ChangeShapes
theorem mat_in {H : Type} {enc : TypeId × Value → H} {W : World} {base fuel : Nat} {held : Bool} {a : Option Addr} {len cap : Nat} {x : DataW H × List MemPlace}
    (h : DataW.trod enc Try.prog W base (fun _ => true) held fuel 24 (Value.slice a len cap).cells.toList = some x) : ∃ M, Mat W a len M := by
  rcases Go.Deep.open_int_rows Try.underlying24 Try.underlying22 Try.underlying3 (by kernel_rfl) (by kernel_rfl) h with ⟨hcs, _⟩ | ⟨x, l, c, A, L, C, Z, hcs, _, hl, hm, _, hr⟩
  · simp [Value.cells] at hcs
    obtain ⟨rfl, rfl, rfl⟩ := hcs
    exact ⟨[], rfl, fun h => absurd h (by omega)⟩
  · simp [Value.cells] at hcs
    obtain ⟨rfl, rfl, rfl⟩ := hcs
    refine ⟨(List.range len).map fun r => (Z r).take (L r), by simp, fun _ => ⟨_, rfl, fun j r hj => ?_⟩⟩
    have hjl : j < len := by have := (List.getElem?_eq_some_iff.1 hj).1; simpa using this
    rw [List.getElem?_map, List.getElem?_range hjl] at hj
    simp only [Option.map_some, Option.some.injEq] at hj
    subst hj
    obtain ⟨h1, h2, h3, h4, h5, h6, h7⟩ := hr j (by omega)
    have hlen : ((Z j).take (L j)).length = L j := by rw [List.length_take, h4]; omega
    refine ⟨A j, C j, by rw [hlen]; exact h1, rfl, fun y hy => ?_, fun hpos => ?_⟩
    · have := bounds_i64 (h5 y (List.mem_of_mem_take hy))
      exact this
    · rw [hlen] at hpos
      cases hA : A j with
      | none => have := h6 hA; omega
      | some a' =>
        refine ⟨a', rfl, fun q y hy => ?_⟩
        have hq : q < L j := by have := (List.getElem?_eq_some_iff.1 hy).1; rwa [hlen] at this
        rw [List.getElem?_take, if_pos hq] at hy
        rw [(h7 a' hA).2 q (by omega), List.getD_eq_getElem?_getD, hy]
        rfl
/-- One row, named five times more. -/
theorem om_five {B : Nat} {w : World} {v u : Value} {M : List (List Int)} {us : List Value} {r : List Int} (h : OM B w v M us) (hu : us[0]? = some u) (hr : M[0]? = some r) (hn : M.length ≤ 1000) (hB : B ≤ w.heap.size) :
    ∃ A c w', (Builtin.append_ #[24, 24] 24 #[v, .slice (some ⟨w.heap.size, 0, none⟩) 5 5]).run Try.prog (w.alloc (.cells #[u, u, u, u, u] 22)) = .ok (.slice A (M.length + 5) c) w' ∧
      Mat w' A (M.length + 5) (M ++ [r, r, r, r, r]) ∧ Below B w w' := by
  have hu0 := h.row 0 u r hu hr
  obtain ⟨P, cu, hue, -, -, -, -⟩ := hu0.form
  obtain ⟨i0, hi, hz0, hz1, hz2⟩ := info_parts infoS1
  obtain ⟨v', w', hrun, ho, hgr, _, _⟩ := run_append_own_at (P := Try.prog) (w.alloc (.cells #[u, u, u, u, u] 22)) B 24 24 22 i0 _ 1 24 Try.underlying24 hi hz0 hz1 hz2 rfl (by omega) v M.length us (h.own.alloc _)
    ⟨w.heap.size, 0, none⟩ 5 5 [u, u, u, u, u] rfl (fun j x hx => by
      rw [add0, show (w.alloc (.cells #[u, u, u, u, u] 22)).cell? ⟨w.heap.size, j, none⟩ = #[u, u, u, u, u][j]? from cell_of_row _ _ _ _ 22 (0, 0) (heap_alloc_new w _)]
      simpa using hx)
    (by intro x hx; simp at hx; subst hx; rw [hue]; rfl) (by simp [maxLen]; omega) (by omega) (by simp; omega)
  have keep : ∀ {x : Value} {xs : List Int}, OI B w x xs → OI B w' x xs := fun hx => by
    exact ⟨(hx.1.alloc _).kept hgr (own_apart hx.1 h.own (by decide)), hx.2⟩
  obtain ⟨A, c, rfl, h1, h2, h3⟩ := own_form ho
  refine ⟨A, c, w', hrun, ⟨by simp, fun hp => ?_⟩, ((Below.refl B w).alloc hB _).grown hgr (by simp; omega) (fun k e => (h.own.lt k e).1)⟩
  obtain ⟨g, rfl, hg, hc⟩ := h3 hp
  refine ⟨_, rfl, fun j y hy => ?_⟩
  have hx : ∃ x, (us ++ [u, u, u, u, u])[j]? = some x ∧ OI B w x y := by
    rcases Nat.lt_or_ge j M.length with hj | hj
    · rw [List.getElem?_append_left hj] at hy
      obtain ⟨x, hx⟩ : ∃ x, us[j]? = some x := ⟨_, List.getElem?_eq_getElem (by rw [h.len]; exact hj)⟩
      exact ⟨x, by rw [List.getElem?_append_left (by rw [h.len]; exact hj)]; exact hx, h.row j x y hx hy⟩
    · rw [List.getElem?_append_right hj] at hy
      have hym := List.mem_of_getElem? hy
      simp at hym
      subst hym
      have hjl := (List.getElem?_eq_some_iff.1 hy).1
      refine ⟨u, ?_, hu0⟩
      rw [List.getElem?_append_right (by rw [h.len]; exact hj), h.len]
      obtain ⟨k, hk⟩ : ∃ k, k = j - M.length := ⟨_, rfl⟩
      rw [← hk] at hjl ⊢
      match k, hjl with
      | 0, _ => rfl
      | 1, _ => rfl
      | 2, _ => rfl
      | 3, _ => rfl
      | 4, _ => rfl
  obtain ⟨x, hx, hox⟩ := hx
  obtain ⟨P', c', rfl, -, -, hn', -⟩ := (keep hox).form
  rw [add0]
  exact ⟨P', c', hc j _ hx, hn'⟩
theorem step_append_eq {P : Program} {ops : Array Oper} {o : Oper} {a : Act} {w : World} {K : Act → World → Prop} {Q : Exit → Act → World → Prop} {E : Prop} (hgd : o.guard = none) (s x : Operand) (t : TypeId)
    (ho : o.op = .call { callee := .builtin .append, args := #[s, x], argTypes := #[t, t] }) (v y v' : Value) (w' : World) (hs : a.eval s = v) (hx : a.eval x = y)
    (hrun : (Builtin.append_ #[t, t] o.type #[v, y]).run P w = .ok v' w') (h : K (a.put o.dst v') w') : if Region.wanted o (yielded ops a.tmps) = true then Oper.wp P o a w K Q else E := by
  have hw : Region.wanted o (yielded ops a.tmps) = true := by simp [Region.wanted, hgd]
  rw [if_pos hw]
  unfold Oper.wp execOp
  simp only [ho, resolve, invoke, builtin, Sem.run_bind, Sem.run_pure, Result.andThen_ok, List.map_toArray, List.map_cons, List.map_nil, hs, hx, hrun]
  exact h
end Go.Proofs.Ytimffjonhoplpaa
