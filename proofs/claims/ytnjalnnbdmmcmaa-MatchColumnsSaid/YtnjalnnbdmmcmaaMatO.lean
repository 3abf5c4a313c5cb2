/- Costs that a law lays: rows of the call's own, no two of one block. -/
import Derived.Test.YtnjalnnbdmmcmaaMatLp
import Derived.Test.YtnjalnnbdmmcmaaIsRow
namespace Go.Proofs.Ytnjalnnbdmmcmaa
open Go.RowKit Go.Shelf
attribute [local go_sem] Oper.semAt_some
theorem infoS1 : (Try.prog.info? 22).map (fun i => (i.zero, i.size, i.bytes)) = some (some (.slice none 0 0), 1, 24) := by kernel_rfl
/-- Rows of the call's own. -/
structure OM (B : Nat) (w : World) (v : Value) (M : List (List Int)) (us : List Value) : Prop where
  own : w.ownsRow B 22 1 v M.length us
  row : ∀ (j : Nat) (u : Value) (r : List Int), us[j]? = some u → M[j]? = some r → OI B w u r
  ap : ∀ (i j : Nat) (u u' : Value), i ≠ j → us[i]? = some u → us[j]? = some u' → ∀ b, u.ownBlock = some b → u'.ownBlock ≠ some b
section
variable {B : Nat} {w w' : World} {v : Value} {M : List (List Int)} {us : List Value}
theorem OM.len (h : OM B w v M us) : us.length = M.length := by have := h.own.1; omega
theorem OM.nil (B : Nat) (w : World) : OM B w (.slice none 0 0) [] [] := ⟨World.ownsRow_nil _ _ _ _, fun j u r h => by simp at h, fun i j u u' _ h => by simp at h⟩
theorem OM.below (h : OM B w v M us) (hb : Below w.heap.size w w') : OM B w' v M us := ⟨own_below h.own hb (Nat.le_refl _), fun j u r a b => (h.row j u r a b).below hb, h.ap⟩
theorem OM.mat (h : OM B w v M us) : ∃ A c, v = .slice A M.length c ∧ Mat w A M.length M := by
  obtain ⟨A, c, rfl, h1, h2, h3⟩ := own_form h.own
  refine ⟨A, c, rfl, rfl, fun hn => ?_⟩
  obtain ⟨g, rfl, hg, hc⟩ := h3 hn
  refine ⟨_, rfl, fun j r hr => ?_⟩
  obtain ⟨u, hu⟩ : ∃ u, us[j]? = some u := ⟨_, List.getElem?_eq_getElem (by rw [h.len]; exact (List.getElem?_eq_some_iff.1 hr).1)⟩
  obtain ⟨P, c', rfl, -, -, hn', -⟩ := (h.row j u r hu hr).form
  rw [add0]
  exact ⟨P, c', hc j _ hu, hn'⟩
theorem om_append {u : Value} {r : List Int} (h : OM B w v M us) (hu : OI B w u r) (hap : ∀ (j : Nat) (u' : Value), us[j]? = some u' → ∀ b, u.ownBlock = some b → u'.ownBlock ≠ some b) (hn : M.length ≤ 1000) (hB : B ≤ w.heap.size) :
    ∃ v' w', (Builtin.append_ #[25, 25] 25 #[v, .slice (some ⟨w.heap.size, 0, none⟩) 1 1]).run Try.prog (w.alloc (.cells #[u] 22)) = .ok v' w' ∧ OM B w' v' (M ++ [r]) (us ++ [u]) ∧ Below B w w' := by
  obtain ⟨P, cu, hue, -, -, -, -⟩ := hu.form
  obtain ⟨i0, hi, hz0, hz1, hz2⟩ := info_parts infoS1
  obtain ⟨v', w', hrun, ho, hgr, _, _⟩ := run_append_own_at (P := Try.prog) (w.alloc (.cells #[u] 22)) B 25 25 22 i0 _ 1 24 Try.underlying25 hi hz0 hz1 hz2 rfl (by omega) v M.length us (h.own.alloc _)
    ⟨w.heap.size, 0, none⟩ 1 1 [u] rfl (fun j x hx => by
      rw [add0, show (w.alloc (.cells #[u] 22)).cell? ⟨w.heap.size, j, none⟩ = #[u][j]? from cell_of_row _ _ _ _ 22 (0, 0) (heap_alloc_new w _)]
      simpa using hx)
    (by intro x hx; simp at hx; subst hx; rw [hue]; rfl) (by simp [maxLen]; omega) (by omega) (by simp; omega)
  have keep : ∀ {x : Value} {xs : List Int}, OI B w x xs → OI B w' x xs := fun hx => by
    exact ⟨(hx.1.alloc _).kept hgr (own_apart hx.1 h.own (by decide)), hx.2⟩
  refine ⟨v', w', hrun, ⟨by rw [List.length_append]; exact ho, fun j x y hx hy => ?_, fun i j x x' hij hx hx' => ?_⟩, ((Below.refl B w).alloc hB _).grown hgr (by simp; omega) (fun k e => (h.own.lt k e).1)⟩
  · rcases Nat.lt_or_ge j us.length with hj | hj
    · rw [List.getElem?_append_left hj] at hx
      rw [List.getElem?_append_left (by rw [← h.len]; exact hj)] at hy
      exact keep (h.row j x y hx hy)
    · rw [List.getElem?_append_right hj] at hx
      rw [List.getElem?_append_right (by rw [← h.len]; exact hj)] at hy
      rw [h.len] at hx
      cases hjj : j - M.length with
      | zero => rw [hjj] at hx hy; simp at hx hy; subst hx; subst hy; exact keep hu
      | succ q => rw [hjj] at hx; simp at hx
  · have last : ∀ {q : Nat} {z : Value}, us.length ≤ q → (us ++ [u])[q]? = some z → z = u ∧ q = us.length := fun {q z} hq hz => by
      rw [List.getElem?_append_right hq] at hz
      cases hqq : q - us.length with
      | zero => rw [hqq] at hz; simp at hz; exact ⟨hz.symm, by omega⟩
      | succ q => rw [hqq] at hz; simp at hz
    rcases Nat.lt_or_ge i us.length with hi' | hi'
    · rcases Nat.lt_or_ge j us.length with hj | hj
      · rw [List.getElem?_append_left hi'] at hx
        rw [List.getElem?_append_left hj] at hx'
        exact h.ap i j x x' hij hx hx'
      · obtain ⟨rfl, -⟩ := last hj hx'
        rw [List.getElem?_append_left hi'] at hx
        exact fun b hb e => hap i x hx b e hb
    · obtain ⟨rfl, h1⟩ := last hi' hx
      rcases Nat.lt_or_ge j us.length with hj | hj
      · rw [List.getElem?_append_left hj] at hx'
        exact hap j x' hx'
      · obtain ⟨-, h2⟩ := last hj hx'
        omega
end
/-- A row of later blocks goes with all. -/
theorem OM.apart_new {B B' : Nat} {w w' : World} {v u : Value} {M : List (List Int)} {us : List Value} {r : List Int} (h : OM B w v M us) (hu : OI B' w' u r) (hB : w.heap.size ≤ B') : ∀ (j : Nat) (u' : Value), us[j]? = some u' → ∀ b, u.ownBlock = some b → u'.ownBlock ≠ some b := by
  intro j u' hj b hb e
  obtain ⟨r', hr'⟩ : ∃ r', M[j]? = some r' := ⟨_, List.getElem?_eq_getElem (by rw [← h.len]; exact (List.getElem?_eq_some_iff.1 hj).1)⟩
  have h1 := ((h.row j u' r' hj hr').1.lt b e).2
  have h2 := (hu.1.lt b hb).1
  omega
theorem oi_push {B : Nat} {wr : World} {v : Value} {xs : List Int} (x : Int) (h : OI B wr v xs) (hx : inK .i64 x) (hn : xs.length ≤ 1000000) (hB : B ≤ wr.heap.size) :
    ∃ v' w', (Builtin.append_ #[22, 22] 22 #[v, .slice (some ⟨wr.heap.size, 0, none⟩) 1 1]).run Try.prog (wr.alloc (.cells #[.int .i64 x] 3)) = .ok v' w' ∧ OI B w' v' (xs ++ [x]) ∧ Below B wr w' := by
  obtain ⟨v', w', hrun, ho, hgr⟩ := append_intC wr B v xs x h.1 hn hB
  refine ⟨v', w', hrun, ⟨by simpa using ho, fun y hy => ?_⟩, ((Below.refl B wr).alloc hB _).grown hgr (by simp; omega) (fun k e => (h.1.lt k e).1)⟩
  rcases List.mem_append.1 hy with g | g
  · exact h.2 y g
  · rw [List.mem_singleton.1 g]; exact hx
end Go.Proofs.Ytnjalnnbdmmcmaa
