/- Rows of rows of cells; rows whose cells are others'. -/
import Derived.IntWalk
import Derived.Test.YtioddfodajinlaaHsht
import Derived.Test.YtioddfodajinlaaRgroup
namespace Go.Proofs.Ytioddfodajinlaa
open Go.RowKit
attribute [local go_sem] Oper.semAt_some
theorem infoSC : (Try.prog.info? 29).map (fun i => (i.zero, i.size, i.bytes)) = some (some (.slice none 0 0), 1, 24) := by kernel_rfl
/-- A row of groups of cells, all the call's own. -/
def GSs (B : Nat) (X : World) (v : Value) (us : List Value) (Js : List (List Cel)) : Prop :=
  X.ownsRow B 29 1 v us.length us ∧ us.length = Js.length ∧ ∀ (i : Nat) (u : Value) (J : List Cel), us[i]? = some u → Js[i]? = some J → ∃ zs, GRs B X u zs J
section
variable {B B' : Nat} {X Y : World} {v : Value} {us us2 : List Value} {Js Js2 : List (List Cel)}
theorem GSs.nil (B : Nat) (X : World) : GSs B X (.slice none 0 0) [] [] := ⟨World.ownsRow_nil _ _ _ _, rfl, fun i u J h => by simp at h⟩
theorem GSs.below (h : GSs B X v us Js) (hb : Below X.heap.size X Y) : GSs B Y v us Js := ⟨own_below h.1 hb (Nat.le_refl _), h.2.1, fun i u J hu hJ => by
  obtain ⟨zs, hz⟩ := h.2.2 i u J hu hJ
  exact ⟨zs, hz.below hb⟩⟩
theorem GSs.mono (h : GSs B X v us Js) (hb : B' ≤ B) : GSs B' X v us Js := ⟨own_mono h.1 hb, h.2.1, fun i u J hu hJ => by
  obtain ⟨zs, hz⟩ := h.2.2 i u J hu hJ
  exact ⟨zs, hz.mono hb⟩⟩
theorem OI.rowG {B B' : Nat} {X Y : World} {v w : Value} {xs : List Int} {n : Nat} {ys : List Value} (h : OI B X w xs) (ho : X.ownsRow B' 29 1 v n ys) (hg : X.grownBy Y v.ownBlock) : OI B Y w xs :=
  ⟨own_stay h.1 fun k hk => hg.block k (h.1.lt k hk).2 fun e => by
    rcases own_apart h.1 ho (by decide) with h0 | h0
    · rw [h0] at hk; cases hk
    · exact h0 (by rw [hk, e]), h.2⟩
theorem GRs.rowG {B B' : Nat} {X Y : World} {v w : Value} {us : List V5} {J : List Cel} {n : Nat} {ys : List Value} (h : GRs B X w us J) (ho : X.ownsRow B' 29 1 v n ys) (hg : X.grownBy Y v.ownBlock) : GRs B Y w us J :=
  ⟨own_stay h.1 fun k hk => hg.block k (h.1.lt k hk).2 fun e => by
    rcases own_apart h.1 ho (by decide) with h0 | h0
    · rw [h0] at hk; cases hk
    · exact h0 (by rw [hk, e]), h.2.stay fun o => o.rowG ho hg⟩
theorem GSs.form (h : GSs B X v us Js) : ∃ P c, v = .slice P us.length c ∧ us.length ≤ c ∧ (0 < us.length → ∃ g, P = some ⟨g, 0, none⟩ ∧ ∀ j u, us[j]? = some u → X.cell? ⟨g, j, none⟩ = some u) := by
  obtain ⟨P, c, e, h1, -, h2⟩ := own_form h.1
  exact ⟨P, c, e, h1, fun hp => by
    obtain ⟨g, e1, -, h3⟩ := h2 hp
    exact ⟨g, e1, h3⟩⟩
/-- Rows are laid behind rows. -/
theorem append_gs {m c : Nat} {A : Option Addr} (h : GSs B X v us Js) (h2 : GSs B' X (.slice A m c) us2 Js2) (hb : B ≤ B') (h0 : 0 < us2.length) (hl : us.length + us2.length ≤ 1000000) (hB : B ≤ X.heap.size) :
    ∃ v' Y, (Builtin.append_ #[86, 86] 86 #[v, .slice A m c]).run Try.prog X = .ok v' Y ∧ GSs B Y v' (us ++ us2) (Js ++ Js2) ∧ Below B X Y := by
  obtain ⟨i0, hi, hz0, hz1, hz2⟩ := info_parts infoSC
  obtain ⟨P, c', e, -, h3⟩ := h2.form
  injection e with e1 e2 e3
  subst e1 e2 e3
  obtain ⟨g, rfl, hc⟩ := h3 h0
  have hone : ∀ u ∈ us2, u.oneCell' = true := fun u hu => by
    obtain ⟨i, hi⟩ := List.getElem?_of_mem hu
    have hl2 := (List.getElem?_eq_some_iff.1 hi).1
    obtain ⟨zs, hz⟩ := h2.2.2 i u _ hi (List.getElem?_eq_getElem (by rw [← h2.2.1]; exact hl2))
    obtain ⟨P, c, rfl, -⟩ := hz.form
    rfl
  obtain ⟨v', Y, hrun, hr, hg, -, -⟩ := run_append_own_at (P := Try.prog) X B 86 86 29 i0 _ 1 24 Try.underlying86 hi hz0 hz1 hz2 rfl (by omega) v us.length us h.1 ⟨g, 0, none⟩ us2.length c us2 (by simp)
    (fun j w hw => by rw [add0]; exact hc j w hw) hone (by simp only [maxLen]; omega) (by omega) hB
  refine ⟨v', Y, hrun, ⟨by rw [List.length_append]; exact hr, by rw [List.length_append, List.length_append, h.2.1, h2.2.1], fun i u J hu hJ => ?_⟩, (Below.refl _ _).grown hg hB (fun j e => (h.1.lt j e).1)⟩
  rcases Nat.lt_or_ge i us.length with hi2 | hi2
  · rw [List.getElem?_append_left hi2] at hu
    rw [List.getElem?_append_left (by rw [← h.2.1]; exact hi2)] at hJ
    obtain ⟨zs, hz⟩ := h.2.2 i u J hu hJ
    exact ⟨zs, hz.rowG h.1 hg⟩
  · rw [List.getElem?_append_right hi2] at hu
    rw [List.getElem?_append_right (by rw [← h.2.1]; exact hi2), ← h.2.1] at hJ
    obtain ⟨zs, hz⟩ := h2.2.2 _ u J hu hJ
    exact ⟨zs, (hz.mono hb).rowG h.1 hg⟩
theorem GSs.one {us : List V5} {J : List Cel} (h : GRs B X v us J) (hB : B ≤ X.heap.size) : GSs B (X.alloc (.cells #[v] 29)) (.slice (some ⟨X.heap.size, 0, none⟩) 1 1) [v] [J] := by
  refine ⟨⟨rfl, .inr ⟨X.heap.size, 1, #[v], rfl, hB, heap_alloc_new X _, Nat.le_refl _, by simp [maxLen], rfl, by simp⟩⟩, rfl, fun i u J' hu hJ => ?_⟩
  have e0 : i = 0 := by
    rcases Nat.eq_zero_or_pos i with h | h
    · exact h
    · rw [List.getElem?_eq_none (by simp; omega)] at hu; cases hu
  subst e0
  simp only [List.getElem?_cons_zero, Option.some.injEq] at hu hJ
  subst hu hJ
  exact ⟨us, h.below ((Below.refl _ _).alloc (Nat.le_refl _) _)⟩
end
/-- A row of the call's own whose cells' slices are others' (as they stood at w0). -/
def RowF (B : Nat) (w0 X : World) (v : Value) (us : List V5) (L : List Cel) : Prop := X.ownsRow B 39 5 v us.length (flatV us) ∧ ReadsL w0 us L
section
variable {B : Nat} {w0 X Y : World} {v : Value} {us : List V5} {L : List Cel}
theorem RowF.nil (B : Nat) (w0 X : World) : RowF B w0 X (.slice none 0 0) [] [] := ⟨World.ownsRow_nil _ _ _ _, rfl, fun i u x h => by simp at h⟩
theorem RowF.below (h : RowF B w0 X v us L) (hb : Below X.heap.size X Y) : RowF B w0 Y v us L := ⟨own_below h.1 hb (Nat.le_refl _), h.2⟩
theorem RowF.row (h : RowF B w0 X v us L) (hb : Below w0.heap.size w0 X) : ∃ P n c, v = .slice P n c ∧ n = L.length ∧ n ≤ c ∧ RowC X P n L := by
  obtain ⟨P, c, e, h1, -, h2⟩ := own_form h.1
  refine ⟨P, us.length, c, e, h.2.1, h1, fun hp => ?_⟩
  obtain ⟨g, e1, -, h3⟩ := h2 hp
  exact ⟨_, e1, cells_of_vals (h.2.keep (Keeps.of_below hb)) fun j u hu => by rw [add0]; exact h3 j u hu⟩
theorem append_rf {u : V5} {x : Cel} (h : RowF B w0 X v us L) (hu : Reads w0 u x) (hl : us.length + 1 ≤ 1000000) (hB : B ≤ X.heap.size) :
    ∃ v' Y, (Builtin.append_ #[29, 29] 29 #[v, .slice (some ⟨X.heap.size, 0, none⟩) 1 1]).run Try.prog (X.alloc (.cells #[u.a, u.b, u.c, u.d, u.e] 39)) = .ok v' Y ∧ RowF B w0 Y v' (us ++ [u]) (L ++ [x]) ∧ Below B X Y := by
  have hb : Below X.heap.size X (X.alloc (.cells #[u.a, u.b, u.c, u.d, u.e] 39)) := (Below.refl _ _).alloc (Nat.le_refl _) _
  obtain ⟨i0, hi, hz0, hz1, hz2⟩ := info_parts infoC
  have ho2 := own_below h.1 hb (Nat.le_refl _)
  have h1 : ReadsL w0 [u] [x] := ⟨rfl, fun i a b ha hb => by
    have e0 : i = 0 := by
      rcases Nat.eq_zero_or_pos i with h | h
      · exact h
      · rw [List.getElem?_eq_none (by simp; omega)] at ha; cases ha
    subst e0
    simp only [List.getElem?_cons_zero, Option.some.injEq] at ha hb
    subst ha hb
    exact hu⟩
  obtain ⟨v', Y, hrun, hr, hg, -, -⟩ := run_append_own_at (P := Try.prog) (X.alloc (.cells #[u.a, u.b, u.c, u.d, u.e] 39)) B 29 29 39 i0 _ 5 104 Try.underlying29 hi hz0 hz1 hz2 rfl (by omega) v us.length (flatV us) ho2 ⟨X.heap.size, 0, none⟩ 1 1 (flatV [u]) (by simp [flatV, V5.l])
    (fun j w hw => by
      rw [add0, show (X.alloc (.cells #[u.a, u.b, u.c, u.d, u.e] 39)).cell? ⟨X.heap.size, j, none⟩ = #[u.a, u.b, u.c, u.d, u.e][j]? from cell_of_row _ _ _ _ 39 (0, 0) (heap_alloc_new X _)]
      rw [flatV_one] at hw
      simpa [V5.l] using hw) h1.one (by simp only [maxLen]; omega) (by omega) (by simp; omega)
  refine ⟨v', Y, hrun, ⟨?_, by rw [List.length_append, List.length_append, h.2.1]; rfl, fun i a b ha hb' => ?_⟩, (hb.mono hB).grown hg (by simp; omega) fun j e => (h.1.lt j e).1⟩
  · rw [List.length_append, flatV_append]
    exact hr
  · rcases Nat.lt_or_ge i us.length with hi2 | hi2
    · rw [List.getElem?_append_left hi2] at ha
      rw [List.getElem?_append_left (by rw [← h.2.1]; exact hi2)] at hb'
      exact h.2.2 i a b ha hb'
    · rw [List.getElem?_append_right hi2] at ha
      rw [List.getElem?_append_right (by rw [← h.2.1]; exact hi2), ← h.2.1] at hb'
      exact h1.2 _ a b ha hb'
end
theorem StR.fill {n dd mm : Nat} : ∀ (l : List Cel) {ts ts' : List (Option Cel)}, StR n dd mm ts → OkL dd mm l → fillT ts l = some ts' → StR n dd mm ts'
  | [], ts, ts', h, _, hf => by
    simp only [fillT, Option.some.injEq] at hf
    exact hf ▸ h
  | x :: l, ts, ts', h, ho, hf => by
    simp only [fillT] at hf
    cases hp : putT ts x with
    | none => rw [hp] at hf; cases hf
    | some t =>
      rw [hp] at hf
      exact StR.fill l (h.put (ho x List.mem_cons_self) hp) (fun y hy => ho y (List.mem_cons_of_mem _ hy)) hf
/-- The parts of what has one of the first k values at a position. -/
def partsK (slots f a k : Nat) (L : List Cel) : List (List Cel) := (List.range k).flatMap fun v => if byV L a v = [] then [] else partsP slots f (a + 1) (byV L a v)
theorem partsK_succ (slots f a k : Nat) (L : List Cel) : partsK slots f a (k + 1) L = partsK slots f a k L ++ (if byV L a k = [] then [] else partsP slots f (a + 1) (byV L a k)) := by
  unfold partsK
  rw [List.range_succ, List.flatMap_append]
  simp
theorem partsP_split {slots f a : Nat} {L : List Cel} (h : ¬ (grpR L).length ≤ slots) : partsP slots (f + 1) a L = partsK slots f a 16 L := by
  rw [partsP, if_neg h]
  rfl
theorem partsK_pre {slots f a : Nat} {L : List Cel} : ∀ {k n : Nat}, k ≤ n → (partsK slots f a k L).length ≤ (partsK slots f a n L).length
  | k, 0, h => by rw [Nat.le_zero.1 h]; exact Nat.le_refl _
  | k, n + 1, h => by
    rcases Nat.lt_or_ge k (n + 1) with h1 | h1
    · refine Nat.le_trans (partsK_pre (n := n) (by omega)) ?_
      rw [partsK_succ, List.length_append]
      omega
    · rw [show k = n + 1 by omega]; exact Nat.le_refl _
theorem partsK_few {slots d f a k : Nat} {L : List Cel} (hs : 1 ≤ slots) (hd : a + (f + 1) = d) (hF : Fit d a L) (hn : ¬ (grpR L).length ≤ slots) (hk : k ≤ 16) : (partsK slots f a k L).length ≤ (grpR L).length := by
  refine Nat.le_trans (partsK_pre hk) ?_
  rw [← partsP_split hn, ← parts_flat slots d (f + 1) a L hd hF]
  refine flat_len_ge fun p hp => (parts_each slots d hs (f + 1) a L hd hF (fun e => ?_) p hp).1
  subst e
  exact hn (by simp [grpR])
theorem byV_take {L : List Cel} {q a v : Nat} {x : Cel} (hx : L[q]? = some x) : byV (L.take (q + 1)) a v = byV (L.take q) a v ++ (if valK x a = (v : Int) then [x] else []) := by
  unfold byV
  rw [List.take_add_one, hx, Option.toList_some, List.filter_append]
  congr 1
  by_cases h : valK x a = (v : Int)
  · rw [if_pos h]; simp [h]
  · rw [if_neg h]; simp [h]
end Go.Proofs.Ytioddfodajinlaa
