/- Rows of facts that a function appends one by one: how they lie, how they stay, how they read. -/
import Derived.Test.YtejjbbomkedpcaaBack
import Derived.Deep.AppendLies
import Derived.Deep.Onto
namespace Go.Proofs.Ytejjbbomkedpcaa
open Go.RowKit
def ints (xs : List Int) : List Value := xs.map (Value.int .i64)
theorem ints_len (xs : List Int) : (ints xs).length = xs.length := by simp [ints]
theorem own_apart {w : World} {b b' : Nat} {e e' : TypeId} {s s' n n' : Nat} {v v' : Value} {xs xs' : List Value} (h : w.ownsRow b e s v n xs) (h' : w.ownsRow b' e' s' v' n' xs') (hne : e ≠ e') : v.ownBlock = none ∨ v.ownBlock ≠ v'.ownBlock := by
  rcases h.2 with ⟨rfl, _⟩ | ⟨g, cap, cur, rfl, _, hh, _⟩
  · exact .inl rfl
  · refine .inr fun e0 => ?_
    rcases h'.2 with ⟨rfl, _⟩ | ⟨g', cap', cur', rfl, _, hh', _⟩
    · simp [Value.ownBlock] at e0
    · simp only [Value.ownBlock, Option.some.injEq] at e0
      subst e0
      rw [hh] at hh'
      injection hh' with hh'
      injection hh' with _ h2
      exact hne h2
theorem own_lit (w : World) (B : Nat) (e : TypeId) (vs : List Value) (g n s : Nat) (hg : g = w.heap.size) (hb : B ≤ g) (hm : n ≤ maxLen) (hs : vs.length = n * s) :
    (w.alloc (.cells vs.toArray e)).ownsRow B e s (.slice (some ⟨g, 0, none⟩) n n) n vs := by
  refine ⟨hs, .inr ⟨g, n, vs.toArray, rfl, hb, heap_new w _ g hg, Nat.le_refl _, hm, by simpa using hs, ?_⟩⟩
  rw [List.take_of_length_le (by simp [hs])]
theorem own_below {w w' : World} {b B : Nat} {e : TypeId} {s n : Nat} {v : Value} {xs : List Value} (h : w.ownsRow b e s v n xs) (hb : Below B w w') (hB : w.heap.size ≤ B) : w'.ownsRow b e s v n xs := by
  refine ⟨h.1, ?_⟩
  rcases h.2 with h0 | ⟨g, cap, cur, hv, hg, hh, hr⟩
  · exact .inl h0
  · have hlt : g < w.heap.size := by
      rcases Nat.lt_or_ge g w.heap.size with h1 | h1
      · exact h1
      · rw [Array.getElem?_eq_none h1] at hh; cases hh
    exact .inr ⟨g, cap, cur, hv, hg, (hb.block g (by omega)).trans hh, hr⟩
theorem own_drewN {w : World} {b : Nat} {e : TypeId} {s n : Nat} {v : Value} {xs : List Value} (h : w.ownsRow b e s v n xs) (q : Nat) : (w.drewN q).ownsRow b e s v n xs := h
theorem own_only {w w' : World} {b : Nat} {e : TypeId} {s n k : Nat} {v : Value} {xs : List Value} (h : w.ownsRow b e s v n xs) (hb : Only k w w') (hk : k < b) : w'.ownsRow b e s v n xs := by
  refine ⟨h.1, ?_⟩
  rcases h.2 with h0 | ⟨g, cap, cur, hv, hg, hh, hr⟩
  · exact .inl h0
  · have hlt : g < w.heap.size := by
      rcases Nat.lt_or_ge g w.heap.size with h1 | h1
      · exact h1
      · rw [Array.getElem?_eq_none h1] at hh; cases hh
    exact .inr ⟨g, cap, cur, hv, hg, (hb.block g hlt (by omega)).trans hh, hr⟩
/-- An owned row reads as a slice. -/
theorem own_form {w : World} {b : Nat} {e : TypeId} {s n : Nat} {v : Value} {xs : List Value} (h : w.ownsRow b e s v n xs) :
    ∃ A c, v = .slice A n c ∧ n ≤ c ∧ c ≤ maxLen ∧ (0 < n → ∃ g, A = some ⟨g, 0, none⟩ ∧ b ≤ g ∧ ∀ j u, xs[j]? = some u → w.cell? ⟨g, j, none⟩ = some u) := by
  rcases h.2 with ⟨rfl, rfl⟩ | ⟨g, cap, cur, rfl, hg, hh, hnc, hcm, hsz, hx⟩
  · exact ⟨none, 0, rfl, Nat.le_refl _, Nat.zero_le _, fun h => absurd h (by omega)⟩
  · refine ⟨_, cap, rfl, hnc, hcm, fun _ => ⟨g, rfl, hg, fun j u hu => ?_⟩⟩
    rw [cell_of_row w g j cur e (0, 0) hh]
    rw [← hx, List.getElem?_take] at hu
    split at hu
    · simpa using hu
    · cases hu
theorem own_nums {w : World} {b : Nat} {v : Value} {xs : List Int} (h : w.ownsRow b 3 1 v xs.length (ints xs)) (hk : ∀ x ∈ xs, inK .i64 x) :
    ∃ A c, v = .slice A xs.length c ∧ xs.length ≤ c ∧ c ≤ maxLen ∧ Nums .i64 w A xs.length xs := by
  obtain ⟨A, c, hv, hc, hm, hg⟩ := own_form h
  refine ⟨A, c, hv, hc, hm, rfl, hk, fun hn => ?_⟩
  obtain ⟨g, rfl, _, hcell⟩ := hg hn
  exact ⟨_, rfl, fun j x hx => by rw [add0]; exact hcell j _ (by simp [ints, hx])⟩

/-- One row of the call's own: its values, its measures. -/
def RowV (w : World) (B : Nat) (p : Value × Value) (r : Fact) : Prop :=
  w.ownsRow B 3 1 p.1 r.key.length (ints r.key) ∧ w.ownsRow B 3 1 p.2 r.m.length (ints r.m)
def cellsV (vs : List (Value × Value)) : List Value := vs.flatMap fun p => [p.1, p.2]
theorem cellsV_snoc (vs : List (Value × Value)) (p : Value × Value) : cellsV (vs ++ [p]) = cellsV vs ++ [p.1, p.2] := by simp [cellsV]
theorem cellsV_len (vs : List (Value × Value)) : (cellsV vs).length = vs.length * 2 := by
  induction vs with
  | nil => rfl
  | cons p t ih => unfold cellsV at ih ⊢; rw [List.flatMap_cons, List.length_append, ih, List.length_cons]; simp only [List.length_cons, List.length_nil]; omega
theorem cellsV_at : ∀ {vs : List (Value × Value)} {i : Nat} {p : Value × Value}, vs[i]? = some p → (cellsV vs)[i * 2]? = some p.1 ∧ (cellsV vs)[i * 2 + 1]? = some p.2
  | p :: t, 0, q, h => by
    simp at h
    subst h
    simp [cellsV]
  | p :: t, i + 1, q, h => by
    have := cellsV_at (vs := t) (i := i) (p := q) (by simpa using h)
    have e : cellsV (p :: t) = p.1 :: p.2 :: cellsV t := by simp [cellsV]
    rw [e, show (i + 1) * 2 = i * 2 + 1 + 1 from by omega]
    simpa using this
/-- A list of rows of the call's own: the list lies from block Bl on, the rows' slices from Br on. -/
def RowsW (w : World) (Bl Br : Nat) (v : Value) (l : List Fact) : Prop :=
  ∃ vs, vs.length = l.length ∧ w.ownsRow Bl 33 2 v l.length (cellsV vs) ∧ ∀ (i : Nat) (p : Value × Value) (r : Fact), vs[i]? = some p → l[i]? = some r → RowV w Br p r
def RowsV (w : World) (B : Nat) (v : Value) (l : List Fact) : Prop := RowsW w B B v l
theorem RowsW.nil (w : World) (Bl Br : Nat) : RowsW w Bl Br (.slice none 0 0) [] := ⟨[], rfl, World.ownsRow_nil _ _ _ _, fun i p r h => by simp at h⟩
theorem RowsV.nil (w : World) (B : Nat) : RowsV w B (.slice none 0 0) [] := RowsW.nil w B B
theorem RowsW.below {w w' : World} {Bl Br k : Nat} {v : Value} {l : List Fact} (h : RowsW w Bl Br v l) (hb : Below k w w') (hk : w.heap.size ≤ k) : RowsW w' Bl Br v l := by
  obtain ⟨vs, h1, h2, h3⟩ := h
  exact ⟨vs, h1, own_below h2 hb hk, fun i p r hp hr => ⟨own_below (h3 i p r hp hr).1 hb hk, own_below (h3 i p r hp hr).2 hb hk⟩⟩
theorem RowsV.below {w w' : World} {B k : Nat} {v : Value} {l : List Fact} (h : RowsV w B v l) (hb : Below k w w') (hk : w.heap.size ≤ k) : RowsV w' B v l := RowsW.below h hb hk
theorem RowsW.alloc {w : World} {Bl Br : Nat} {v : Value} {l : List Fact} (h : RowsW w Bl Br v l) (o : Obj) : RowsW (w.alloc o) Bl Br v l :=
  h.below ((Below.refl w.heap.size w).alloc (Nat.le_refl _) o) (Nat.le_refl _)
theorem RowsV.alloc {w : World} {B : Nat} {v : Value} {l : List Fact} (h : RowsV w B v l) (o : Obj) : RowsV (w.alloc o) B v l := RowsW.alloc h o
theorem RowsV.only {w w' : World} {B k : Nat} {v : Value} {l : List Fact} (h : RowsV w B v l) (hb : Only k w w') (hk : k < B) : RowsV w' B v l := by
  obtain ⟨vs, h1, h2, h3⟩ := h
  exact ⟨vs, h1, own_only h2 hb hk, fun i p r hp hr => ⟨own_only (h3 i p r hp hr).1 hb hk, own_only (h3 i p r hp hr).2 hb hk⟩⟩
theorem RowsW.snoc {w w' : World} {Bl Br : Nat} {v v' : Value} {l : List Fact} {r : Fact} {p : Value × Value} {vs : List (Value × Value)} (h1 : vs.length = l.length) (h2 : w.ownsRow Bl 33 2 v l.length (cellsV vs))
    (h3 : ∀ (i : Nat) (p : Value × Value) (r : Fact), vs[i]? = some p → l[i]? = some r → RowV w Br p r) (hp : RowV w Br p r)
    (ho : w'.ownsRow Bl 33 2 v' (l.length + 1) (cellsV vs ++ [p.1, p.2])) (hg : w.grownBy w' v.ownBlock) : RowsW w' Bl Br v' (l ++ [r]) := by
  have keep : ∀ {u : Value} {n : Nat} {xs : List Value}, w.ownsRow Br 3 1 u n xs → w'.ownsRow Br 3 1 u n xs := fun hu => hu.kept hg (own_apart hu h2 (by decide))
  have keepV : ∀ {p : Value × Value} {r : Fact}, RowV w Br p r → RowV w' Br p r := fun hr => ⟨keep hr.1, keep hr.2⟩
  refine ⟨vs ++ [p], by simp [h1], by rw [cellsV_snoc, List.length_append]; exact ho, fun i q r' hq hr => ?_⟩
  rcases Nat.lt_or_ge i vs.length with hi | hi
  · rw [List.getElem?_append_left hi] at hq
    rw [List.getElem?_append_left (by rw [← h1]; exact hi)] at hr
    exact keepV (h3 i q r' hq hr)
  · rw [List.getElem?_append_right hi] at hq
    rw [List.getElem?_append_right (by rw [← h1]; exact hi)] at hr
    have e : i - vs.length = 0 := by
      rcases Nat.eq_zero_or_pos (i - vs.length) with h0 | h0
      · exact h0
      · rw [List.getElem?_eq_none (by simp; omega)] at hq; cases hq
    rw [e] at hq
    rw [← h1, e] at hr
    simp at hq hr
    subst hq hr
    exact keepV hp
/-- The list read as facts. -/
theorem RowsW.facts {w : World} {Bl Br : Nat} {v : Value} {l : List Fact} (h : RowsW w Bl Br v l) (hk : ∀ r ∈ l, (∀ x ∈ r.key, inK .i64 x) ∧ ∀ x ∈ r.m, inK .i64 x) :
    ∃ A c, v = .slice A l.length c ∧ l.length ≤ c ∧ c ≤ maxLen ∧ Facts w A l.length l := by
  obtain ⟨vs, h1, h2, h3⟩ := h
  obtain ⟨A, c, hv, hc, hm, hg⟩ := own_form h2
  refine ⟨A, c, hv, hc, hm, rfl, fun hn => ?_⟩
  obtain ⟨g, rfl, _, hcell⟩ := hg hn
  refine ⟨_, rfl, fun j r hj => ?_⟩
  have hjl : j < l.length := (List.getElem?_eq_some_iff.1 hj).1
  have hp : vs[j]? = some (vs[j]'(by rw [h1]; exact hjl)) := List.getElem?_eq_getElem _
  obtain ⟨a1, a2⟩ := h3 j _ r hp hj
  obtain ⟨k1, k2⟩ := hk r (List.mem_of_getElem? hj)
  obtain ⟨c1, c2⟩ := cellsV_at hp
  obtain ⟨A1, m1, e1, _, _, n1⟩ := own_nums a1 k1
  obtain ⟨A2, m2, e2, _, _, n2⟩ := own_nums a2 k2
  refine ⟨A1, m1, A2, m2, ?_, ?_, n1, n2⟩
  · rw [add0, hcell _ _ c1, e1]
  · rw [add0]
    show w.cell? ⟨g, j * 2 + 1, none⟩ = _
    rw [hcell _ _ c2, e2]
theorem RowsV.facts {w : World} {B : Nat} {v : Value} {l : List Fact} (h : RowsV w B v l) (hk : ∀ r ∈ l, (∀ x ∈ r.key, inK .i64 x) ∧ ∀ x ∈ r.m, inK .i64 x) :
    ∃ A c, v = .slice A l.length c ∧ l.length ≤ c ∧ c ≤ maxLen ∧ Facts w A l.length l := RowsW.facts h hk
theorem RowsW.form {w : World} {Bl Br : Nat} {v : Value} {l : List Fact} (h : RowsW w Bl Br v l) (hn : 0 < l.length) : ∃ g c, v = .slice (some ⟨g, 0, none⟩) l.length c ∧ Bl ≤ g := by
  obtain ⟨vs, _, h2, _⟩ := h
  obtain ⟨A, c, hv, _, _, hg⟩ := own_form h2
  obtain ⟨g, rfl, hb, _⟩ := hg hn
  exact ⟨g, c, hv, hb⟩

/-- One built-in append, by what its run comes to. -/
theorem wpList_append_eq {P : Program} {ops : Array Oper} {rest : List Oper} {o : Oper} {a : Act} {w : World} {Q : Exit → Act → World → Prop} (hgd : o.guard = none) (s x : Operand) (t : TypeId)
    (ho : o.op = .call { callee := .builtin .append, args := #[s, x], argTypes := #[t, t] }) (v y v' : Value) (w' : World) (hs : a.eval s = v) (hx : a.eval x = y)
    (hrun : (Builtin.append_ #[t, t] o.type #[v, y]).run P w = .ok v' w') (h : wpList P ops Q rest (a.put o.dst v') w') : wpList P ops Q (o :: rest) a w :=
  wpList_plain hgd fun _ hK => by
    unfold Oper.wp execOp
    simp only [ho, resolve, invoke, builtin, Sem.run_bind, Sem.run_pure, Result.andThen_ok, List.map_toArray, List.map_cons, List.map_nil, hs, hx, hrun]
    exact hK _ _ h

end Go.Proofs.Ytejjbbomkedpcaa
