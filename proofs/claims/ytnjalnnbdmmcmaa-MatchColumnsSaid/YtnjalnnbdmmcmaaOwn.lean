/- Rows of the call's own, whoever made them; what a call may have turned. No Go text in sight. -/
import Derived.Deep.AppendLies
import Derived.Deep.Onto
import Derived.Maps.AppendAt
import Derived.OpenShut
import Derived.StillTailTactics
import Derived.Test.YtnjalnnbdmmcmaaBase2
import Derived.Test.YtnjalnnbdmmcmaaProg
namespace Go.Proofs.Ytnjalnnbdmmcmaa
open Go.RowKit

theorem add0 (h k : Nat) : (Addr.add ⟨h, 0, none⟩ k) = ⟨h, k, none⟩ := by
  unfold Addr.add
  split
  · simp [*]
  · simp
/-- From w on nothing that was there has turned but blocks of M. -/
structure Tch (M : Nat → Prop) (w w' : World) : Prop where
  os : w'.os = w.os
  tape : w'.tape = w.tape
  output : w'.output = w.output
  size : w.heap.size ≤ w'.heap.size
  block : ∀ k, k < w.heap.size → ¬ M k → w'.heap[k]? = w.heap[k]?
/-- M, and what is new. -/
def Grw (M : Nat → Prop) (w w' : World) : Nat → Prop := fun k => M k ∨ (w.heap.size ≤ k ∧ k < w'.heap.size)
section
variable {M N : Nat → Prop} {a b c w w' : World}
theorem Tch.refl (M : Nat → Prop) (w : World) : Tch M w w := ⟨rfl, rfl, rfl, Nat.le_refl _, fun _ _ _ => rfl⟩
theorem Tch.trans (h : Tch M a b) (k : Tch N b c) (hN : ∀ k, k < a.heap.size → N k → M k) : Tch M a c :=
  ⟨k.os.trans h.os, k.tape.trans h.tape, k.output.trans h.output, Nat.le_trans h.size k.size, fun i hi hne => (k.block i (Nat.lt_of_lt_of_le hi h.size) (fun hn => hne (hN i hi hn))).trans (h.block i hi hne)⟩
theorem Tch.mono (h : Tch M a b) (hM : ∀ k, k < a.heap.size → M k → N k) : Tch N a b := ⟨h.os, h.tape, h.output, h.size, fun k hk hn => h.block k hk fun hm => hn (hM k hk hm)⟩
theorem Tch.of_below (M : Nat → Prop) (h : Below w.heap.size w w') : Tch M w w' := ⟨h.os, h.tape, h.output, h.size, fun k hk _ => h.block k hk⟩
theorem Tch.of_only {g : Nat} (h : Only g w w') (hg : M g) : Tch M w w' := ⟨h.os, h.tape, h.output, h.size, fun k hk hn => h.block k hk (fun e => hn (e ▸ hg))⟩
theorem Tch.of_grown {row : Option Nat} (h : w.grownBy w' row) (hM : ∀ k, row = some k → M k) : Tch M w w' :=
  ⟨h.os, h.tape, h.output, h.size, fun k hk hn => h.block k hk fun e => hn (hM k e.symm)⟩
theorem Tch.alloc (M : Nat → Prop) (w : World) (o : Obj) : Tch M w (w.alloc o) := Tch.of_below M ((Below.refl _ _).alloc (Nat.le_refl _) o)
theorem Tch.setCell {g : Nat} (hg : M g) (w : World) (i : Nat) (v : Value) : Tch M w (w.setCell ⟨g, i, none⟩ v) := Tch.of_only (only_setCell g w i v) hg
theorem Tch.drewN (h : Tch M a b) (n : Nat) : Tch M a (b.drewN n) := ⟨h.os, h.tape, h.output, h.size, h.block⟩
theorem Tch.below {B : Nat} (h : Tch M w w') (hM : ∀ k, M k → B ≤ k) (hB : B ≤ w.heap.size) : Below B w w' :=
  ⟨h.os, h.tape, h.output, h.size, fun k hk => h.block k (by omega) fun hm => by have := hM k hm; omega⟩
theorem Tch.trans' (h : Tch M a b) (k : Tch (Grw M a b) b c) : Tch M a c := h.trans k fun k hk hg => by
  rcases hg with hg | ⟨h1, _⟩
  · exact hg
  · omega
theorem Tch.same (h : Tch M a b) (k : Tch M b c) : Tch M a c := h.trans k fun _ _ hm => hm
theorem Grw.of {k : Nat} (h : M k) : Grw M w w' k := .inl h
theorem Grw.trans {k : Nat} (hb : a.heap.size ≤ b.heap.size) (hc : b.heap.size ≤ c.heap.size) (h : Grw (Grw M a b) b c k) : Grw M a c k := by
  rcases h with (h | ⟨h1, h2⟩) | ⟨h1, h2⟩
  · exact .inl h
  · exact .inr ⟨h1, by omega⟩
  · exact .inr ⟨by omega, h2⟩
end
theorem own_apart {w : World} {b b' : Nat} {e e' : TypeId} {s s' n n' : Nat} {v v' : Value} {xs xs' : List Value} (h : w.ownsRow b e s v n xs) (h' : w.ownsRow b' e' s' v' n' xs') (hne : e ≠ e') : v.ownBlock = none ∨ v.ownBlock ≠ v'.ownBlock := by
  rcases h.2 with ⟨rfl, _⟩ | ⟨g, cap, cur, rfl, _, hh, _⟩
  · exact .inl rfl
  · refine .inr fun e0 => ?_
    rcases h'.2 with ⟨rfl, _⟩ | ⟨g', cap', cur', rfl, _, hh', _⟩
    · simp [Value.ownBlock] at e0
    · simp only [Value.ownBlock, Option.some.injEq] at e0
      subst e0
      rw [hh] at hh'
      injection hh' with hh'
      injection hh' with _ h2
      exact hne h2
theorem own_below {w w' : World} {b B : Nat} {e : TypeId} {s n : Nat} {v : Value} {xs : List Value} (h : w.ownsRow b e s v n xs) (hb : Below B w w') (hB : w.heap.size ≤ B) : w'.ownsRow b e s v n xs := by
  refine ⟨h.1, ?_⟩
  rcases h.2 with h0 | ⟨g, cap, cur, hv, hg, hh, hr⟩
  · exact .inl h0
  · have hlt : g < w.heap.size := by
      rcases Nat.lt_or_ge g w.heap.size with h1 | h1
      · exact h1
      · rw [Array.getElem?_eq_none h1] at hh; cases hh
    exact .inr ⟨g, cap, cur, hv, hg, (hb.block g (by omega)).trans hh, hr⟩
/-- It stays wherever its block does. -/
theorem own_stay {w w' : World} {b : Nat} {e : TypeId} {s n : Nat} {v : Value} {xs : List Value} (h : w.ownsRow b e s v n xs) (hb : ∀ k, v.ownBlock = some k → w'.heap[k]? = w.heap[k]?) : w'.ownsRow b e s v n xs := by
  refine ⟨h.1, ?_⟩
  rcases h.2 with h0 | ⟨g, cap, cur, rfl, hg, hh, hr⟩
  · exact .inl h0
  · exact .inr ⟨g, cap, cur, rfl, hg, (hb g rfl).trans hh, hr⟩
theorem own_mono {w : World} {b b' : Nat} {e : TypeId} {s n : Nat} {v : Value} {xs : List Value} (h : w.ownsRow b e s v n xs) (hb : b' ≤ b) : w.ownsRow b' e s v n xs := by
  refine ⟨h.1, ?_⟩
  rcases h.2 with h0 | ⟨g, cap, cur, hv, hg, hr⟩
  · exact .inl h0
  · exact .inr ⟨g, cap, cur, hv, Nat.le_trans hb hg, hr⟩
theorem own_form {w : World} {b : Nat} {e : TypeId} {s n : Nat} {v : Value} {xs : List Value} (h : w.ownsRow b e s v n xs) :
    ∃ A c, v = .slice A n c ∧ n ≤ c ∧ c ≤ maxLen ∧ (0 < n → ∃ g, A = some ⟨g, 0, none⟩ ∧ b ≤ g ∧ ∀ j u, xs[j]? = some u → w.cell? ⟨g, j, none⟩ = some u) := by
  rcases h.2 with ⟨rfl, rfl⟩ | ⟨g, cap, cur, rfl, hg, hh, hnc, hcm, hsz, hx⟩
  · exact ⟨none, 0, rfl, Nat.le_refl _, Nat.zero_le _, fun h => absurd h (by omega)⟩
  · refine ⟨_, cap, rfl, hnc, hcm, fun _ => ⟨g, rfl, hg, fun j u hu => ?_⟩⟩
    rw [cell_of_row w g j cur e (0, 0) hh]
    rw [← hx, List.getElem?_take] at hu
    split at hu
    · simpa using hu
    · cases hu
/-- The address is of a block's beginning, or none. -/
theorem own_form0 {w : World} {b : Nat} {e : TypeId} {s n : Nat} {v : Value} {xs : List Value} (h : w.ownsRow b e s v n xs) :
    (v = .slice none 0 0 ∧ n = 0) ∨ ∃ g c, v = .slice (some ⟨g, 0, none⟩) n c ∧ n ≤ c ∧ c ≤ maxLen ∧ g < w.heap.size := by
  rcases h.2 with h0 | ⟨g, cap, cur, rfl, hg, hh, hnc, hcm, hsz, hx⟩
  · exact .inl h0
  · refine .inr ⟨g, cap, rfl, hnc, hcm, ?_⟩
    rcases Nat.lt_or_ge g w.heap.size with h1 | h1
    · exact h1
    · rw [Array.getElem?_eq_none h1] at hh; cases hh
/-- The elements may be written. -/
theorem own_free {w : World} {b : Nat} {e : TypeId} {s n c : Nat} {g : Nat} {xs : List Value} (h : w.ownsRow b e s (.slice (some ⟨g, 0, none⟩) n c) n xs) (j : Nat) : w.frozen? ⟨g, j, none⟩ = false := by
  rcases h.2 with ⟨h0, _⟩ | ⟨g', cap, cur, h0, hg, hh, hr⟩
  · cases h0
  · injection h0 with h1 h2 h3
    injection h1 with h1
    injection h1 with h1
    subst h1
    simp [World.frozen?, hh]
/-- One built-in append, by what its run comes to. -/
theorem wpList_append_eq {P : Program} {ops : Array Oper} {rest : List Oper} {o : Oper} {a : Act} {w : World} {Q : Exit → Act → World → Prop} (hgd : o.guard = none) (s x : Operand) (t : TypeId)
    (ho : o.op = .call { callee := .builtin .append, args := #[s, x], argTypes := #[t, t] }) (v y v' : Value) (w' : World) (hs : a.eval s = v) (hx : a.eval x = y)
    (hrun : (Builtin.append_ #[t, t] o.type #[v, y]).run P w = .ok v' w') (h : wpList P ops Q rest (a.put o.dst v') w') : wpList P ops Q (o :: rest) a w :=
  wpList_plain hgd fun _ hK => by
    unfold Oper.wp execOp
    simp only [ho, resolve, invoke, builtin, Sem.run_bind, Sem.run_pure, Result.andThen_ok, List.map_toArray, List.map_cons, List.map_nil, hs, hx, hrun]
    exact hK _ _ h

/-! ### Bytes of the call's own -/
def byts (xs : List Int) : List Value := xs.map (Value.int .u8)
theorem byts_len (xs : List Int) : (byts xs).length = xs.length := by simp [byts]
/-- A row of bytes among the blocks of A. -/
def FB (A : Nat → Prop) (w : World) (v : Value) (xs : List Int) : Prop := w.ownsRow 0 5 1 v xs.length (byts xs) ∧ ∀ k, v.ownBlock = some k → A k
theorem FB.stay {A : Nat → Prop} {w w' : World} {v : Value} {xs : List Int} (h : FB A w v xs) (hb : ∀ k, A k → k < w.heap.size → w'.heap[k]? = w.heap[k]?) : FB A w' v xs := ⟨own_stay h.1 fun k hk => hb k (h.2 k hk) (h.1.lt k hk).2, h.2⟩
theorem FB.mono {A A' : Nat → Prop} {w : World} {v : Value} {xs : List Int} (h : FB A w v xs) (hb : ∀ k, A k → A' k) : FB A' w v xs := ⟨h.1, fun k hk => hb k (h.2 k hk)⟩
theorem FB.lt {A : Nat → Prop} {w : World} {v : Value} {xs : List Int} (h : FB A w v xs) : ∀ k, v.ownBlock = some k → k < w.heap.size := fun k hk => (h.1.lt k hk).2
theorem FB.nil (A : Nat → Prop) (w : World) : FB A w (.slice none 0 0) [] := ⟨World.ownsRow_nil _ _ _ _, fun k h => by simp [Value.ownBlock] at h⟩
theorem FB.form {A : Nat → Prop} {w : World} {v : Value} {xs : List Int} (h : FB A w v xs) (hk : ∀ x ∈ xs, 0 ≤ x ∧ x ≤ 255) :
    ∃ P c, v = .slice P xs.length c ∧ xs.length ≤ c ∧ c ≤ maxLen ∧ Nums .u8 w P xs.length xs := by
  obtain ⟨P, c, hv, h1, h2, h3⟩ := own_form h.1
  refine ⟨P, c, hv, h1, h2, rfl, hk, fun hn => ?_⟩
  obtain ⟨g, rfl, _, hc⟩ := h3 hn
  exact ⟨_, rfl, fun j x hx => by rw [add0]; exact hc j _ (by simp [byts, hx])⟩
theorem infoByte : (Try.prog.info? 5).map (fun i => (i.zero, i.size, i.bytes)) = some (some (.int .u8 0), 1, 1) := by kernel_rfl
theorem byts_one (xs : List Int) : ∀ u ∈ byts xs, u.oneCell' = true := by
  intro u hu
  simp only [byts, List.mem_map] at hu
  obtain ⟨x, _, rfl⟩ := hu
  rfl
/-- The cells that a slice of bytes reads. -/
theorem Nums.cells_u8 {w : World} {P : Option Addr} {n : Nat} {xs : List Int} (h : Nums .u8 w P n xs) {ad : Addr} (hP : P = some ad) : ∀ j u, (byts xs)[j]? = some u → w.cell? (ad.add j) = some u := by
  intro j u hu
  subst hP
  simp only [byts, List.getElem?_map, Option.map_eq_some_iff] at hu
  obtain ⟨x, hx, rfl⟩ := hu
  have hj : j < n := by rw [← h.1]; exact (List.getElem?_eq_some_iff.1 hx).1
  obtain ⟨ad', e, hc⟩ := h.2.2 (by omega)
  injection e with e
  subst e
  exact hc j x hx
end Go.Proofs.Ytnjalnnbdmmcmaa
