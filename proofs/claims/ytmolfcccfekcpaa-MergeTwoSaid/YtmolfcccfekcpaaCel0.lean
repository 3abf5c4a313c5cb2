/- More words for memory: rows and boxes that stay where other blocks are written. -/
import Derived.Deep.AppendLies
import Derived.Deep.Onto
import Derived.Maps.AppendAt
import Derived.OpenShut
import Derived.StillTailTactics
import Derived.Test.YtmolfcccfekcpaaPure
import Derived.Test.YtmolfcccfekcpaaProg
namespace Go.Proofs.Ytmolfcccfekcpaa
open Go.RowKit
theorem Arr.only {kd : IntKind} {T : TypeId} {w w' : World} {g k : Nat} {xs : List Int} (h : Arr kd T w g xs) (hb : Only k w w') (hg : g ≠ k) : Arr kd T w' g xs := (hb.block g h.lt hg).trans h
theorem only_setCell (g : Nat) (w : World) (i : Nat) (v : Value) : Only g w (w.setCell ⟨g, i, none⟩ v) := (Only.refl g w).setCell i v
theorem only_drewN {g : Nat} {a w : World} (h : Only g a w) (n : Nat) : Only g a (w.drewN n) := ⟨h.os, h.tape, h.output, h.size, h.block⟩
theorem Arr.byteTail {T : TypeId} {w : World} {g : Nat} {xs : List Int} (h : Arr .u8 T w g xs) (hk : ∀ x ∈ xs, 0 ≤ x ∧ x ≤ 255) (k : Nat) (hl : k ≤ xs.length) : Nums .u8 w (some ⟨g, k, none⟩) (xs.length - k) (xs.drop k) := by
  have := (h.nums hk).drop hl
  rcases Nat.eq_zero_or_pos k with rfl | hk0
  · exact this
  · rw [show (Addr.add ⟨g, 0, none⟩ k) = ⟨g, k, none⟩ from by unfold Addr.add; rw [if_neg (by omega)]; simp] at this
    exact this
/-! ### Bounds of what stands ahead of the rows -/
def Bytes (l : List Int) : Prop := ∀ x ∈ l, 0 ≤ x ∧ x ≤ 255
theorem Bytes.drop {l : List Int} (h : Bytes l) (k : Nat) : Bytes (l.drop k) := fun x hx => h x (List.mem_of_mem_drop hx)
theorem Bytes.one {l : List Int} (h : Bytes l) : 0 ≤ beVal (l.take 1) ∧ beVal (l.take 1) ≤ 255 := by
  match l, h with
  | [], _ => simp [beVal]
  | x :: t, h => have := h x (by simp); simp only [List.take_succ_cons, List.take_zero, beVal1]; exact this
theorem Bytes.two {l : List Int} (h : Bytes l) : 0 ≤ beVal (l.take 2) ∧ beVal (l.take 2) ≤ 65535 := by
  match l, h with
  | [], _ => simp [beVal]
  | [x], h => have := h x (by simp); simp only [List.take_succ_cons, List.take_nil, beVal1]; omega
  | x :: y :: t, h => have h1 := h x (by simp); have h2 := h y (by simp); simp only [List.take_succ_cons, List.take_zero, beVal2]; omega
theorem chunks_bytes {l : List Int} (h : Bytes l) (k : Nat) : Bytes (chunks id 1 k l) := by
  intro x hx
  simp only [chunks, List.mem_map] at hx
  obtain ⟨i, _, rfl⟩ := hx
  exact (h.drop (1 * i)).one
theorem hMeas_bd {xs : List Int} (h : Bytes xs) : 0 ≤ hMeas xs ∧ hMeas xs ≤ 255 := by
  have hp : Bytes (pad xs) := pad_ok h
  exact (((hp.drop 4).drop 1).drop _).one
theorem hRows_bd {xs : List Int} (h : Bytes xs) : 0 ≤ hRows xs ∧ hRows xs ≤ 65535 := by
  have hp : Bytes (pad xs) := pad_ok h
  exact ((((hp.drop 4).drop 1).drop _).drop 1).two
theorem hCards_bytes {xs : List Int} (h : Bytes xs) : Bytes (hCards xs) := by
  have hp : Bytes (pad xs) := pad_ok h
  exact chunks_bytes ((hp.drop 4).drop 1) _
theorem hCards_len (xs : List Int) : (hCards xs).length = hDims xs := chunks_len _ _ _ _

/-! ### A row of cells of the call's own, of whatever values -/
def Own (T : TypeId) (w : World) (g : Nat) (vs : List Value) : Prop := w.heap[g]? = some (.cells vs.toArray T (0, 0))
section
variable {T : TypeId} {w w' : World} {g : Nat} {vs : List Value}
theorem Own.lt (h : Own T w g vs) : g < w.heap.size := by
  rcases Nat.lt_or_ge g w.heap.size with hlt | hge
  · exact hlt
  · unfold Own at h; rw [Array.getElem?_eq_none hge] at h; cases h
theorem Own.cell (h : Own T w g vs) {i : Nat} {v : Value} (hx : vs[i]? = some v) : w.cell? ⟨g, i, none⟩ = some v := by
  rw [cell_of_row w g i _ _ (0, 0) h]
  simp [hx]
theorem Own.frozen (h : Own T w g vs) (i : Nat) : w.frozen? ⟨g, i, none⟩ = false := by
  unfold Own at h
  simp [World.frozen?, h]
theorem Own.set_ (h : Own T w g vs) (i : Nat) (v : Value) : Own T (w.setCell ⟨g, i, none⟩ v) g (vs.set i v) := by
  unfold Own at h ⊢
  simp [World.setCell, Array.getElem?_modify, h]
theorem Own.drewN (h : Own T w g vs) (n : Nat) : Own T (w.drewN n) g vs := h
theorem Own.alloc (h : Own T w g vs) (o : Obj) : Own T (w.alloc o) g vs := (Below.heap_alloc _ _ _ h.lt).trans h
theorem Own.below {B : Nat} (h : Own T w g vs) (hb : Below B w w') (hg : g < B) : Own T w' g vs := (hb.block g hg).trans h
theorem Own.only {k : Nat} (h : Own T w g vs) (hb : Only k w w') (hg : g ≠ k) : Own T w' g vs := (hb.block g h.lt hg).trans h
end
theorem madeCells_same (z : Value) (n : Nat) : (madeCells #[z, z] n).toList = List.replicate n z := by
  unfold madeCells
  simp only [Array.toList_map, Array.toList_range]
  apply List.ext_getElem (by simp)
  intro i h1 h2
  simp only [List.getElem_map, List.getElem_range, List.getElem_replicate]
  have h : i % 2 = 0 ∨ i % 2 = 1 := by omega
  rcases h with h | h <;> simp [h]
/-- A row of n zero rows, made anew. -/
theorem make_rows {P : Program} (t e : TypeId) (i : TypeInfo) (ht : P.underlying t = some (.slice e)) (hi : P.info? e = some i) (hz : i.zero = some (.agg #[.slice none 0 0, .slice none 0 0])) (hs : i.size = 2) (hb : i.bytes = 48) (n : Nat) (hn : n ≤ 1000000) (w : World) :
    (Instr.makeSlice t (.int .i64 (n : Int)) (.int .i64 (n : Int))).run P w = .ok (.slice (some ⟨w.heap.size, 0, none⟩) n n) (w.alloc (.cells (madeCells #[.slice none 0 0, .slice none 0 0] (n * 2)) e)) := by
  have hr := run_make (P := P) w t e i _ ht hi hz .i64 .i64 n n (by omega) (by omega) (by rw [hb]; omega) (by omega)
  simpa [hs, Value.cells] using hr
theorem Own.made_rows (w : World) (T : TypeId) (n : Nat) : Own T (w.alloc (.cells (madeCells #[.slice none 0 0, .slice none 0 0] (n * 2)) T)) w.heap.size (List.replicate (n * 2) (.slice none 0 0)) := by
  unfold Own
  rw [heap_alloc_new]
  congr 2
  apply Array.ext'
  rw [madeCells_same]

/-- Rows that lie in memory of their own: of each the blocks of its values and of its measures. -/
def RowsOwn (w : World) (B : Nat) (ps : List (Nat × Nat)) (l : List Fact) : Prop :=
  ps.length = l.length ∧ ∀ (i : Nat) (p : Nat × Nat) (r : Fact), ps[i]? = some p → l[i]? = some r → (B ≤ p.1 ∧ B ≤ p.2) ∧ Arr .i64 3 w p.1 r.key ∧ Arr .i64 3 w p.2 r.m
theorem RowsOwn.nil (w : World) (B : Nat) : RowsOwn w B [] [] := ⟨rfl, fun i p r h => by simp at h⟩
theorem RowsOwn.below {w w' : World} {B : Nat} {ps : List (Nat × Nat)} {l : List Fact} (h : RowsOwn w B ps l) (hb : Below w.heap.size w w') : RowsOwn w' B ps l :=
  ⟨h.1, fun i p r hp hr => by obtain ⟨h1, h2, h3⟩ := h.2 i p r hp hr; exact ⟨h1, h2.below hb h2.lt, h3.below hb h3.lt⟩⟩
theorem RowsOwn.only {w w' : World} {B k : Nat} {ps : List (Nat × Nat)} {l : List Fact} (h : RowsOwn w B ps l) (hb : Only k w w') (hk : k < B) : RowsOwn w' B ps l :=
  ⟨h.1, fun i p r hp hr => by obtain ⟨h1, h2, h3⟩ := h.2 i p r hp hr; exact ⟨h1, h2.only hb (by omega), h3.only hb (by omega)⟩⟩
theorem RowsOwn.snoc {w : World} {B g1 g2 : Nat} {ps : List (Nat × Nat)} {l : List Fact} {r : Fact} (h : RowsOwn w B ps l) (h1 : B ≤ g1) (h2 : B ≤ g2) (a1 : Arr .i64 3 w g1 r.key) (a2 : Arr .i64 3 w g2 r.m) : RowsOwn w B (ps ++ [(g1, g2)]) (l ++ [r]) := by
  refine ⟨by simp [h.1], fun i p r' hp hr => ?_⟩
  rcases Nat.lt_or_ge i ps.length with hi | hi
  · rw [List.getElem?_append_left hi] at hp
    rw [List.getElem?_append_left (by rw [← h.1]; exact hi)] at hr
    exact h.2 i p r' hp hr
  · rw [List.getElem?_append_right hi] at hp
    rw [List.getElem?_append_right (by rw [← h.1]; exact hi)] at hr
    have e : i - ps.length = 0 := by
      rcases Nat.eq_zero_or_pos (i - ps.length) with h0 | h0
      · exact h0
      · rw [List.getElem?_eq_none (by simp; omega)] at hp; cases hp
    rw [e] at hp
    rw [← h.1, e] at hr
    simp at hp hr
    subst hp hr
    exact ⟨⟨h1, h2⟩, a1, a2⟩
def sl (g n : Nat) : Value := .slice (some ⟨g, 0, none⟩) n n
def rowCells (d me : Nat) (ps : List (Nat × Nat)) : List Value := ps.flatMap fun p => [sl p.1 d, sl p.2 me]
theorem rowCells_len (d me : Nat) (ps : List (Nat × Nat)) : (rowCells d me ps).length = ps.length * 2 := by
  induction ps with
  | nil => rfl
  | cons p t ih => unfold rowCells at ih ⊢; rw [List.flatMap_cons, List.length_append, ih, List.length_cons]; simp only [List.length_cons, List.length_nil]; omega
theorem rowCells_snoc (d me : Nat) (ps : List (Nat × Nat)) (p : Nat × Nat) : rowCells d me (ps ++ [p]) = rowCells d me ps ++ [sl p.1 d, sl p.2 me] := by simp [rowCells]
theorem rowCells_at {d me : Nat} : ∀ {ps : List (Nat × Nat)} {i : Nat} {p : Nat × Nat}, ps[i]? = some p → (rowCells d me ps)[i * 2]? = some (sl p.1 d) ∧ (rowCells d me ps)[i * 2 + 1]? = some (sl p.2 me)
  | p :: t, 0, q, h => by
    simp at h
    subst h
    simp [rowCells]
  | p :: t, i + 1, q, h => by
    have := rowCells_at (d := d) (me := me) (ps := t) (i := i) (p := q) (by simpa using h)
    have e : rowCells d me (p :: t) = sl p.1 d :: sl p.2 me :: rowCells d me t := by simp [rowCells]
    rw [e, show (i + 1) * 2 = i * 2 + 1 + 1 from by omega]
    simpa using this
theorem rowCells_set {d me k r g1 g2 : Nat} {ps : List (Nat × Nat)} (hk : ps.length = k) (hr : k < r) :
    ((rowCells d me ps ++ List.replicate ((r - k) * 2) (Value.slice none 0 0)).set (k * 2) (sl g1 d)).set (k * 2 + 1) (sl g2 me) = rowCells d me (ps ++ [(g1, g2)]) ++ List.replicate ((r - (k + 1)) * 2) (Value.slice none 0 0) := by
  have hl : (rowCells d me ps).length = k * 2 := by rw [rowCells_len, hk]
  rw [List.set_append_right _ _ (by omega), List.set_append_right _ _ (by omega), hl, Nat.sub_self, show k * 2 + 1 - k * 2 = 1 from by omega,
    show (r - k) * 2 = (r - (k + 1)) * 2 + 1 + 1 from by omega, List.replicate_succ, List.replicate_succ, rowCells_snoc]
  simp

theorem RowsOwn.mono {w : World} {B B' : Nat} {ps : List (Nat × Nat)} {l : List Fact} (h : RowsOwn w B ps l) (hb : B' ≤ B) : RowsOwn w B' ps l :=
  ⟨h.1, fun i p r hp hr => by obtain ⟨⟨h1, h2⟩, h3⟩ := h.2 i p r hp hr; exact ⟨⟨by omega, by omega⟩, h3⟩⟩

theorem slice_eq {A A' : Option Addr} {n n' c c' : Nat} (h1 : A = A') (h2 : n = n') (h3 : c = c') : Value.slice A n c = Value.slice A' n' c' := by rw [h1, h2, h3]

theorem chunks_i64 (k cnt : Nat) (xs : List Int) : ∀ x ∈ chunks wrap64 k cnt xs, inK .i64 x := by
  intro x hx
  simp only [chunks, List.mem_map] at hx
  obtain ⟨i, _, rfl⟩ := hx
  unfold wrap64 inK
  omega
theorem bytes_i64 {l : List Int} (h : Bytes l) : ∀ x ∈ l, inK .i64 x := fun x hx => by
  have := h x hx
  simp only [inK]
  omega

end Go.Proofs.Ytmolfcccfekcpaa
/- Rows of the call's own, whoever made them; what a call may have turned. No Go text in sight. -/
namespace Go.Proofs.Ytmolfcccfekcpaa
open Go.RowKit

theorem add0 (h k : Nat) : (Addr.add ⟨h, 0, none⟩ k) = ⟨h, k, none⟩ := by
  unfold Addr.add
  split
  · simp [*]
  · simp
/-- From w on nothing that was there has turned but blocks of M. -/
structure Tch (M : Nat → Prop) (w w' : World) : Prop where
  os : w'.os = w.os
  tape : w'.tape = w.tape
  output : w'.output = w.output
  size : w.heap.size ≤ w'.heap.size
  block : ∀ k, k < w.heap.size → ¬ M k → w'.heap[k]? = w.heap[k]?
/-- M, and what is new. -/
def Grw (M : Nat → Prop) (w w' : World) : Nat → Prop := fun k => M k ∨ (w.heap.size ≤ k ∧ k < w'.heap.size)
section
variable {M N : Nat → Prop} {a b c w w' : World}
theorem Tch.refl (M : Nat → Prop) (w : World) : Tch M w w := ⟨rfl, rfl, rfl, Nat.le_refl _, fun _ _ _ => rfl⟩
theorem Tch.trans (h : Tch M a b) (k : Tch N b c) (hN : ∀ k, k < a.heap.size → N k → M k) : Tch M a c :=
  ⟨k.os.trans h.os, k.tape.trans h.tape, k.output.trans h.output, Nat.le_trans h.size k.size, fun i hi hne => (k.block i (Nat.lt_of_lt_of_le hi h.size) (fun hn => hne (hN i hi hn))).trans (h.block i hi hne)⟩
theorem Tch.mono (h : Tch M a b) (hM : ∀ k, k < a.heap.size → M k → N k) : Tch N a b := ⟨h.os, h.tape, h.output, h.size, fun k hk hn => h.block k hk fun hm => hn (hM k hk hm)⟩
theorem Tch.of_below (M : Nat → Prop) (h : Below w.heap.size w w') : Tch M w w' := ⟨h.os, h.tape, h.output, h.size, fun k hk _ => h.block k hk⟩
theorem Tch.of_only {g : Nat} (h : Only g w w') (hg : M g) : Tch M w w' := ⟨h.os, h.tape, h.output, h.size, fun k hk hn => h.block k hk (fun e => hn (e ▸ hg))⟩
theorem Tch.of_grown {row : Option Nat} (h : w.grownBy w' row) (hM : ∀ k, row = some k → M k) : Tch M w w' :=
  ⟨h.os, h.tape, h.output, h.size, fun k hk hn => h.block k hk fun e => hn (hM k e.symm)⟩
theorem Tch.alloc (M : Nat → Prop) (w : World) (o : Obj) : Tch M w (w.alloc o) := Tch.of_below M ((Below.refl _ _).alloc (Nat.le_refl _) o)
theorem Tch.setCell {g : Nat} (hg : M g) (w : World) (i : Nat) (v : Value) : Tch M w (w.setCell ⟨g, i, none⟩ v) := Tch.of_only (only_setCell g w i v) hg
theorem Tch.drewN (h : Tch M a b) (n : Nat) : Tch M a (b.drewN n) := ⟨h.os, h.tape, h.output, h.size, h.block⟩
theorem Tch.below {B : Nat} (h : Tch M w w') (hM : ∀ k, M k → B ≤ k) (hB : B ≤ w.heap.size) : Below B w w' :=
  ⟨h.os, h.tape, h.output, h.size, fun k hk => h.block k (by omega) fun hm => by have := hM k hm; omega⟩
theorem Tch.trans' (h : Tch M a b) (k : Tch (Grw M a b) b c) : Tch M a c := h.trans k fun k hk hg => by
  rcases hg with hg | ⟨h1, _⟩
  · exact hg
  · omega
theorem Tch.same (h : Tch M a b) (k : Tch M b c) : Tch M a c := h.trans k fun _ _ hm => hm
theorem Grw.of {k : Nat} (h : M k) : Grw M w w' k := .inl h
theorem Grw.trans {k : Nat} (hb : a.heap.size ≤ b.heap.size) (hc : b.heap.size ≤ c.heap.size) (h : Grw (Grw M a b) b c k) : Grw M a c k := by
  rcases h with (h | ⟨h1, h2⟩) | ⟨h1, h2⟩
  · exact .inl h
  · exact .inr ⟨h1, by omega⟩
  · exact .inr ⟨by omega, h2⟩
end
theorem own_apart {w : World} {b b' : Nat} {e e' : TypeId} {s s' n n' : Nat} {v v' : Value} {xs xs' : List Value} (h : w.ownsRow b e s v n xs) (h' : w.ownsRow b' e' s' v' n' xs') (hne : e ≠ e') : v.ownBlock = none ∨ v.ownBlock ≠ v'.ownBlock := by
  rcases h.2 with ⟨rfl, _⟩ | ⟨g, cap, cur, rfl, _, hh, _⟩
  · exact .inl rfl
  · refine .inr fun e0 => ?_
    rcases h'.2 with ⟨rfl, _⟩ | ⟨g', cap', cur', rfl, _, hh', _⟩
    · simp [Value.ownBlock] at e0
    · simp only [Value.ownBlock, Option.some.injEq] at e0
      subst e0
      rw [hh] at hh'
      injection hh' with hh'
      injection hh' with _ h2
      exact hne h2
theorem own_below {w w' : World} {b B : Nat} {e : TypeId} {s n : Nat} {v : Value} {xs : List Value} (h : w.ownsRow b e s v n xs) (hb : Below B w w') (hB : w.heap.size ≤ B) : w'.ownsRow b e s v n xs := by
  refine ⟨h.1, ?_⟩
  rcases h.2 with h0 | ⟨g, cap, cur, hv, hg, hh, hr⟩
  · exact .inl h0
  · have hlt : g < w.heap.size := by
      rcases Nat.lt_or_ge g w.heap.size with h1 | h1
      · exact h1
      · rw [Array.getElem?_eq_none h1] at hh; cases hh
    exact .inr ⟨g, cap, cur, hv, hg, (hb.block g (by omega)).trans hh, hr⟩
/-- It stays wherever its block does. -/
theorem own_stay {w w' : World} {b : Nat} {e : TypeId} {s n : Nat} {v : Value} {xs : List Value} (h : w.ownsRow b e s v n xs) (hb : ∀ k, v.ownBlock = some k → w'.heap[k]? = w.heap[k]?) : w'.ownsRow b e s v n xs := by
  refine ⟨h.1, ?_⟩
  rcases h.2 with h0 | ⟨g, cap, cur, rfl, hg, hh, hr⟩
  · exact .inl h0
  · exact .inr ⟨g, cap, cur, rfl, hg, (hb g rfl).trans hh, hr⟩
theorem own_mono {w : World} {b b' : Nat} {e : TypeId} {s n : Nat} {v : Value} {xs : List Value} (h : w.ownsRow b e s v n xs) (hb : b' ≤ b) : w.ownsRow b' e s v n xs := by
  refine ⟨h.1, ?_⟩
  rcases h.2 with h0 | ⟨g, cap, cur, hv, hg, hr⟩
  · exact .inl h0
  · exact .inr ⟨g, cap, cur, hv, Nat.le_trans hb hg, hr⟩
theorem own_form {w : World} {b : Nat} {e : TypeId} {s n : Nat} {v : Value} {xs : List Value} (h : w.ownsRow b e s v n xs) :
    ∃ A c, v = .slice A n c ∧ n ≤ c ∧ c ≤ maxLen ∧ (0 < n → ∃ g, A = some ⟨g, 0, none⟩ ∧ b ≤ g ∧ ∀ j u, xs[j]? = some u → w.cell? ⟨g, j, none⟩ = some u) := by
  rcases h.2 with ⟨rfl, rfl⟩ | ⟨g, cap, cur, rfl, hg, hh, hnc, hcm, hsz, hx⟩
  · exact ⟨none, 0, rfl, Nat.le_refl _, Nat.zero_le _, fun h => absurd h (by omega)⟩
  · refine ⟨_, cap, rfl, hnc, hcm, fun _ => ⟨g, rfl, hg, fun j u hu => ?_⟩⟩
    rw [cell_of_row w g j cur e (0, 0) hh]
    rw [← hx, List.getElem?_take] at hu
    split at hu
    · simpa using hu
    · cases hu
/-- The address is of a block's beginning, or none. -/
theorem own_form0 {w : World} {b : Nat} {e : TypeId} {s n : Nat} {v : Value} {xs : List Value} (h : w.ownsRow b e s v n xs) :
    (v = .slice none 0 0 ∧ n = 0) ∨ ∃ g c, v = .slice (some ⟨g, 0, none⟩) n c ∧ n ≤ c ∧ c ≤ maxLen ∧ g < w.heap.size := by
  rcases h.2 with h0 | ⟨g, cap, cur, rfl, hg, hh, hnc, hcm, hsz, hx⟩
  · exact .inl h0
  · refine .inr ⟨g, cap, rfl, hnc, hcm, ?_⟩
    rcases Nat.lt_or_ge g w.heap.size with h1 | h1
    · exact h1
    · rw [Array.getElem?_eq_none h1] at hh; cases hh
/-- The elements may be written. -/
theorem own_free {w : World} {b : Nat} {e : TypeId} {s n c : Nat} {g : Nat} {xs : List Value} (h : w.ownsRow b e s (.slice (some ⟨g, 0, none⟩) n c) n xs) (j : Nat) : w.frozen? ⟨g, j, none⟩ = false := by
  rcases h.2 with ⟨h0, _⟩ | ⟨g', cap, cur, h0, hg, hh, hr⟩
  · cases h0
  · injection h0 with h1 h2 h3
    injection h1 with h1
    injection h1 with h1
    subst h1
    simp [World.frozen?, hh]
/-- One built-in append, by what its run comes to. -/
theorem wpList_append_eq {P : Program} {ops : Array Oper} {rest : List Oper} {o : Oper} {a : Act} {w : World} {Q : Exit → Act → World → Prop} (hgd : o.guard = none) (s x : Operand) (t : TypeId)
    (ho : o.op = .call { callee := .builtin .append, args := #[s, x], argTypes := #[t, t] }) (v y v' : Value) (w' : World) (hs : a.eval s = v) (hx : a.eval x = y)
    (hrun : (Builtin.append_ #[t, t] o.type #[v, y]).run P w = .ok v' w') (h : wpList P ops Q rest (a.put o.dst v') w') : wpList P ops Q (o :: rest) a w :=
  wpList_plain hgd fun _ hK => by
    unfold Oper.wp execOp
    simp only [ho, resolve, invoke, builtin, Sem.run_bind, Sem.run_pure, Result.andThen_ok, List.map_toArray, List.map_cons, List.map_nil, hs, hx, hrun]
    exact hK _ _ h

/-! ### Bytes of the call's own -/
def byts (xs : List Int) : List Value := xs.map (Value.int .u8)
theorem byts_len (xs : List Int) : (byts xs).length = xs.length := by simp [byts]
/-- A row of bytes among the blocks of A. -/
def FB (A : Nat → Prop) (w : World) (v : Value) (xs : List Int) : Prop := w.ownsRow 0 5 1 v xs.length (byts xs) ∧ ∀ k, v.ownBlock = some k → A k
theorem FB.stay {A : Nat → Prop} {w w' : World} {v : Value} {xs : List Int} (h : FB A w v xs) (hb : ∀ k, A k → k < w.heap.size → w'.heap[k]? = w.heap[k]?) : FB A w' v xs := ⟨own_stay h.1 fun k hk => hb k (h.2 k hk) (h.1.lt k hk).2, h.2⟩
theorem FB.mono {A A' : Nat → Prop} {w : World} {v : Value} {xs : List Int} (h : FB A w v xs) (hb : ∀ k, A k → A' k) : FB A' w v xs := ⟨h.1, fun k hk => hb k (h.2 k hk)⟩
theorem FB.lt {A : Nat → Prop} {w : World} {v : Value} {xs : List Int} (h : FB A w v xs) : ∀ k, v.ownBlock = some k → k < w.heap.size := fun k hk => (h.1.lt k hk).2
theorem FB.nil (A : Nat → Prop) (w : World) : FB A w (.slice none 0 0) [] := ⟨World.ownsRow_nil _ _ _ _, fun k h => by simp [Value.ownBlock] at h⟩
theorem FB.form {A : Nat → Prop} {w : World} {v : Value} {xs : List Int} (h : FB A w v xs) (hk : ∀ x ∈ xs, 0 ≤ x ∧ x ≤ 255) :
    ∃ P c, v = .slice P xs.length c ∧ xs.length ≤ c ∧ c ≤ maxLen ∧ Nums .u8 w P xs.length xs := by
  obtain ⟨P, c, hv, h1, h2, h3⟩ := own_form h.1
  refine ⟨P, c, hv, h1, h2, rfl, hk, fun hn => ?_⟩
  obtain ⟨g, rfl, _, hc⟩ := h3 hn
  exact ⟨_, rfl, fun j x hx => by rw [add0]; exact hc j _ (by simp [byts, hx])⟩
theorem infoByte : (Try.prog.info? 5).map (fun i => (i.zero, i.size, i.bytes)) = some (some (.int .u8 0), 1, 1) := by kernel_rfl
theorem byts_one (xs : List Int) : ∀ u ∈ byts xs, u.oneCell' = true := by
  intro u hu
  simp only [byts, List.mem_map] at hu
  obtain ⟨x, _, rfl⟩ := hu
  rfl
/-- The cells that a slice of bytes reads. -/
theorem Nums.cells_u8 {w : World} {P : Option Addr} {n : Nat} {xs : List Int} (h : Nums .u8 w P n xs) {ad : Addr} (hP : P = some ad) : ∀ j u, (byts xs)[j]? = some u → w.cell? (ad.add j) = some u := by
  intro j u hu
  subst hP
  simp only [byts, List.getElem?_map, Option.map_eq_some_iff] at hu
  obtain ⟨x, hx, rfl⟩ := hu
  have hj : j < n := by rw [← h.1]; exact (List.getElem?_eq_some_iff.1 hx).1
  obtain ⟨ad', e, hc⟩ := h.2.2 (by omega)
  injection e with e
  subst e
  exact hc j x hx
end Go.Proofs.Ytmolfcccfekcpaa
/- Slices of ints of the call's own. -/
namespace Go.Proofs.Ytmolfcccfekcpaa
open Go.RowKit
def ints (xs : List Int) : List Value := xs.map (Value.int .i64)
theorem ints_len (xs : List Int) : (ints xs).length = xs.length := by simp [ints]
def IntsOk (xs : List Int) : Prop := ∀ x ∈ xs, inK .i64 x
theorem infoI : (Try.prog.info? 3).map (fun i => (i.zero, i.size, i.bytes)) = some (some (.int .i64 0), 1, 8) := by kernel_rfl
theorem ints_one (xs : List Int) : ∀ u ∈ ints xs, u.oneCell' = true := by
  intro u hu
  simp only [ints, List.mem_map] at hu
  obtain ⟨x, _, rfl⟩ := hu
  rfl
theorem Nums.cells_i {w : World} {P : Option Addr} {n : Nat} {xs : List Int} (h : Nums .i64 w P n xs) {ad : Addr} (hP : P = some ad) : ∀ j u, (ints xs)[j]? = some u → w.cell? (ad.add j) = some u := by
  intro j u hu
  subst hP
  simp only [ints, List.getElem?_map, Option.map_eq_some_iff] at hu
  obtain ⟨x, hx, rfl⟩ := hu
  have hj : j < n := by rw [← h.1]; exact (List.getElem?_eq_some_iff.1 hx).1
  obtain ⟨ad', e, hc⟩ := h.2.2 (by omega)
  injection e with e
  subst e
  exact hc j x hx
/-- A row of ints of the call's own, from block B on. -/
def OI (B : Nat) (w : World) (v : Value) (xs : List Int) : Prop := w.ownsRow B 3 1 v xs.length (ints xs) ∧ IntsOk xs
section
variable {B B' : Nat} {w w' : World} {v : Value} {xs : List Int}
theorem OI.mono (h : OI B w v xs) (hb : B' ≤ B) : OI B' w v xs := ⟨own_mono h.1 hb, h.2⟩
theorem OI.below (h : OI B w v xs) (hb : Below w.heap.size w w') : OI B w' v xs := ⟨own_below h.1 hb (Nat.le_refl _), h.2⟩
theorem OI.nil (B : Nat) (w : World) : OI B w (.slice none 0 0) [] := ⟨World.ownsRow_nil _ _ _ _, fun x h => by cases h⟩
theorem OI.form (h : OI B w v xs) : ∃ P c, v = .slice P xs.length c ∧ xs.length ≤ c ∧ c ≤ maxLen ∧ Nums .i64 w P xs.length xs ∧ (P = none → c = 0) := by
  obtain ⟨P, c, hv, h1, h2, h3⟩ := own_form h.1
  refine ⟨P, c, hv, h1, h2, ⟨rfl, h.2, fun hn => ?_⟩, fun e => ?_⟩
  · obtain ⟨g, rfl, _, hc⟩ := h3 hn
    exact ⟨_, rfl, fun j x hx => by rw [add0]; exact hc j _ (by simp [ints, hx])⟩
  · rcases own_form0 h.1 with ⟨e1, _⟩ | ⟨g, c', e1, _⟩
    · rw [hv] at e1; injection e1
    · rw [hv, e] at e1; injection e1 with e1 _ _; cases e1
end
end Go.Proofs.Ytmolfcccfekcpaa
/- Cells as mathematics; how they read in memory. -/
namespace Go.Proofs.Ytmolfcccfekcpaa
open Go.RowKit
structure Cel where
  key : List Int
  cnt : Int
  sum : List Int
  mn : List Int
  mx : List Int
/-- Two numbers, two rows of numbers, held against one another. -/
def cmpI (x y : Int) : Int := if x < y then -1 else if y < x then 1 else 0
def cmpL : List Int → List Int → Int
  | [], [] => 0
  | [], _ :: _ => -1
  | _ :: _, [] => 1
  | x :: s, y :: t => if cmpI x y = 0 then cmpL s t else cmpI x y
theorem cmpI_self (x : Int) : cmpI x x = 0 := by simp [cmpI]
theorem cmpI_zero {x y : Int} : cmpI x y = 0 ↔ x = y := by
  unfold cmpI
  split
  · constructor <;> intro h <;> omega
  · split
    · constructor <;> intro h <;> omega
    · constructor <;> intro h <;> omega
theorem cmpL_self : ∀ (s : List Int), cmpL s s = 0
  | [] => rfl
  | x :: s => by unfold cmpL; rw [if_pos (cmpI_self x)]; exact cmpL_self s
theorem cmpL_zero : ∀ {s t : List Int}, cmpL s t = 0 ↔ s = t
  | [], [] => by simp [cmpL]
  | [], _ :: _ => by simp [cmpL]
  | _ :: _, [] => by simp [cmpL]
  | x :: s, y :: t => by
    unfold cmpL
    split
    · rename_i h
      rw [cmpL_zero (s := s) (t := t), cmpI_zero.1 h]
      simp
    · rename_i h
      constructor
      · intro h1; exact absurd h1 h
      · intro h1; injection h1 with h1 _; exact absurd (cmpI_zero.2 h1) h
theorem cmpI_in (x y : Int) : cmpI x y = -1 ∨ cmpI x y = 0 ∨ cmpI x y = 1 := by
  unfold cmpI
  split
  · exact .inl rfl
  · split
    · exact .inr (.inr rfl)
    · exact .inr (.inl rfl)
theorem cmpL_in : ∀ (s t : List Int), cmpL s t = -1 ∨ cmpL s t = 0 ∨ cmpL s t = 1
  | [], [] => by simp [cmpL]
  | [], _ :: _ => by simp [cmpL]
  | _ :: _, [] => by simp [cmpL]
  | x :: s, y :: t => by
    unfold cmpL
    split
    · exact cmpL_in s t
    · exact cmpI_in x y
theorem cmpI_anti (x y : Int) : cmpI y x = - cmpI x y := by
  unfold cmpI
  split <;> split <;> (try split) <;> omega
theorem cmpL_anti : ∀ (s t : List Int), cmpL t s = - cmpL s t
  | [], [] => rfl
  | [], _ :: _ => rfl
  | _ :: _, [] => rfl
  | x :: s, y :: t => by
    have h := cmpI_anti x y
    have ih := cmpL_anti s t
    unfold cmpL
    by_cases h0 : cmpI x y = 0
    · rw [if_pos h0, if_pos (by omega), ih]
    · rw [if_neg h0, if_neg (by omega), h]
theorem cmpI_lt {x y : Int} : cmpI x y < 0 ↔ x < y := by
  unfold cmpI
  split
  · constructor <;> intro h <;> omega
  · split <;> (constructor <;> intro h <;> omega)
/-- 'Less' goes on. -/
theorem cmpL_trans : ∀ {s t u : List Int}, cmpL s t ≤ 0 → cmpL t u ≤ 0 → cmpL s u ≤ 0
  | [], _, [] , _, _ => by simp [cmpL]
  | [], _, _ :: _, _, _ => by simp [cmpL]
  | _ :: _, [], _, h, _ => by simp [cmpL] at h
  | _ :: _, _ :: _, [], _, h => by simp [cmpL] at h
  | x :: s, y :: t, z :: u, h1, h2 => by
    unfold cmpL at h1 h2 ⊢
    by_cases a : cmpI x y = 0
    · rw [if_pos a] at h1
      have ea := cmpI_zero.1 a
      subst ea
      by_cases b : cmpI x z = 0
      · rw [if_pos b] at h2 ⊢
        exact cmpL_trans h1 h2
      · rw [if_neg b] at h2 ⊢; exact h2
    · rw [if_neg a] at h1
      have la := cmpI_lt.1 (show cmpI x y < 0 by omega)
      by_cases b : cmpI y z = 0
      · have eb := cmpI_zero.1 b
        subst eb
        rw [if_neg a]; exact h1
      · rw [if_neg b] at h2
        have lb := cmpI_lt.1 (show cmpI y z < 0 by omega)
        have lc : cmpI x z < 0 := cmpI_lt.2 (by omega)
        rw [if_neg (by omega)]
        omega
theorem cmpL_drop {s t : List Int} {k : Nat} {x y : Int} (hx : s[k]? = some x) (hy : t[k]? = some y) : cmpL (s.drop k) (t.drop k) = if cmpI x y = 0 then cmpL (s.drop (k + 1)) (t.drop (k + 1)) else cmpI x y := by
  obtain ⟨h1, rfl⟩ := List.getElem?_eq_some_iff.1 hx
  obtain ⟨h2, rfl⟩ := List.getElem?_eq_some_iff.1 hy
  rw [List.drop_eq_getElem_cons h1, List.drop_eq_getElem_cons h2]
  rfl
/-- A slice of ints that reads as xs. -/
def RI (w : World) (v : Value) (xs : List Int) : Prop := ∃ P c, v = .slice P xs.length c ∧ Nums .i64 w P xs.length xs ∧ xs.length ≤ c ∧ c ≤ maxLen ∧ (P = none → c = 0)
theorem OI.ri {B : Nat} {w : World} {v : Value} {xs : List Int} (h : OI B w v xs) : RI w v xs := by
  obtain ⟨P, c, hv, h1, h2, h3, h4⟩ := h.form
  exact ⟨P, c, hv, h3, h1, h2, h4⟩
theorem RI.keep {w w' : World} {v : Value} {xs : List Int} (h : RI w v xs) (hk : Keeps w w') : RI w' v xs := by
  obtain ⟨P, c, hv, h1, h2⟩ := h
  exact ⟨P, c, hv, h1.keep hk, h2⟩
/-- Four slices that read as a cell's. -/
structure CR (w : World) (k s n m : Value) (x : Cel) : Prop where
  key : RI w k x.key
  sum : RI w s x.sum
  mn : RI w n x.mn
  mx : RI w m x.mx
structure CO (B : Nat) (w : World) (k s n m : Value) (x : Cel) : Prop where
  key : OI B w k x.key
  sum : OI B w s x.sum
  mn : OI B w n x.mn
  mx : OI B w m x.mx
section
variable {B B' : Nat} {w w' : World} {k s n m : Value} {x : Cel}
theorem CO.cr (h : CO B w k s n m x) : CR w k s n m x := ⟨h.key.ri, h.sum.ri, h.mn.ri, h.mx.ri⟩
theorem CR.keep (h : CR w k s n m x) (hk : Keeps w w') : CR w' k s n m x := ⟨h.key.keep hk, h.sum.keep hk, h.mn.keep hk, h.mx.keep hk⟩
theorem CO.below (h : CO B w k s n m x) (hb : Below w.heap.size w w') : CO B w' k s n m x := ⟨h.key.below hb, h.sum.below hb, h.mn.below hb, h.mx.below hb⟩
theorem CO.mono (h : CO B w k s n m x) (hb : B' ≤ B) : CO B' w k s n m x := ⟨h.key.mono hb, h.sum.mono hb, h.mn.mono hb, h.mx.mono hb⟩
end
/-- Two slices of the call's own do not share a block. -/
def Ap (v u : Value) : Prop := ∀ b, v.ownBlock = some b → u.ownBlock ≠ some b
theorem Ap.symm {v u : Value} (h : Ap v u) : Ap u v := fun b h1 h2 => h b h2 h1
/-- Six pairs. -/
structure Ap4 (k s n m : Value) : Prop where
  ks : Ap k s
  kn : Ap k n
  km : Ap k m
  sn : Ap s n
  sm : Ap s m
  nm : Ap n m
theorem OI.ap {B B' : Nat} {w w' : World} {v u : Value} {xs ys : List Int} (h : OI B w v xs) (h' : OI B' w' u ys) (hb : w.heap.size ≤ B') : Ap v u := fun b h1 h2 => by
  have a := (h.1.lt b h1).2
  have c := (h'.1.lt b h2).1
  omega
/-- A number is stored into a slice of the call's own. -/
theorem OI.put {B g n c i : Nat} {w : World} {xs : List Int} (h : OI B w (.slice (some ⟨g, 0, none⟩) n c) xs) (y : Int) (hy : inK .i64 y) : OI B (w.setCell ⟨g, i, none⟩ (.int .i64 y)) (.slice (some ⟨g, 0, none⟩) n c) (xs.set i y) := by
  obtain ⟨h1, h2⟩ := h
  have hn : n = xs.length := by
    obtain ⟨P, c', e, _⟩ := own_form h1
    injection e
  subst hn
  refine ⟨?_, fun x hx => ?_⟩
  · have e : ints (xs.set i y) = (ints xs).set i (.int .i64 y) := by simp [ints, List.map_set]
    rw [e, List.length_set]
    refine ⟨by rw [List.length_set]; exact h1.1, ?_⟩
    rcases h1.2 with ⟨e0, _⟩ | ⟨g', cap', cur, e0, hg, hh, a1, a2, a3, a4⟩
    · cases e0
    · injection e0 with e1 e2 e3
      injection e1 with e1
      injection e1 with e1
      subst e1 e3
      refine .inr ⟨g, c, cur.setIfInBounds i (.int .i64 y), rfl, hg, ?_, a1, a2, by simpa using a3, ?_⟩
      · simp [World.setCell, Array.getElem?_modify, hh]
      · rw [Array.toList_setIfInBounds, List.take_set, a4]
  · rcases List.mem_or_eq_of_mem_set hx with h0 | h0
    · exact h2 x h0
    · subst h0; exact hy
theorem OI.other {B g i : Nat} {w : World} {v : Value} {xs : List Int} (h : OI B w v xs) (u : Value) (hne : v.ownBlock ≠ some g) : OI B (w.setCell ⟨g, i, none⟩ u) v xs :=
  ⟨own_stay h.1 fun k hk => Below.heap_setCell _ _ _ _ fun e => hne (by rw [hk, e]), h.2⟩
/-- A cell in memory. -/
def CellAt (w : World) (a : Addr) (x : Cel) : Prop :=
  ∃ k s n m, w.cell? a = some k ∧ w.cell? ⟨a.block, a.off + 1, none⟩ = some (.int .i64 x.cnt) ∧ w.cell? ⟨a.block, a.off + 2, none⟩ = some s ∧ w.cell? ⟨a.block, a.off + 3, none⟩ = some n ∧ w.cell? ⟨a.block, a.off + 4, none⟩ = some m ∧ CR w k s n m x ∧ inK .i64 x.cnt
theorem CellAt.keep {w w' : World} {a : Addr} {x : Cel} (h : CellAt w a x) (hk : Keeps w w') : CellAt w' a x := by
  obtain ⟨k, s, n, m, h1, h2, h3, h4, h5, h6, h7⟩ := h
  exact ⟨k, s, n, m, hk _ _ h1, hk _ _ h2, hk _ _ h3, hk _ _ h4, hk _ _ h5, h6.keep hk, h7⟩
/-- A row of cells in memory. -/
def CellsR (w : World) (ad : Addr) (l : List Cel) : Prop := ∀ j x, l[j]? = some x → CellAt w (ad.add (j * 5)) x
theorem CellsR.keep {w w' : World} {ad : Addr} {l : List Cel} (h : CellsR w ad l) (hk : Keeps w w') : CellsR w' ad l := fun j x hj => (h j x hj).keep hk
theorem CellsR.drop {w : World} {ad : Addr} {l : List Cel} (h : CellsR w ad l) (i : Nat) : CellsR w (ad.add (i * 5)) (l.drop i) := fun j x hj => by
  rw [List.getElem?_drop] at hj
  rw [add_of_add, show i * 5 + j * 5 = (i + j) * 5 by omega]
  exact h _ _ hj
theorem CellsR.take {w : World} {ad : Addr} {l : List Cel} (h : CellsR w ad l) (i : Nat) : CellsR w ad (l.take i) := fun j x hj => by
  rw [List.getElem?_take] at hj
  split at hj
  · exact h _ _ hj
  · cases hj
theorem CellsR.first {w : World} {ad : Addr} {x : Cel} {l : List Cel} (h : CellsR w ad (x :: l)) : CellAt w ad x := by
  have := h 0 x rfl
  rwa [show ad.add (0 * 5) = ad from by simp [Addr.add]] at this
/-- Each has so many measures. -/
def EvenC (me : Nat) (x : Cel) : Prop := x.sum.length = me ∧ x.mn.length = me ∧ x.mx.length = me
/-- What two cells come to; what some do. -/
def addL (a b : List Int) : List Int := List.zipWith (fun x y => wrap64 (x + y)) a b
def minL (a b : List Int) : List Int := List.zipWith min a b
def maxL (a b : List Int) : List Int := List.zipWith max a b
def join2 (a b : Cel) : Cel := ⟨a.key, wrap64 (a.cnt + b.cnt), addL a.sum b.sum, minL a.mn b.mn, maxL a.mx b.mx⟩
def joinAll : List Cel → Cel
  | [] => ⟨[], 0, [], [], []⟩
  | x :: t => t.foldl join2 x
end Go.Proofs.Ytmolfcccfekcpaa
