/- More words for memory: rows and boxes that stay where other blocks are written. -/
import Derived.Test.YtnjalnnbdmmcmaaPure
namespace Go.Proofs.Ytnjalnnbdmmcmaa
open Go.RowKit
theorem Arr.only {kd : IntKind} {T : TypeId} {w w' : World} {g k : Nat} {xs : List Int} (h : Arr kd T w g xs) (hb : Only k w w') (hg : g ≠ k) : Arr kd T w' g xs := (hb.block g h.lt hg).trans h
theorem only_setCell (g : Nat) (w : World) (i : Nat) (v : Value) : Only g w (w.setCell ⟨g, i, none⟩ v) := (Only.refl g w).setCell i v
theorem only_drewN {g : Nat} {a w : World} (h : Only g a w) (n : Nat) : Only g a (w.drewN n) := ⟨h.os, h.tape, h.output, h.size, h.block⟩
theorem Arr.byteTail {T : TypeId} {w : World} {g : Nat} {xs : List Int} (h : Arr .u8 T w g xs) (hk : ∀ x ∈ xs, 0 ≤ x ∧ x ≤ 255) (k : Nat) (hl : k ≤ xs.length) : Nums .u8 w (some ⟨g, k, none⟩) (xs.length - k) (xs.drop k) := by
  have := (h.nums hk).drop hl
  rcases Nat.eq_zero_or_pos k with rfl | hk0
  · exact this
  · rw [show (Addr.add ⟨g, 0, none⟩ k) = ⟨g, k, none⟩ from by unfold Addr.add; rw [if_neg (by omega)]; simp] at this
    exact this
/-! ### Bounds of what stands ahead of the rows -/
def Bytes (l : List Int) : Prop := ∀ x ∈ l, 0 ≤ x ∧ x ≤ 255
theorem Bytes.drop {l : List Int} (h : Bytes l) (k : Nat) : Bytes (l.drop k) := fun x hx => h x (List.mem_of_mem_drop hx)
theorem Bytes.one {l : List Int} (h : Bytes l) : 0 ≤ beVal (l.take 1) ∧ beVal (l.take 1) ≤ 255 := by
  match l, h with
  | [], _ => simp [beVal]
  | x :: t, h => have := h x (by simp); simp only [List.take_succ_cons, List.take_zero, beVal1]; exact this
theorem Bytes.two {l : List Int} (h : Bytes l) : 0 ≤ beVal (l.take 2) ∧ beVal (l.take 2) ≤ 65535 := by
  match l, h with
  | [], _ => simp [beVal]
  | [x], h => have := h x (by simp); simp only [List.take_succ_cons, List.take_nil, beVal1]; omega
  | x :: y :: t, h => have h1 := h x (by simp); have h2 := h y (by simp); simp only [List.take_succ_cons, List.take_zero, beVal2]; omega
theorem chunks_bytes {l : List Int} (h : Bytes l) (k : Nat) : Bytes (chunks id 1 k l) := by
  intro x hx
  simp only [chunks, List.mem_map] at hx
  obtain ⟨i, _, rfl⟩ := hx
  exact (h.drop (1 * i)).one
theorem hMeas_bd {xs : List Int} (h : Bytes xs) : 0 ≤ hMeas xs ∧ hMeas xs ≤ 255 := by
  have hp : Bytes (pad xs) := pad_ok h
  exact (((hp.drop 4).drop 1).drop _).one
theorem hRows_bd {xs : List Int} (h : Bytes xs) : 0 ≤ hRows xs ∧ hRows xs ≤ 65535 := by
  have hp : Bytes (pad xs) := pad_ok h
  exact ((((hp.drop 4).drop 1).drop _).drop 1).two
theorem hCards_bytes {xs : List Int} (h : Bytes xs) : Bytes (hCards xs) := by
  have hp : Bytes (pad xs) := pad_ok h
  exact chunks_bytes ((hp.drop 4).drop 1) _
theorem hCards_len (xs : List Int) : (hCards xs).length = hDims xs := chunks_len _ _ _ _

/-! ### A row of cells of the call's own, of whatever values -/
def Own (T : TypeId) (w : World) (g : Nat) (vs : List Value) : Prop := w.heap[g]? = some (.cells vs.toArray T (0, 0))
section
variable {T : TypeId} {w w' : World} {g : Nat} {vs : List Value}
theorem Own.lt (h : Own T w g vs) : g < w.heap.size := by
  rcases Nat.lt_or_ge g w.heap.size with hlt | hge
  · exact hlt
  · unfold Own at h; rw [Array.getElem?_eq_none hge] at h; cases h
theorem Own.cell (h : Own T w g vs) {i : Nat} {v : Value} (hx : vs[i]? = some v) : w.cell? ⟨g, i, none⟩ = some v := by
  rw [cell_of_row w g i _ _ (0, 0) h]
  simp [hx]
theorem Own.frozen (h : Own T w g vs) (i : Nat) : w.frozen? ⟨g, i, none⟩ = false := by
  unfold Own at h
  simp [World.frozen?, h]
theorem Own.set_ (h : Own T w g vs) (i : Nat) (v : Value) : Own T (w.setCell ⟨g, i, none⟩ v) g (vs.set i v) := by
  unfold Own at h ⊢
  simp [World.setCell, Array.getElem?_modify, h]
theorem Own.drewN (h : Own T w g vs) (n : Nat) : Own T (w.drewN n) g vs := h
theorem Own.alloc (h : Own T w g vs) (o : Obj) : Own T (w.alloc o) g vs := (Below.heap_alloc _ _ _ h.lt).trans h
theorem Own.below {B : Nat} (h : Own T w g vs) (hb : Below B w w') (hg : g < B) : Own T w' g vs := (hb.block g hg).trans h
theorem Own.only {k : Nat} (h : Own T w g vs) (hb : Only k w w') (hg : g ≠ k) : Own T w' g vs := (hb.block g h.lt hg).trans h
end
theorem madeCells_same (z : Value) (n : Nat) : (madeCells #[z, z] n).toList = List.replicate n z := by
  unfold madeCells
  simp only [Array.toList_map, Array.toList_range]
  apply List.ext_getElem (by simp)
  intro i h1 h2
  simp only [List.getElem_map, List.getElem_range, List.getElem_replicate]
  have h : i % 2 = 0 ∨ i % 2 = 1 := by omega
  rcases h with h | h <;> simp [h]
/-- A row of n zero rows, made anew. -/
theorem make_rows {P : Program} (t e : TypeId) (i : TypeInfo) (ht : P.underlying t = some (.slice e)) (hi : P.info? e = some i) (hz : i.zero = some (.agg #[.slice none 0 0, .slice none 0 0])) (hs : i.size = 2) (hb : i.bytes = 48) (n : Nat) (hn : n ≤ 1000000) (w : World) :
    (Instr.makeSlice t (.int .i64 (n : Int)) (.int .i64 (n : Int))).run P w = .ok (.slice (some ⟨w.heap.size, 0, none⟩) n n) (w.alloc (.cells (madeCells #[.slice none 0 0, .slice none 0 0] (n * 2)) e)) := by
  have hr := run_make (P := P) w t e i _ ht hi hz .i64 .i64 n n (by omega) (by omega) (by rw [hb]; omega) (by omega)
  simpa [hs, Value.cells] using hr
theorem Own.made_rows (w : World) (T : TypeId) (n : Nat) : Own T (w.alloc (.cells (madeCells #[.slice none 0 0, .slice none 0 0] (n * 2)) T)) w.heap.size (List.replicate (n * 2) (.slice none 0 0)) := by
  unfold Own
  rw [heap_alloc_new]
  congr 2
  apply Array.ext'
  rw [madeCells_same]

/-- Rows that lie in memory of their own: of each the blocks of its values and of its measures. -/
def RowsOwn (w : World) (B : Nat) (ps : List (Nat × Nat)) (l : List Fact) : Prop :=
  ps.length = l.length ∧ ∀ (i : Nat) (p : Nat × Nat) (r : Fact), ps[i]? = some p → l[i]? = some r → (B ≤ p.1 ∧ B ≤ p.2) ∧ Arr .i64 3 w p.1 r.key ∧ Arr .i64 3 w p.2 r.m
theorem RowsOwn.nil (w : World) (B : Nat) : RowsOwn w B [] [] := ⟨rfl, fun i p r h => by simp at h⟩
theorem RowsOwn.below {w w' : World} {B : Nat} {ps : List (Nat × Nat)} {l : List Fact} (h : RowsOwn w B ps l) (hb : Below w.heap.size w w') : RowsOwn w' B ps l :=
  ⟨h.1, fun i p r hp hr => by obtain ⟨h1, h2, h3⟩ := h.2 i p r hp hr; exact ⟨h1, h2.below hb h2.lt, h3.below hb h3.lt⟩⟩
theorem RowsOwn.only {w w' : World} {B k : Nat} {ps : List (Nat × Nat)} {l : List Fact} (h : RowsOwn w B ps l) (hb : Only k w w') (hk : k < B) : RowsOwn w' B ps l :=
  ⟨h.1, fun i p r hp hr => by obtain ⟨h1, h2, h3⟩ := h.2 i p r hp hr; exact ⟨h1, h2.only hb (by omega), h3.only hb (by omega)⟩⟩
theorem RowsOwn.snoc {w : World} {B g1 g2 : Nat} {ps : List (Nat × Nat)} {l : List Fact} {r : Fact} (h : RowsOwn w B ps l) (h1 : B ≤ g1) (h2 : B ≤ g2) (a1 : Arr .i64 3 w g1 r.key) (a2 : Arr .i64 3 w g2 r.m) : RowsOwn w B (ps ++ [(g1, g2)]) (l ++ [r]) := by
  refine ⟨by simp [h.1], fun i p r' hp hr => ?_⟩
  rcases Nat.lt_or_ge i ps.length with hi | hi
  · rw [List.getElem?_append_left hi] at hp
    rw [List.getElem?_append_left (by rw [← h.1]; exact hi)] at hr
    exact h.2 i p r' hp hr
  · rw [List.getElem?_append_right hi] at hp
    rw [List.getElem?_append_right (by rw [← h.1]; exact hi)] at hr
    have e : i - ps.length = 0 := by
      rcases Nat.eq_zero_or_pos (i - ps.length) with h0 | h0
      · exact h0
      · rw [List.getElem?_eq_none (by simp; omega)] at hp; cases hp
    rw [e] at hp
    rw [← h.1, e] at hr
    simp at hp hr
    subst hp hr
    exact ⟨⟨h1, h2⟩, a1, a2⟩
def sl (g n : Nat) : Value := .slice (some ⟨g, 0, none⟩) n n
def rowCells (d me : Nat) (ps : List (Nat × Nat)) : List Value := ps.flatMap fun p => [sl p.1 d, sl p.2 me]
theorem rowCells_len (d me : Nat) (ps : List (Nat × Nat)) : (rowCells d me ps).length = ps.length * 2 := by
  induction ps with
  | nil => rfl
  | cons p t ih => unfold rowCells at ih ⊢; rw [List.flatMap_cons, List.length_append, ih, List.length_cons]; simp only [List.length_cons, List.length_nil]; omega
theorem rowCells_snoc (d me : Nat) (ps : List (Nat × Nat)) (p : Nat × Nat) : rowCells d me (ps ++ [p]) = rowCells d me ps ++ [sl p.1 d, sl p.2 me] := by simp [rowCells]
theorem rowCells_at {d me : Nat} : ∀ {ps : List (Nat × Nat)} {i : Nat} {p : Nat × Nat}, ps[i]? = some p → (rowCells d me ps)[i * 2]? = some (sl p.1 d) ∧ (rowCells d me ps)[i * 2 + 1]? = some (sl p.2 me)
  | p :: t, 0, q, h => by
    simp at h
    subst h
    simp [rowCells]
  | p :: t, i + 1, q, h => by
    have := rowCells_at (d := d) (me := me) (ps := t) (i := i) (p := q) (by simpa using h)
    have e : rowCells d me (p :: t) = sl p.1 d :: sl p.2 me :: rowCells d me t := by simp [rowCells]
    rw [e, show (i + 1) * 2 = i * 2 + 1 + 1 from by omega]
    simpa using this
theorem rowCells_set {d me k r g1 g2 : Nat} {ps : List (Nat × Nat)} (hk : ps.length = k) (hr : k < r) :
    ((rowCells d me ps ++ List.replicate ((r - k) * 2) (Value.slice none 0 0)).set (k * 2) (sl g1 d)).set (k * 2 + 1) (sl g2 me) = rowCells d me (ps ++ [(g1, g2)]) ++ List.replicate ((r - (k + 1)) * 2) (Value.slice none 0 0) := by
  have hl : (rowCells d me ps).length = k * 2 := by rw [rowCells_len, hk]
  rw [List.set_append_right _ _ (by omega), List.set_append_right _ _ (by omega), hl, Nat.sub_self, show k * 2 + 1 - k * 2 = 1 from by omega,
    show (r - k) * 2 = (r - (k + 1)) * 2 + 1 + 1 from by omega, List.replicate_succ, List.replicate_succ, rowCells_snoc]
  simp

theorem RowsOwn.mono {w : World} {B B' : Nat} {ps : List (Nat × Nat)} {l : List Fact} (h : RowsOwn w B ps l) (hb : B' ≤ B) : RowsOwn w B' ps l :=
  ⟨h.1, fun i p r hp hr => by obtain ⟨⟨h1, h2⟩, h3⟩ := h.2 i p r hp hr; exact ⟨⟨by omega, by omega⟩, h3⟩⟩

theorem slice_eq {A A' : Option Addr} {n n' c c' : Nat} (h1 : A = A') (h2 : n = n') (h3 : c = c') : Value.slice A n c = Value.slice A' n' c' := by rw [h1, h2, h3]

theorem chunks_i64 (k cnt : Nat) (xs : List Int) : ∀ x ∈ chunks wrap64 k cnt xs, inK .i64 x := by
  intro x hx
  simp only [chunks, List.mem_map] at hx
  obtain ⟨i, _, rfl⟩ := hx
  unfold wrap64 inK
  omega
theorem bytes_i64 {l : List Int} (h : Bytes l) : ∀ x ∈ l, inK .i64 x := fun x hx => by
  have := h x hx
  simp only [inK]
  omega

end Go.Proofs.Ytnjalnnbdmmcmaa
