/- Both Decodes of whatever bytes: one and the same is told. -/
import Derived.Test.YtnabmbnfmnpcoaaRefDec
import Derived.Test.YtnabmbnfmnpcoaaBag
namespace Go.Proofs.Ytnabmbnfmnpcoaa
open Go.RowKit
/-- What bytes say: cards, measures, rows, the code. -/
def decV (xs : List Int) : List Int × Int × List Fact × Int := if decOk xs = true then (hCards xs, hMeas xs, dRows xs, 0) else ([], 0, [], 1)
def DecU (xs : List Int) (w : World) (e : Ending) (w' : World) : Prop :=
  Below w.heap.size w w' ∧ ∃ A n c B m d, e = .returned (.tuple #[.agg #[.slice A n c, .int .i64 (decV xs).2.1], .slice B m d, .int .i64 (decV xs).2.2.2]) ∧ Nums .i64 w' A n (decV xs).1 ∧ Facts w' B m (decV xs).2.2.1 ∧ n ≤ 4 ∧ m ≤ 300
theorem dRow_lens (xs : List Int) (i : Nat) : (dRow xs i).key.length = hDims xs ∧ (dRow xs i).m.length = (hMeas xs).toNat := by
  unfold dRow
  exact ⟨chunks_len _ _ _ _, chunks_len _ _ _ _⟩
theorem dRow_in {xs : List Int} (hx : Bytes xs) (i : Nat) : (∀ x ∈ (dRow xs i).key, inK .i64 x) ∧ ∀ x ∈ (dRow xs i).m, inK .i64 x := by
  unfold dRow
  refine ⟨bytes_i64 (chunks_bytes ((hx.drop _).drop _) _), chunks_i64 8 _ _⟩
theorem dRows_all {xs : List Int} {p : Fact → Prop} (h : ∀ i, p (dRow xs i)) : ∀ r ∈ dRows xs, p r := by
  intro r hr
  simp only [dRows, List.mem_map] at hr
  obtain ⟨i, _, rfl⟩ := hr
  exact h i
theorem decOk_bd {xs : List Int} (h : decOk xs = true) : hDims xs ≤ 4 ∧ 0 ≤ hMeas xs ∧ hMeas xs ≤ 2 ∧ hRows xs ≤ 300 := by
  simp only [decOk, headOk, Bool.and_eq_true, decide_eq_true_eq] at h
  obtain ⟨⟨_, h1, h2, h3⟩, _⟩ := h
  obtain ⟨_, _, h4, h5, _⟩ := checkB_spec h2
  exact ⟨h1, h4, h5, h3⟩
theorem decV_rows (xs : List Int) : ∀ r ∈ (decV xs).2.2.1, r.key.length ≤ 4 ∧ r.m.length ≤ 2 := by
  unfold decV
  split
  · rename_i h
    obtain ⟨h1, h2, h3, h4⟩ := decOk_bd h
    exact dRows_all fun i => by have := dRow_lens xs i; omega
  · intro r hr; cases hr
theorem DecPost.both {xs : List Int} {w w' : World} {e : Ending} (hx : Bytes xs) (h : DecPost xs w e w') : DecU xs w e w' := by
  obtain ⟨hb, (⟨hno, rfl⟩ | ⟨hok, g, h, ps, rfl, _, harr, hown, hro⟩)⟩ := h
  · have e1 : decV xs = ([], 0, [], 1) := by rw [decV, if_neg (by simp [hno])]
    refine ⟨hb, none, 0, 0, none, 0, 0, ?_, ?_, ?_, by omega, by omega⟩
    · rw [e1]
    · rw [e1]; exact Nums.nil _ _ _
    · rw [e1]; exact Facts.nil _ _
  · have e1 : decV xs = (hCards xs, hMeas xs, dRows xs, 0) := by rw [decV, if_pos hok]
    obtain ⟨k1, k2, k3, k4⟩ := decOk_bd hok
    have hf := RowsOwn.facts hown hro (dRows_all fun i => ⟨dRow_lens xs i, dRow_in hx i⟩)
    have hn := harr.nums (bytes_i64 (hCards_bytes hx))
    rw [hCards_len] at hn
    rw [dRows_len] at hf
    refine ⟨hb, some ⟨g, 0, none⟩, hDims xs, hDims xs, some ⟨h, 0, none⟩, (hRows xs).toNat, (hRows xs).toNat, ?_, by rw [e1]; exact hn, by rw [e1]; exact hf, k1, by omega⟩
    rw [e1]
    rfl
theorem RDecPost.both {xs : List Int} {w w' : World} {e : Ending} (hx : Bytes xs) (h : RDecPost xs w e w') : DecU xs w e w' := by
  obtain ⟨hb, (⟨hno, rfl⟩ | ⟨hok, A, cc, rv, B, rfl, hn, hr⟩)⟩ := h
  · have e1 : decV xs = ([], 0, [], 1) := by rw [decV, if_neg (by simp [hno])]
    refine ⟨hb, none, 0, 0, none, 0, 0, ?_, ?_, ?_, by omega, by omega⟩
    · rw [e1]; rfl
    · rw [e1]; exact Nums.nil _ _ _
    · rw [e1]; exact Facts.nil _ _
  · have e1 : decV xs = (hCards xs, hMeas xs, dRows xs, 0) := by rw [decV, if_pos hok]
    obtain ⟨k1, k2, k3, k4⟩ := decOk_bd hok
    obtain ⟨D, d, hrv, -, -, hf⟩ := hr.facts (dRows_all fun i => dRow_in hx i)
    subst hrv
    refine ⟨hb, A, hDims xs, cc, D, _, d, ?_, by rw [e1]; exact hn, by rw [e1]; exact hf, k1, by rw [dRows_len]; omega⟩
    rw [e1]
theorem decV_in {xs : List Int} : inK .i64 (decV xs).2.1 := by
  unfold decV
  split
  · rename_i h
    obtain ⟨h1, h2, h3, h4⟩ := decOk_bd h
    exact ⟨by show _ ≤ hMeas xs; omega, by show hMeas xs ≤ _; omega⟩
  · exact ⟨by decide, by decide⟩
theorem six_at {w : World} (T : TypeId) {v0 v1 v2 v3 v4 v5 : Value} (h0 : BytesAt w v0) (h1 : BytesAt w v1) (h2 : BytesAt w v2) (h3 : BytesAt w v3) (h4 : BytesAt w v4) (h5 : BytesAt w v5) :
    ∀ i, i < 6 → ∃ v, (w.alloc (.cells #[v0, v1, v2, v3, v4, v5] T)).cell? ⟨w.heap.size, i, none⟩ = some v ∧ BytesAt (w.alloc (.cells #[v0, v1, v2, v3, v4, v5] T)) v := by
  intro i hi
  have hk := (Keeps.refl w).alloc (.cells #[v0, v1, v2, v3, v4, v5] T)
  have hc : (w.alloc (.cells #[v0, v1, v2, v3, v4, v5] T)).cell? ⟨w.heap.size, i, none⟩ = #[v0, v1, v2, v3, v4, v5][i]? := cell_of_row _ _ _ _ T (0, 0) (heap_alloc_new w _)
  rw [hc]
  match i, hi with
  | 0, _ => exact ⟨v0, rfl, h0.keep hk⟩
  | 1, _ => exact ⟨v1, rfl, h1.keep hk⟩
  | 2, _ => exact ⟨v2, rfl, h2.keep hk⟩
  | 3, _ => exact ⟨v3, rfl, h3.keep hk⟩
  | 4, _ => exact ⟨v4, rfl, h4.keep hk⟩
  | 5, _ => exact ⟨v5, rfl, h5.keep hk⟩
end Go.Proofs.Ytnabmbnfmnpcoaa
