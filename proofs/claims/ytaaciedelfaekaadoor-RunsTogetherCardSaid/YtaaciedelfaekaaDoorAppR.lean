/- A row that grows by rows that read in an elder world. -/
import Derived.Test.YtaaciedelfaekaaDoorKnow5
import Derived.Test.YtaaciedelfaekaaDoorMath5
namespace Go.Proofs.YtaaciedelfaekaaDoor
open Go.RowKit Go.Shelf
def RowRd (B : Nat) (w0 X : World) (v : Value) (us : List V5) (J : List Cel) : Prop := X.ownsRow B 41 5 v us.length (flatV us) ∧ ReadsL w0 us J
theorem RowRd.nil (B : Nat) (w0 X : World) : RowRd B w0 X (.slice none 0 0) [] [] := ⟨World.ownsRow_nil _ _ _ _, rfl, fun i u x h => by simp at h⟩
theorem readsL_app {w : World} {us us2 : List V5} {J J2 : List Cel} (h : ReadsL w us J) (h2 : ReadsL w us2 J2) : ReadsL w (us ++ us2) (J ++ J2) := ⟨by rw [List.length_append, List.length_append, h.1, h2.1], fun i u x hu hx => by
  rcases Nat.lt_or_ge i us.length with hi | hi
  · rw [List.getElem?_append_left hi] at hu
    rw [List.getElem?_append_left (by rw [← h.1]; exact hi)] at hx
    exact h.2 i u x hu hx
  · rw [List.getElem?_append_right hi] at hu
    rw [List.getElem?_append_right (by rw [← h.1]; exact hi), ← h.1] at hx
    exact h2.2 _ u x hu hx⟩
theorem app_read {B : Nat} {w0 X : World} {v : Value} {us : List V5} {J J2 : List Cel} {Pi : Option Addr} {j c : Nat} (h : RowRd B w0 X v us J) (hr : RowC w0 Pi j J2) (hj : j = J2.length) (hj1 : 1 ≤ j) (hb : Below w0.heap.size w0 X) (hl : us.length + j ≤ 1000000) (hB : B ≤ X.heap.size) :
    ∃ v' us2 Y, (Builtin.append_ #[29, 29] 29 #[v, .slice Pi j c]).run Tryd.prog X = .ok v' Y ∧ RowRd B w0 Y v' (us ++ us2) (J ++ J2) ∧ us2.length = j ∧ Below B X Y := by
  obtain ⟨ad, rfl, hc⟩ := hr hj1
  obtain ⟨us2, hv, hf⟩ := hc.vals
  have hk := Keeps.of_below hb
  have hlen : j = us2.length := by rw [hj, hv.1]
  obtain ⟨i0, hi, hz0, hz1, hz2⟩ := info_parts infoC
  subst hlen
  obtain ⟨v', Y, hrun, ho, hg, -, -⟩ := run_append_own_at (P := Tryd.prog) X B 29 29 41 i0 _ 5 104 Tryd.underlying29 hi hz0 hz1 hz2 rfl (by omega) v us.length (flatV us) h.1 ad us2.length c (flatV us2) (flatV_len us2) (fun j u hu => hk _ _ (hf j u hu)) hv.one (by simp only [maxLen]; omega) (by omega) hB
  refine ⟨v', us2, Y, hrun, ⟨?_, readsL_app h.2 hv⟩, rfl, (Below.refl B X).grown hg hB fun k hk => (h.1.lt k hk).1⟩
  rw [List.length_append, flatV_append]
  exact ho
theorem RowRd.row {B : Nat} {w0 X : World} {v : Value} {us : List V5} {J : List Cel} (h : RowRd B w0 X v us J) (hb : Below w0.heap.size w0 X) : ∃ P c, v = .slice P J.length c ∧ RowC X P J.length J := by
  obtain ⟨P, c, hv, -, -, h3⟩ := own_form h.1
  have hl := h.2.1
  rw [hl] at hv h3
  refine ⟨P, c, hv, fun hn => ?_⟩
  obtain ⟨g, rfl, -, q⟩ := h3 hn
  exact ⟨_, rfl, cells_of_vals (h.2.keep (Keeps.of_below hb)) (fun j u hu => by rw [add0]; exact q j u hu)⟩
end Go.Proofs.YtaaciedelfaekaaDoor
