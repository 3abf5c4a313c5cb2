/- Bytes appended to a row of the call's own; the reference's Eight: eight bytes of a number, the highest first. -/
import Derived.Test.YtaaciedelfaekaaDoorFactsLaw2
namespace Go.Proofs.YtaaciedelfaekaaDoor
open Go.RowKit
def bytesV (xs : List Int) : List Value := xs.map (Value.int .u8)
theorem bytesV_len (xs : List Int) : (bytesV xs).length = xs.length := by simp [bytesV]
/-- One byte is appended to a row of the call's own. -/
theorem append_byte (wr : World) (B : Nat) (v : Value) (xs : List Int) (x : Int) (g : Nat) (hg : g = wr.heap.size) (h : wr.ownsRow B 5 1 v xs.length (bytesV xs)) (hn : xs.length ≤ 1000000) (hB : B ≤ wr.heap.size) :
    ∃ v' w', (Builtin.append_ #[72, 72] 72 #[v, .slice (some ⟨g, 0, none⟩) 1 1]).run Tryd.prog (wr.alloc (.cells #[.int .u8 x] 5)) = .ok v' w' ∧ w'.ownsRow B 5 1 v' (xs ++ [x]).length (bytesV (xs ++ [x])) ∧ Below B wr w' := by
  obtain ⟨i0, hi, hz0, hz1, hz2⟩ := info_parts infoByte
  obtain ⟨v', w', hrun, ho, hgr, _, _⟩ := run_append_own_at (P := Tryd.prog) (wr.alloc (.cells #[.int .u8 x] 5)) B 72 72 5 i0 _ 1 1 Tryd.underlying72 hi hz0 hz1 hz2 rfl (by omega) v xs.length (bytesV xs) (h.alloc _)
    ⟨g, 0, none⟩ 1 1 [.int .u8 x] rfl (fun j u hu => by
      rw [add0, hg, show (wr.alloc (.cells #[.int .u8 x] 5)).cell? ⟨wr.heap.size, j, none⟩ = #[.int .u8 x][j]? from cell_of_row _ _ _ _ 5 (0, 0) (heap_alloc_new wr _)]
      simpa using hu)
    (by intro u hu; simp at hu; subst hu; rfl) (by simp [maxLen]; omega) (by omega) (by simp; omega)
  have hb := (Below.refl wr.heap.size wr).alloc (Nat.le_refl _) (.cells #[.int .u8 x] 5)
  exact ⟨v', w', hrun, by rw [List.length_append]; simpa [bytesV] using ho, (hb.mono hB).trans (below_grown hgr (h.alloc _) (by simp; omega))⟩
/-- The bytes of one row are appended to another. -/
theorem append_bytes (wr : World) (B Bs : Nat) (v u : Value) (xs ys : List Int) (h : wr.ownsRow B 5 1 v xs.length (bytesV xs)) (hu : wr.ownsRow Bs 5 1 u ys.length (bytesV ys)) (h0 : 0 < ys.length) (hn : xs.length + ys.length ≤ 1000000) (hB : B ≤ wr.heap.size) :
    ∃ v' w', (Builtin.append_ #[72, 72] 72 #[v, u]).run Tryd.prog wr = .ok v' w' ∧ w'.ownsRow B 5 1 v' (xs ++ ys).length (bytesV (xs ++ ys)) ∧ Below B wr w' := by
  obtain ⟨i0, hi, hz0, hz1, hz2⟩ := info_parts infoByte
  obtain ⟨A, c, rfl, _, _, hg⟩ := own_form hu
  obtain ⟨g, rfl, _, hcell⟩ := hg h0
  obtain ⟨v', w', hrun, ho, hgr, _, _⟩ := run_append_own_at (P := Tryd.prog) wr B 72 72 5 i0 _ 1 1 Tryd.underlying72 hi hz0 hz1 hz2 rfl (by omega) v xs.length (bytesV xs) h
    ⟨g, 0, none⟩ ys.length c (bytesV ys) (by rw [bytesV_len]; omega) (fun j u hu => by rw [add0]; exact hcell j u hu)
    (by intro u hu; simp only [bytesV, List.mem_map] at hu; obtain ⟨y, _, rfl⟩ := hu; rfl) (by simp [maxLen]; omega) (by omega) hB
  exact ⟨v', w', hrun, by rw [List.length_append]; simpa [bytesV] using ho, below_grown hgr h hB⟩
end Go.Proofs.YtaaciedelfaekaaDoor
