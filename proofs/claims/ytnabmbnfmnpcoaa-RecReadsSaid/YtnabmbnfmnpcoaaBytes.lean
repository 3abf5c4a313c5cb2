/- Bytes appended to a row of the call's own; the reference's Eight: eight bytes of a number, the highest first. -/
import Derived.Test.YtnabmbnfmnpcoaaLaw
namespace Go.Proofs.Ytnabmbnfmnpcoaa
open Go.RowKit
def bytesV (xs : List Int) : List Value := xs.map (Value.int .u8)
theorem bytesV_len (xs : List Int) : (bytesV xs).length = xs.length := by simp [bytesV]
theorem infoByte : (Try.prog.info? 5).map (fun i => (i.zero, i.size, i.bytes)) = some (some (.int .u8 0), 1, 1) := by kernel_rfl
/-- One byte is appended to a row of the call's own. -/
theorem append_byte (wr : World) (B : Nat) (v : Value) (xs : List Int) (x : Int) (g : Nat) (hg : g = wr.heap.size) (h : wr.ownsRow B 5 1 v xs.length (bytesV xs)) (hn : xs.length ≤ 1000000) (hB : B ≤ wr.heap.size) :
    ∃ v' w', (Builtin.append_ #[36, 36] 36 #[v, .slice (some ⟨g, 0, none⟩) 1 1]).run Try.prog (wr.alloc (.cells #[.int .u8 x] 5)) = .ok v' w' ∧ w'.ownsRow B 5 1 v' (xs ++ [x]).length (bytesV (xs ++ [x])) ∧ Below B wr w' := by
  obtain ⟨i0, hi, hz0, hz1, hz2⟩ := info_parts infoByte
  obtain ⟨v', w', hrun, ho, hgr, _, _⟩ := run_append_own_at (P := Try.prog) (wr.alloc (.cells #[.int .u8 x] 5)) B 36 36 5 i0 _ 1 1 Try.underlying36 hi hz0 hz1 hz2 rfl (by omega) v xs.length (bytesV xs) (h.alloc _)
    ⟨g, 0, none⟩ 1 1 [.int .u8 x] rfl (fun j u hu => by
      rw [add0, hg, show (wr.alloc (.cells #[.int .u8 x] 5)).cell? ⟨wr.heap.size, j, none⟩ = #[.int .u8 x][j]? from cell_of_row _ _ _ _ 5 (0, 0) (heap_alloc_new wr _)]
      simpa using hu)
    (by intro u hu; simp at hu; subst hu; rfl) (by simp [maxLen]; omega) (by omega) (by simp; omega)
  have hb := (Below.refl wr.heap.size wr).alloc (Nat.le_refl _) (.cells #[.int .u8 x] 5)
  exact ⟨v', w', hrun, by rw [List.length_append]; simpa [bytesV] using ho, (hb.mono hB).trans (below_grown hgr (h.alloc _) (by simp; omega))⟩
set_option maxHeartbeats 1000000 in
theorem Eight_any (x : Int) (w : World) (hx : inK .i64 x) :
    Calls Try.prog 25 #[.int .i64 x] w fun e w' => ∃ v, e = .returned v ∧ w'.ownsRow w.heap.size 5 1 v 8 (bytesV (be 8 x)) ∧ Below w.heap.size w w' := by
  obtain ⟨hx1, hx2⟩ := hx
  go_enter Try.func25, Try.ntmps25
  go_wp2
  go_loopw [3, 4] (fun v i wr => ∃ k : Nat, k ≤ 8 ∧ i = .int .i64 k ∧ wr.ownsRow w.heap.size 5 1 v ((be 8 x).take k).length (bytesV ((be 8 x).take k)) ∧ Below w.heap.size w wr) (fun _ i _ => 8 - (intOf i).toNat)
  case atStart => exact ⟨0, by omega, rfl, by simpa [bytesV] using World.ownsRow_nil _ _ _ _, Below.refl _ _⟩
  case round =>
    obtain ⟨k, hk, rfl, ho, hb⟩ := hrel
    have hz : w.heap.size ≤ wr.heap.size := hb.size
    have Hb := Lib.hid hb
    clear hb
    by_cases hlt : k < 8
    · have hl : ((be 8 x).take k).length = k := by simp [be_len]; omega
      obtain ⟨v', w', hrun, ho', hb'⟩ := append_byte wr w.heap.size _ _ (x / 2 ^ (8 * (8 - 1 - k)) % 256) wr.heap.size rfl ho (by rw [hl]; omega) hz
      rw [← be_take x hlt] at ho'
      have Ho' := Lib.hid ho'
      have Hb' := Lib.hid (Hb.out.trans hb')
      rw [show 8 * (8 - 1 - k) = 56 - 8 * k by omega] at hrun
      have Hrun := Lib.hid hrun
      clear ho hl hrun ho' hb'
      go_wp2_with (at_builtin; have _t := Hrun; refine wpList_append_eq rfl (.tmp 9) (.tmp 17) 36 rfl _ _ _ _ rfl rfl Hrun.out ?_; clear _t Hrun)
      exact ⟨⟨k + 1, by omega, by go_num, Ho'.out, Hb'.out⟩, by simp [intOf]; omega⟩
    · obtain rfl : k = 8 := by omega
      rw [List.take_of_length_le (by rw [be_len]; omega), be_len] at ho
      go_wp2
      go_ret
      exact ⟨_, rfl, ho, Hb.out⟩
/-- The bytes of one row are appended to another. -/
theorem append_bytes (wr : World) (B Bs : Nat) (v u : Value) (xs ys : List Int) (h : wr.ownsRow B 5 1 v xs.length (bytesV xs)) (hu : wr.ownsRow Bs 5 1 u ys.length (bytesV ys)) (h0 : 0 < ys.length) (hn : xs.length + ys.length ≤ 1000000) (hB : B ≤ wr.heap.size) :
    ∃ v' w', (Builtin.append_ #[36, 36] 36 #[v, u]).run Try.prog wr = .ok v' w' ∧ w'.ownsRow B 5 1 v' (xs ++ ys).length (bytesV (xs ++ ys)) ∧ Below B wr w' := by
  obtain ⟨i0, hi, hz0, hz1, hz2⟩ := info_parts infoByte
  obtain ⟨A, c, rfl, _, _, hg⟩ := own_form hu
  obtain ⟨g, rfl, _, hcell⟩ := hg h0
  obtain ⟨v', w', hrun, ho, hgr, _, _⟩ := run_append_own_at (P := Try.prog) wr B 36 36 5 i0 _ 1 1 Try.underlying36 hi hz0 hz1 hz2 rfl (by omega) v xs.length (bytesV xs) h
    ⟨g, 0, none⟩ ys.length c (bytesV ys) (by rw [bytesV_len]; omega) (fun j u hu => by rw [add0]; exact hcell j u hu)
    (by intro u hu; simp only [bytesV, List.mem_map] at hu; obtain ⟨y, _, rfl⟩ := hu; rfl) (by simp [maxLen]; omega) (by omega) hB
  exact ⟨v', w', hrun, by rw [List.length_append]; simpa [bytesV] using ho, below_grown hgr h hB⟩
set_option maxHeartbeats 1000000 in
theorem Two_any (x : Int) (w : World) (hx : inK .i64 x) :
    Calls Try.prog 24 #[.int .i64 x] w fun e w' => ∃ v, e = .returned v ∧ w'.ownsRow w.heap.size 5 1 v 2 (bytesV (be 2 x)) ∧ Below w.heap.size w w' := by
  obtain ⟨hx1, hx2⟩ := hx
  go_enter Try.func24, Try.ntmps24
  go_wp2
  go_ret
  refine ⟨_, rfl, ?_, (Below.refl _ _).alloc (Nat.le_refl _) _⟩
  rw [show be 2 x = [x / 2 ^ 8 % 256, x % 256] by simp [be, List.range_succ]]
  exact own_lit w w.heap.size 5 (bytesV [x / 2 ^ 8 % 256, x % 256]) w.heap.size 2 1 rfl (Nat.le_refl _) (by simp [maxLen]) rfl
end Go.Proofs.Ytnabmbnfmnpcoaa
