/- Package store's small functions. -/
import Derived.Test.YtgkgkekgmcldmaaSt1
namespace Go.Proofs.Ytgkgkekgmcldmaa
open Go.RowKit

theorem append_first (w : World) (ad : Addr) (n c : Nat) (xs : List Int) (hx : Nums .u8 w (some ad) n xs) (h0 : 0 < n) (hn : n ≤ 1000000) :
    ∃ v' w', (Builtin.append_ #[67, 67] 67 #[.slice (some ad) 0 0, .slice (some ad) n c]).run Try.prog w.drew = .ok v' w' ∧ w'.ownsRow w.heap.size 5 1 v' n (byts xs) ∧ Below w.heap.size w w' := by
  obtain ⟨i0, hi, hz0, hz1, hz2⟩ := info_parts infoByte
  have hl := hx.1
  have hr := run_append_grow (P := Try.prog) w.drew 67 67 5 i0 _ Try.underlying67 hi hz0 ad 0 0 [] (by simp) (by simp) ad n c (byts xs) (by rw [byts_len, hz1]; omega) (fun j u hu => hx.cells_u8 rfl j u hu)
    (by omega) (by omega) (growslice_fits (by omega) (by rw [hz2]; omega))
  simp only [Nat.zero_add, Array.empty_append] at hr
  refine ⟨_, _, hr, ⟨by rw [byts_len]; omega, .inr ⟨w.heap.size, _, _, rfl, Nat.le_refl _, heap_alloc_new _ _, grownCap_ge _ _ _ _, grownCap_le_maxLen _ _ _ _ (by simp [maxLen]; omega), ?_, ?_⟩⟩, ⟨rfl, rfl, rfl, by simp, fun k hk => ?_⟩⟩
  · have := grownCap_ge w.drew n 0 5
    simp [byts_len, size_zeroCells, Value.cells, hl]
    omega
  · simp [byts_len, hl]
  · exact Below.heap_alloc _ _ _ (by simpa using hk)
theorem slice00 {P : Program} {t e : TypeId} (ht : P.underlying t = some (.slice e)) (s : Nat) (hs : ∀ W, (sizeOf e).run P W = .ok s W) (ad : Addr) (m c : Nat) (W : World) : (Instr.slice t (.slice (some ad) m c) none (some (.int .i64 0)) (some (.int .i64 0))).run P W = .ok (.slice (some ad) 0 0) W := by
  have he : P.elem t = e := by simp [Program.elem, ht]
  rw [run_slice_hm (h0 := by omega) (h2 := by omega) (h3 := by omega) (ht := by rw [he]; exact ht), he, hs]
  simp [sliced, Result.andThen]
theorem slice0n {P : Program} {t e : TypeId} (ht : P.underlying t = some (.slice e)) (s : Nat) (hs : ∀ W, (sizeOf e).run P W = .ok s W) (ad : Addr) (m c n : Nat) (hn : n ≤ c) (W : World) : (Instr.slice t (.slice (some ad) m c) none (some (.int .i64 (n : Int))) none).run P W = .ok (.slice (some ad) n c) W := by
  have he : P.elem t = e := by simp [Program.elem, ht]
  rw [run_slice_h (h0 := by omega) (h2 := by omega) (ht := by rw [he]; exact ht), he, hs]
  simp [sliced, Result.andThen, Addr.add]
set_option maxRecDepth 100000 in
set_option maxHeartbeats 400000 in
/-- The first n bytes, in memory of their own. -/
theorem firstB_any (P : Option Addr) (m c n : Nat) (xs : List Int) (w : World) (hx : Nums .u8 w P m xs) (hnm : n ≤ m) (hmc : m ≤ c) (hm : m ≤ 1000000) (hc : c ≤ maxLen) :
    Calls Try.prog 48 #[.slice P m c, .int .i64 n] w fun e w' => ∃ v, e = .returned v ∧ w'.ownsRow w.heap.size 5 1 v n (byts (xs.take n)) ∧ Below w.heap.size w w' := by
  replace hc : c ≤ 9223372036854775807 := by simpa [maxLen] using hc
  have hnc : n ≤ c := by omega
  by_cases h0 : n = 0
  · subst h0
    clear hx
    go_enter Try.func48, Try.ntmps48
    go_wp2
    go_ret
    exact ⟨_, rfl, World.ownsRow_nil _ _ _ _, Below.refl _ _⟩
  · have h0' : 0 < n := by omega
    obtain ⟨ad, rfl, -⟩ := hx.2.2 (by omega)
    have hne : ((n : Int) == 0) = false := by simp; omega
    obtain ⟨v', w', hrun, ho, hb⟩ := append_first w ad n c (xs.take n) (hx.take n hnm) h0' (by omega)
    have Hrun := Lib.hid hrun
    have Ho := Lib.hid ho
    have Hb := Lib.hid hb
    clear hx hrun ho hb h0
    go_enter Try.func48, Try.ntmps48
    go_wp2_with fail
    have s8 := slice00 Try.underlying67 1 Try.sizeOf5 ad m c
    have s11 := slice0n Try.underlying67 1 Try.sizeOf5 ad m c n hnc
    clear hnm hmc hm hc hnc hne h0'
    go_still_tail 5, (by kernel_rfl)
    clear s8 s11
    go_wp2_with (at_builtin; have _t := Hrun; refine wpList_append_eq rfl (.tmp 8) (.tmp 11) 67 rfl _ _ _ _ rfl rfl Hrun.out ?_; clear _t Hrun)
    go_ret
    exact ⟨_, rfl, Ho.out, Hb.out⟩
set_option maxHeartbeats 400000 in
theorem allB_any (P : Option Addr) (m c : Nat) (xs : List Int) (w : World) (hx : Nums .u8 w P m xs) (hmc : m ≤ c) (hm : m ≤ 1000000) (hc : c ≤ maxLen) :
    Calls Try.prog 32 #[.slice P m c] w fun e w' => ∃ v, e = .returned v ∧ w'.ownsRow w.heap.size 5 1 v m (byts xs) ∧ Below w.heap.size w w' := by
  have Hx := Lib.hid hx
  have e : xs.take m = xs := List.take_of_length_le (Nat.le_of_eq hx.1)
  have He := Lib.hid e
  clear hx e
  go_enter Try.func32, Try.ntmps32
  go_wp2_with fail
  refine (firstB_any P m c m xs w Hx.out (Nat.le_refl _) hmc hm hc).mono ?_
  rintro e w1 ⟨v, rfl, h1, h2⟩
  rw [He.out] at h1
  have H1 := Lib.hid h1
  have H2 := Lib.hid h2
  clear h1 h2
  go_wp2
  go_ret
  exact ⟨_, rfl, H1.out, H2.out⟩
set_option maxHeartbeats 400000 in
theorem certain_any (P : Option Addr) (n c : Nat) (w : World) :
    Calls Try.prog 35 #[.slice P n c] w fun e w' => e = .returned (.agg #[.slice P n c, .slice none 0 0, .int .i64 2]) ∧ Below w.heap.size w w' := by
  have hb : Below w.heap.size w (w.alloc (.cells #[.slice P n c, .slice none 0 0, .int .i64 2] 69)) := (Below.refl _ _).alloc (Nat.le_refl _) _
  have Hb := Lib.hid hb
  clear hb
  go_enter Try.func35, Try.ntmps35
  go_wp2
  exact bodyPost_ret (v := .agg #[.slice P n c, .slice none 0 0, .int .i64 2]) (by simp [results, Try.results35, go_sem]) rfl ⟨rfl, Hb.out⟩
set_option maxHeartbeats 400000 in
theorem isName_any (n : Nm) (w : World) (hn : n.length ≤ maxLen) :
    Calls Try.prog 38 #[.string (str n)] w fun e w' => e = .returned (.bool (nameOk n)) ∧ w = w' := by
  unfold maxLen at hn
  have hs := str_size n
  by_cases h1 : 1 ≤ n.length
  · by_cases h2 : n.length ≤ 20
    · have e : nameOk n = true := by simp [nameOk]; omega
      have d2 : decide ((n.length : Int) ≤ 20) = true := by simp; omega
      rw [e]
      clear e
      go_enter Try.func38, Try.ntmps38
      go_wp2
      go_ret
      exact ⟨rfl, rfl⟩
    · have e : nameOk n = false := by simp [nameOk]; omega
      have d2 : decide ((n.length : Int) ≤ 20) = false := by simp; omega
      rw [e]
      clear e
      go_enter Try.func38, Try.ntmps38
      go_wp2
      go_ret
      exact ⟨rfl, rfl⟩
  · have e : nameOk n = false := by simp [nameOk]; omega
    rw [e]
    clear e
    go_enter Try.func38, Try.ntmps38
    go_wp2
    go_ret
    exact ⟨rfl, rfl⟩
end Go.Proofs.Ytgkgkekgmcldmaa
