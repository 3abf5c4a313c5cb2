/- The reference's Same of plans that read the same. -/
import Derived.Test.YtjllmladhjbnaaaGreatDoorSoA
import Derived.Test.YtjllmladhjbnaaaGreatDoorRegion
namespace Go.Proofs.YtjllmladhjbnaaaGreatDoor
open Go.RowKit Go.Shelf
attribute [local go_sem] Oper.semAt_some
set_option maxRecDepth 100000 in
set_option maxHeartbeats 4000000 in
theorem sameE_any (A B : Option Addr) (n c d : Nat) (es : List Ed) (w : World) (hA : Edgs w A n es) (hB : Edgs w B n es) (hn : n ≤ 1000) :
    Calls Tryz.prog 10 #[.slice A n c, .slice B n d] w fun e w' => e = .returned (.bool true) ∧ Below w.heap.size w w' := by
  have HA := Lib.hid hA
  have HB := Lib.hid hB
  have hel := hA.1
  have dnn : ((n : Int) != (n : Int)) = false := by simp
  clear hA hB
  go_enter Tryz.func10, Tryz.ntmps10
  go_wp2
  go_loopw [5] (fun i wr => ∃ k : Nat, i = .int .i64 k ∧ k ≤ n ∧ Below w.heap.size w wr) (fun i _ => n - (intOf i).toNat)
  case atStart => exact ⟨0, rfl, Nat.zero_le _, Below.refl _ _⟩
  case round =>
    obtain ⟨k, rfl, hk, hb⟩ := hrel
    rename World => wr
    have HBw := Lib.hid hb
    have kw := Keeps.of_below hb
    by_cases hkn : k < n
    · obtain ⟨e, he⟩ : ∃ e, es[k]? = some e := ⟨_, List.getElem?_eq_getElem (by omega)⟩
      obtain ⟨g1, o1, rfl, h1⟩ := HA.out.2.2 (by omega)
      obtain ⟨g2, o2, rfl, h2⟩ := HB.out.2.2 (by omega)
      obtain ⟨x0, x1, x2⟩ := h1 k e he
      obtain ⟨y0, y1, y2⟩ := h2 k e he
      have u0 := kw _ _ x0
      have u1 := kw _ _ x1
      have u2 := kw _ _ x2
      have v0 := kw _ _ y0
      have v1 := kw _ _ y1
      have v2 := kw _ _ y2
      have k0 : (0 : Int) ≤ (k : Int) := by omega
      have k1 : (k : Int) < (n : Int) := by omega
      have hif : ∀ W : World, (if e.sc = e.sc then (Result.ok (Next.value (Value.bool false)) W : Result Next) else Result.ok (Next.value (Value.bool true)) W) = Result.ok (Next.value (Value.bool false)) W := fun W => by simp
      clear h1 h2 x0 x1 x2 y0 y1 y2 hb kw he
      go_wp2_with fail
      refine wp_region_held_drew (S := fun W => W.cell? ⟨g1, o1 + k * 3, none⟩ = some (.int .i64 e.s) ∧ W.cell? ⟨g1, o1 + k * 3 + 1, none⟩ = some (.int .i64 e.p) ∧ W.cell? ⟨g1, o1 + k * 3 + 2, none⟩ = some (.bool e.sc) ∧ W.cell? ⟨g2, o2 + k * 3, none⟩ = some (.int .i64 e.s) ∧ W.cell? ⟨g2, o2 + k * 3 + 1, none⟩ = some (.int .i64 e.p) ∧ W.cell? ⟨g2, o2 + k * 3 + 2, none⟩ = some (.bool e.sc)) (by kernel_rfl) ⟨u0, u1, u2, v0, v1, v2⟩ (fun hHeld => ?_)
      refine wpAnyH_take (i := 0) (v := ?va0) rfl (by kernel_rfl) (by kernel_rfl) (by kernel_rfl) (fun _ _ _ h => h) (Or.inl ⟨by rfl, ?ya0⟩) hHeld ?ra0
      case ya0 => (intro W hW; obtain ⟨hW0, hW1, hW2, hW3, hW4, hW5⟩ := hW; go_simp; first | done | with_reducible rfl)
      try simp only [List.getElem_toArray, List.getElem_cons_zero, Act.put, List.setIfInBounds_toArray, List.set_cons_zero, List.set_cons_succ]
      refine wpAnyH_take (i := 1) (v := ?va1) rfl (by kernel_rfl) (by kernel_rfl) (by kernel_rfl) (fun _ _ _ h => h) (Or.inl ⟨by rfl, ?ya1⟩) hHeld ?ra1
      case ya1 => (intro W hW; obtain ⟨hW0, hW1, hW2, hW3, hW4, hW5⟩ := hW; go_simp; first | done | with_reducible rfl)
      try simp only [List.getElem_toArray, List.getElem_cons_succ, List.getElem_cons_zero, Act.put, List.setIfInBounds_toArray, List.set_cons_zero, List.set_cons_succ]
      refine wpAnyH_take (i := 2) (v := ?va2) rfl (by kernel_rfl) (by kernel_rfl) (by kernel_rfl) (fun _ _ _ h => h) (Or.inl ⟨by rfl, ?ya2⟩) hHeld ?ra2
      case ya2 => (intro W hW; obtain ⟨hW0, hW1, hW2, hW3, hW4, hW5⟩ := hW; go_simp; first | done | with_reducible rfl)
      try simp only [List.getElem_toArray, List.getElem_cons_succ, List.getElem_cons_zero, Act.put, List.setIfInBounds_toArray, List.set_cons_zero, List.set_cons_succ]
      refine wpAnyH_take (i := 3) (v := ?va3) rfl (by kernel_rfl) (by kernel_rfl) (by kernel_rfl) (fun _ _ _ h => h) (Or.inl ⟨by rfl, ?ya3⟩) hHeld ?ra3
      case ya3 => (intro W hW; obtain ⟨hW0, hW1, hW2, hW3, hW4, hW5⟩ := hW; go_simp; first | done | with_reducible rfl)
      try simp only [List.getElem_toArray, List.getElem_cons_succ, List.getElem_cons_zero, Act.put, List.setIfInBounds_toArray, List.set_cons_zero, List.set_cons_succ]
      refine wpAnyH_take (i := 4) (v := ?va4) rfl (by kernel_rfl) (by kernel_rfl) (by kernel_rfl) (fun _ _ _ h => h) (Or.inl ⟨by rfl, ?ya4⟩) hHeld ?ra4
      case ya4 => (intro W hW; obtain ⟨hW0, hW1, hW2, hW3, hW4, hW5⟩ := hW; go_simp; first | done | with_reducible rfl)
      try simp only [List.getElem_toArray, List.getElem_cons_succ, List.getElem_cons_zero, Act.put, List.setIfInBounds_toArray, List.set_cons_zero, List.set_cons_succ]
      refine wpAnyH_take (i := 5) (v := ?va5) rfl (by kernel_rfl) (by kernel_rfl) (by kernel_rfl) (fun _ _ _ h => h) (Or.inl ⟨by rfl, ?ya5⟩) hHeld ?ra5
      case ya5 => (intro W hW; obtain ⟨hW0, hW1, hW2, hW3, hW4, hW5⟩ := hW; go_simp; first | done | with_reducible rfl)
      try simp only [List.getElem_toArray, List.getElem_cons_succ, List.getElem_cons_zero, Act.put, List.setIfInBounds_toArray, List.set_cons_zero, List.set_cons_succ]
      refine wpAnyH_take (i := 6) (v := ?va6) rfl (by kernel_rfl) (by kernel_rfl) (by kernel_rfl) (fun _ _ _ h => h) (Or.inl ⟨by rfl, ?ya6⟩) hHeld ?ra6
      case ya6 => (intro W hW; obtain ⟨hW0, hW1, hW2, hW3, hW4, hW5⟩ := hW; go_simp; first | done | with_reducible rfl)
      try simp only [List.getElem_toArray, List.getElem_cons_succ, List.getElem_cons_zero, Act.put, List.setIfInBounds_toArray, List.set_cons_zero, List.set_cons_succ]
      refine wpAnyH_take (i := 7) (v := ?va7) rfl (by kernel_rfl) (by kernel_rfl) (by kernel_rfl) (fun _ _ _ h => h) (Or.inl ⟨by rfl, ?ya7⟩) hHeld ?ra7
      case ya7 => (intro W hW; obtain ⟨hW0, hW1, hW2, hW3, hW4, hW5⟩ := hW; go_simp; first | done | with_reducible rfl)
      try simp only [List.getElem_toArray, List.getElem_cons_succ, List.getElem_cons_zero, Act.put, List.setIfInBounds_toArray, List.set_cons_zero, List.set_cons_succ]
      refine wpAnyH_take (i := 8) (v := ?va8) rfl (by kernel_rfl) (by kernel_rfl) (by kernel_rfl) (fun _ _ _ h => h) (Or.inl ⟨by rfl, ?ya8⟩) hHeld ?ra8
      case ya8 => (intro W hW; obtain ⟨hW0, hW1, hW2, hW3, hW4, hW5⟩ := hW; go_simp; first | done | with_reducible rfl)
      try simp only [List.getElem_toArray, List.getElem_cons_succ, List.getElem_cons_zero, Act.put, List.setIfInBounds_toArray, List.set_cons_zero, List.set_cons_succ]
      refine wpAnyH_done (by kernel_rfl) ?_ _
      go_wp2
      go_roundw
      case rel => exact ⟨k + 1, by go_num, by omega, HBw.out.drew⟩
      case measure => simp [intOf]; omega
    · obtain rfl : k = n := by omega
      go_wp2
      go_ret
      exact ⟨rfl, HBw.out⟩
end Go.Proofs.YtjllmladhjbnaaaGreatDoor
