/- Package match's Assign. -/
import Derived.Test.YtnjalnnbdmmcmaaMat6
namespace Go.Proofs.Ytnjalnnbdmmcmaa
open Go.RowKit Go.Shelf
attribute [local go_sem] Oper.semAt_some
/-- Who goes with whom; at which total. -/
def toL (M : List (List Int)) : List Int := if okM M then (fst1 M 0).map fun (k : Nat) => (k : Int) else []
def totL (M : List (List Int)) : Int := if okM M then restR M 0 else 0
theorem restV_zero (M : List (List Int)) : restV M 0 = restR M 0 := by
  have h : pcN 0 = 0 := by decide +kernel
  unfold restV
  rw [h, List.drop_zero]
set_option maxRecDepth 100000 in
set_option maxHeartbeats 4000000 in
theorem assign_any (A : Option Addr) (n c : Nat) (M : List (List Int)) (w : World) (hM : Mat w A n M) (hnn : n ≤ 1000000) (hr : ∀ r ∈ M, r.length ≤ 1000000) :
    Calls Try.prog 6 #[.slice A n c] w fun e w' => ∃ v, e = .returned (.tuple #[v, .int .i64 (totL M), .bool (okM M)]) ∧ OI w.heap.size w' v (toL M) ∧ Below w.heap.size w w' := by
  have HP := Lib.hid (proper_any A n c M w hM hnn hr)
  have HM := Lib.hid hM
  unfold toL totL
  clear hM hr
  cases hok : okM M with
  | false =>
    rw [hok] at HP
    clear hok
    go_enter Try.func6, Try.ntmps6
    go_wp2_with fail
    refine HP.out.mono ?_
    rintro e w' ⟨rfl, hb⟩
    have HB := Lib.hid hb
    clear hb
    go_wp2
    exact bodyPost_ret (v := .tuple #[.slice none 0 0, .int .i64 0, .bool false]) (by simp [results, Try.results6, go_sem]) rfl ⟨_, rfl, OI.nil _ _, HB.out⟩
  | true =>
    have HOK := Lib.hid hok
    rw [hok] at HP
    clear hok
    go_enter Try.func6, Try.ntmps6
    go_wp2_with fail
    refine HP.out.mono ?_
    rintro e w1 ⟨rfl, hb1⟩
    have HB1 := Lib.hid hb1
    have HR := Lib.hid (restsOf_any A n c M w1 (HM.out.keep (Keeps.of_below hb1)) HOK.out)
    have hz1 := hb1.size
    clear hb1
    go_wp2_with fail
    refine HR.out.mono ?_
    rintro e w2 ⟨G, rfl, hG, hGl, hb2⟩
    have HB2 := Lib.hid (HB1.out.trans (hb2.mono hz1))
    have hz2 := hb2.size
    obtain ⟨N, hN⟩ : ∃ N, N = 2 ^ wid M := ⟨_, rfl⟩
    have n1 : 1 ≤ N := by rw [hN]; exact Nat.one_le_two_pow
    have hc0 := hG.cell (fillL_at M (N := 2 ^ wid M) (t := 0) (s := 0) (by rw [← hN]; omega) (Nat.le_refl _))
    rw [restV_zero] at hc0
    have HG := Lib.hid hG
    have HF := Lib.hid (first_any A n c G N M w2.drew (show Mat w2.drew A n M from HM.out.keep (Keeps.of_below HB2.out.drew)) HOK.out hN (show Arr .i64 3 w2.drew G (restL M) from hG))
    rw [← hN]
    have HC0 := Lib.hid (show w2.drew.cell? ⟨G, 0, none⟩ = some (.int .i64 (restR M 0)) from hc0)
    have n1z : 0 < N := by omega
    clear hb2 hG hc0 hN
    go_wp2
    refine wp_region_held_drew (S := fun W => W.cell? ⟨G, 0, none⟩ = some (.int .i64 (restR M 0))) (by kernel_rfl) HC0.out (fun hHeld => ?_)
    refine wpAnyH_take (i := 0) (v := ?va0) rfl (by kernel_rfl) (by kernel_rfl) (by kernel_rfl) (fun _ _ _ h => h) (Or.inl ⟨by rfl, ?ya0⟩) hHeld ?ra0
    case ya0 => (intro W hW; go_simp; first | done | with_reducible rfl)
    try simp only [List.getElem_toArray, List.getElem_cons_zero, Act.put, List.setIfInBounds_toArray, List.set_cons_zero, List.set_cons_succ]
    refine wpAnyH_take (i := 1) (v := ?va1) rfl (by kernel_rfl) (by kernel_rfl) (by kernel_rfl) (fun _ _ _ h => h) (Or.inl ⟨by rfl, ?ya1⟩) hHeld ?ra1
    case ya1 => (intro W hW; go_simp; first | done | with_reducible rfl)
    try simp only [List.getElem_toArray, List.getElem_cons_succ, List.getElem_cons_zero, Act.put, List.setIfInBounds_toArray, List.set_cons_zero, List.set_cons_succ]
    refine wpAnyH_take (i := 3) (v := ?va3) rfl (by kernel_rfl) (by kernel_rfl) (by kernel_rfl) (fun _ _ _ h => h) (Or.inl ⟨by rfl, ?ya3⟩) hHeld ?ra3
    case ya3 => (intro W hW; go_simp; first | done | with_reducible rfl)
    try simp only [List.getElem_toArray, List.getElem_cons_succ, List.getElem_cons_zero, Act.put, List.setIfInBounds_toArray, List.set_cons_zero, List.set_cons_succ]
    refine wpAnyH_take (i := 4) (v := ?va4) rfl (by kernel_rfl) (by kernel_rfl) (by kernel_rfl) (fun _ _ _ h => h) (Or.inl ⟨by rfl, ?ya4⟩) hHeld ?ra4
    case ya4 => (intro W hW; go_simp; first | done | with_reducible rfl)
    try simp only [List.getElem_toArray, List.getElem_cons_succ, List.getElem_cons_zero, Act.put, List.setIfInBounds_toArray, List.set_cons_zero, List.set_cons_succ]
    refine wpAnyH_take (i := 5) (v := ?va5) rfl (by kernel_rfl) (by kernel_rfl) (by kernel_rfl) (fun _ _ _ h => h) (Or.inl ⟨by rfl, ?ya5⟩) hHeld ?ra5
    case ya5 => (intro W hW; go_simp; first | done | with_reducible rfl)
    try simp only [List.getElem_toArray, List.getElem_cons_succ, List.getElem_cons_zero, Act.put, List.setIfInBounds_toArray, List.set_cons_zero, List.set_cons_succ]
    refine wpAnyH_ready (rs := [2]) (by kernel_rfl) (by simp) ?_
    refine AllReadyH.cons rfl (fun K hK => ?_) (AllReadyH.nil)
    go_simp
    refine HF.out.mono ?_
    rintro e w3 ⟨v, rfl, ho, hb3⟩
    have HO := Lib.hid ho
    have HH3 := Lib.hid ((Keeps.of_below hb3) _ _ HC0.out)
    have HB3 := Lib.hid ((HB2.out.drew).trans (hb3.mono (show w.heap.size ≤ w2.heap.size by omega)))
    clear hb3 ho
    refine hK.out _ _ (HH3.out) (fun hHeld => ?_)
    clear hK K
    try simp only [List.getElem_toArray, List.getElem_cons_succ, List.getElem_cons_zero, Act.put, List.setIfInBounds_toArray, List.set_cons_zero, List.set_cons_succ]
    refine wpAnyH_take (i := 6) (v := ?va6) rfl (by kernel_rfl) (by kernel_rfl) (by kernel_rfl) (fun _ _ _ h => h) (Or.inl ⟨by rfl, ?ya6⟩) hHeld ?ra6
    case ya6 => (intro W hW; go_simp; first | done | with_reducible rfl)
    try simp only [List.getElem_toArray, List.getElem_cons_succ, List.getElem_cons_zero, Act.put, List.setIfInBounds_toArray, List.set_cons_zero, List.set_cons_succ]
    refine wpAnyH_take (i := 7) (v := ?va7) rfl (by kernel_rfl) (by kernel_rfl) (by kernel_rfl) (fun _ _ _ h => h) (Or.inl ⟨by rfl, ?ya7⟩) hHeld ?ra7
    case ya7 => (intro W hW; go_simp; first | done | with_reducible rfl)
    try simp only [List.getElem_toArray, List.getElem_cons_succ, List.getElem_cons_zero, Act.put, List.setIfInBounds_toArray, List.set_cons_zero, List.set_cons_succ]
    refine wpAnyH_take (i := 8) (v := ?va8) rfl (by kernel_rfl) (by kernel_rfl) (by kernel_rfl) (fun _ _ _ h => h) (Or.inl ⟨by rfl, ?ya8⟩) hHeld ?ra8
    case ya8 => (intro W hW; go_simp; first | done | with_reducible rfl)
    try simp only [List.getElem_toArray, List.getElem_cons_succ, List.getElem_cons_zero, Act.put, List.setIfInBounds_toArray, List.set_cons_zero, List.set_cons_succ]
    refine wpAnyH_done (by kernel_rfl) ?_ _
    go_wp2
    exact bodyPost_ret (v := .tuple #[v, .int .i64 (restR M 0), .bool true]) (by simp [results, Try.results6, go_sem]) rfl ⟨_, rfl, HO.out.mono (show w.heap.size ≤ w2.heap.size by omega), HB3.out⟩
end Go.Proofs.Ytnjalnnbdmmcmaa
