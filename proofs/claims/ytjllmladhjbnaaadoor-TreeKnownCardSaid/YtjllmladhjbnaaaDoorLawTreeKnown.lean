/- The law TreeKnown. -/
import Derived.IntWalk
import Derived.Test.YtjllmladhjbnaaaDoorKn11
import Derived.Test.YtjllmladhjbnaaaDoorTreQ
import Derived.Test.YtjllmladhjbnaaaDoorSameE
import Derived.Test.YtjllmladhjbnaaaDoorRegion
namespace Go.Proofs.YtjllmladhjbnaaaDoor
open Go.RowKit Go.Shelf
attribute [local go_sem] Oper.semAt_some
def knT : List Ed := [⟨7, -1, false⟩, ⟨3, 7, false⟩, ⟨5, 7, false⟩, ⟨6, 7, false⟩, ⟨1, 3, false⟩, ⟨2, 3, false⟩, ⟨4, 6, false⟩, ⟨0, 2, false⟩]
theorem knT_plan : treeM [4, 2, 5] 100 = knT := by kernel_rfl
theorem knT_check : checkB [4, 2, 5] ((0 : Nat) : Int) = true := by decide +kernel
theorem knT_c : ∀ x ∈ ([4, 2, 5] : List Int), 1 ≤ x ∧ x ≤ 16 := by intro x hx; simp at hx; omega
theorem knT_all (n : Int) (h : 100 ≤ n) : treeM [4, 2, 5] n = knT := by
  rw [← knT_plan]
  have e : prodTo [4, 2, 5] 3 = 40 := by decide +kernel
  exact tree_many (by simp) (by simp) knT_c (by show prodTo [4, 2, 5] 3 ≤ n; omega) (by show prodTo [4, 2, 5] 3 ≤ 100; omega)
theorem knT_in : ∀ e ∈ knT, inK .i64 e.s ∧ inK .i64 e.p := by
  intro e he
  simp [knT] at he
  rcases he with rfl | rfl | rfl | rfl | rfl | rfl | rfl | rfl <;> (constructor <;> constructor <;> simp)
set_option maxRecDepth 100000 in
set_option maxHeartbeats 8000000 in
theorem treeKnown_walk (a0 : Int) (w : World) (h0 : inK .i64 a0) (hT : Tab w) (hw1 : 1 < w.heap.size) :
    Calls Tryd.prog 6 #[.int .i64 a0] w fun e w' => e = .returned (.bool true) ∧ Below w.heap.size w w' := by
  have HKn := Lib.hid (known11_any w hT hw1)
  have HT := Lib.hid hT
  clear hT
  go_enter Tryd.func6, Tryd.ntmps6
  go_wp2_with fail
  refine HKn.out.mono ?_
  rintro e w1 ⟨rfl, hb1⟩
  obtain ⟨u1, hu1⟩ : ∃ u, u = w1.alloc (.cells #[.int .i64 4, .int .i64 2, .int .i64 5] 3) := ⟨_, rfl⟩
  have a1 : Arr .i64 3 u1 w1.heap.size [4, 2, 5] := by rw [hu1]; exact heap_alloc_new w1 _
  have b1 : Below w1.heap.size w1 u1 := by rw [hu1]; exact below_box w1 _
  have z1 : u1.heap.size = w1.heap.size + 1 := by rw [hu1]; simp
  obtain ⟨u2, hu2⟩ : ∃ u, u = u1.alloc (.cells #[.slice (some ⟨w1.heap.size, 0, none⟩) 3 3, .int .i64 0] 25) := ⟨_, rfl⟩
  have b2 : Below u1.heap.size u1 u2 := by rw [hu2]; exact below_box u1 _
  have bx : Bx u2 (w1.heap.size + 1) #[.slice (some ⟨w1.heap.size, 0, none⟩) 3 3, .int .i64 0] := by rw [hu2, ← z1]; exact Bx.new _ _ _
  have hn2 : Nums .i64 u2 (some ⟨w1.heap.size, 0, none⟩) 3 [4, 2, 5] := (a1.nums (by intro x hx; simp at hx; rcases hx with rfl | rfl | rfl <;> (constructor <;> omega))).keep (Keeps.of_below b2)
  have hbw : Below w.heap.size w u2 := (hb1.trans (b1.mono hb1.size)).trans (b2.mono (by have := hb1.size; omega))
  have HW2 := Lib.hid (hu2.trans (by rw [hu1]))
  have HBW := Lib.hid hbw
  have HWI := Lib.hid (lwithin11 a0 200 u2.drew h0 (by omega) (by omega))
  obtain ⟨r, hr⟩ : ∃ r, r = a0 % 200 := ⟨_, rfl⟩
  rw [← hr] at HWI
  have r0 : 0 ≤ r := by omega
  have r1 : r < 200 := by omega
  obtain ⟨n, hn⟩ : ∃ n, n = 100 + r := ⟨_, rfl⟩
  have n0 : 100 ≤ n := by omega
  have n3 : n ≤ 300 := by omega
  have hnw : IntKind.i64.wrap (100 + r) = n := by rw [hn]; exact IntWalk.i64_in _ (by omega)
  have hfq : FQ u2 (some ⟨w1.heap.size, 0, none⟩) 3 0 [4, 2, 5] n := ⟨hn2, by omega, by omega, by omega, knT_c, by omega, n3, HT.out.below hbw hw1, by have := hbw.size; omega⟩
  have HP := Lib.hid (tplan_any (some ⟨w1.heap.size, 0, none⟩) 3 3 0 [4, 2, 5] n u2.drew hfq.drew knT_check)
  rw [knT_all n n0] at HP
  have x0 : u2.cell? ⟨w1.heap.size + 1, 0, none⟩ = some (.slice (some ⟨w1.heap.size, 0, none⟩) 3 3) := bx 0 _ rfl
  have x1 : u2.cell? ⟨w1.heap.size + 1, 1, none⟩ = some (.int .i64 0) := bx 1 _ rfl
  have hz2 := hbw.size
  clear hb1 hu1 a1 b1 z1 hu2 b2 bx hn2 hbw hr hn hfq HKn
  go_wp2_with fail
  rw [← HW2.out]
  refine wp_region_held_drew (S := fun W => W.cell? ⟨w1.heap.size + 1, 0, none⟩ = some (.slice (some ⟨w1.heap.size, 0, none⟩) 3 3) ∧ W.cell? ⟨w1.heap.size + 1, 1, none⟩ = some (.int .i64 0)) (by kernel_rfl) ⟨x0, x1⟩ (fun hHeld => ?_)
  refine wpAnyH_take (i := 0) (v := ?va0) rfl (by kernel_rfl) (by kernel_rfl) (by kernel_rfl) (fun _ _ _ h => h) (Or.inl ⟨by rfl, ?ya0⟩) hHeld ?ra0
  case ya0 => (intro W hW; obtain ⟨hW0, hW1⟩ := hW; go_simp; first | done | with_reducible rfl)
  try simp only [List.getElem_toArray, List.getElem_cons_zero, Act.put, List.setIfInBounds_toArray, List.set_cons_zero, List.set_cons_succ]
  refine wpAnyH_take (i := 1) (v := ?va1) rfl (by kernel_rfl) (by kernel_rfl) (by kernel_rfl) (fun _ _ _ h => h) (Or.inl ⟨by rfl, ?ya1⟩) hHeld ?ra1
  case ya1 => (intro W hW; obtain ⟨hW0, hW1⟩ := hW; go_simp; first | done | with_reducible rfl)
  try simp only [List.getElem_toArray, List.getElem_cons_succ, List.getElem_cons_zero, Act.put, List.setIfInBounds_toArray, List.set_cons_zero, List.set_cons_succ]
  refine wpAnyH_ready (rs := [2]) (by kernel_rfl) (by simp) ?_
  refine AllReadyH.cons rfl (fun K hK => ?_) (AllReadyH.nil)
  go_simp
  refine HWI.out.mono ?_
  rintro e w' ⟨rfl, rfl⟩
  refine hK.out _ _ (hHeld) (fun hHeld => ?_)
  clear hK K
  try simp only [List.getElem_toArray, List.getElem_cons_succ, List.getElem_cons_zero, Act.put, List.setIfInBounds_toArray, List.set_cons_zero, List.set_cons_succ]
  refine wpAnyH_take (i := 3) (v := ?va3) rfl (by kernel_rfl) (by kernel_rfl) (by kernel_rfl) (fun _ _ _ h => h) (Or.inl ⟨by rfl, ?ya3⟩) hHeld ?ra3
  case ya3 => (intro W hW; obtain ⟨hW0, hW1⟩ := hW; go_simp; first | done | with_reducible rfl)
  try simp only [List.getElem_toArray, List.getElem_cons_succ, List.getElem_cons_zero, Act.put, List.setIfInBounds_toArray, List.set_cons_zero, List.set_cons_succ]
  refine wpAnyH_ready (rs := [4]) (by kernel_rfl) (by simp) ?_
  refine AllReadyH.cons rfl (fun K hK => ?_) (AllReadyH.nil)
  go_simp
  refine HP.out.mono ?_
  rintro e9 w5 ⟨v, rfl, ho, hb5⟩
  have k5 := Keeps.of_below hb5
  have HO := Lib.hid ho
  have HB5 := Lib.hid (HBW.out.drew.trans (hb5.mono hz2))
  clear hb5 ho
  refine hK.out _ _ (⟨k5 _ _ x0, k5 _ _ x1⟩) (fun hHeld => ?_)
  clear hK K
  try simp only [List.getElem_toArray, List.getElem_cons_succ, List.getElem_cons_zero, Act.put, List.setIfInBounds_toArray, List.set_cons_zero, List.set_cons_succ]
  refine wpAnyH_take (i := 5) (v := ?va5) rfl (by kernel_rfl) (by kernel_rfl) (by kernel_rfl) (fun _ _ _ h => h) (Or.inl ⟨by rfl, ?ya5⟩) hHeld ?ra5
  case ya5 => (intro W hW; obtain ⟨hW0, hW1⟩ := hW; go_simp; first | done | with_reducible rfl)
  try simp only [List.getElem_toArray, List.getElem_cons_succ, List.getElem_cons_zero, Act.put, List.setIfInBounds_toArray, List.set_cons_zero, List.set_cons_succ]
  refine wpAnyH_done (by kernel_rfl) ?_ _
  clear hHeld
  obtain ⟨P, cP, rfl, hE, -⟩ := HO.out.form2 knT_in
  have e8 : knT.length = 8 := rfl
  rw [e8] at hE ⊢
  have hoE : OwnE (w5.alloc (.cells (eCs knT).toArray 36)) w5.heap.size knT := heap_alloc_new w5 _
  have hE2 := hoE.edgs knT_in
  rw [e8] at hE2
  have hb6 := below_box w5 (.cells (eCs knT).toArray 36)
  have HB6 := Lib.hid (HB5.out.trans (hb6.mono HB5.out.size))
  have HSA := Lib.hid (sameE_any P (some ⟨w5.heap.size, 0, none⟩) 8 cP 8 knT _ (hE.keep (Keeps.of_below hb6)) hE2 (by omega))
  have e9 : (eCs knT).toArray = #[.int .i64 7, .int .i64 (-1), .bool false, .int .i64 3, .int .i64 7, .bool false, .int .i64 5, .int .i64 7, .bool false, .int .i64 6, .int .i64 7, .bool false, .int .i64 1, .int .i64 3, .bool false, .int .i64 2, .int .i64 3, .bool false, .int .i64 4, .int .i64 6, .bool false, .int .i64 0, .int .i64 2, .bool false] := by rfl
  rw [e9] at HSA HB6
  clear e8 e9 hE hE2 hoE hb6
  go_wp2_with fail
  refine HSA.out.mono ?_
  rintro e w7 ⟨rfl, hb7⟩
  have HB7 := Lib.hid (HB6.out.trans (hb7.mono HB6.out.size))
  clear hb7
  go_wp2
  go_ret
  exact ⟨rfl, HB7.out⟩
end Go.Proofs.YtjllmladhjbnaaaDoor
