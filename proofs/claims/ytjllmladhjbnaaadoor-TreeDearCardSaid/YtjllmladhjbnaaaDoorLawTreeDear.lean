/- The law TreeDear. -/
import Derived.IntWalk
import Derived.Test.YtjllmladhjbnaaaDoorKn11
import Derived.Test.YtjllmladhjbnaaaDoorL8
import Derived.Test.YtjllmladhjbnaaaDoorRegion
import Derived.Test.YtjllmladhjbnaaaDoorRegP
import Derived.Test.YtjllmladhjbnaaaDoorRpl10
import Derived.Test.YtjllmladhjbnaaaDoorRrig
namespace Go.Proofs.YtjllmladhjbnaaaDoor
open Go.RowKit Go.Shelf
attribute [local go_sem] Oper.semAt_some
set_option maxRecDepth 100000 in
set_option maxHeartbeats 8000000 in
theorem treeDear_walk (a0 : Int) (a1 : Option Addr) (len1 cap1 : Nat) (z1 : List Int) (a2 : Int) (w : World) (h0 : inK .i64 a0) (w1 : IsRow .i64 w a1 len1 cap1 z1) (h2 : inK .i64 a2) (hT : Tab w) (hw1 : 1 < w.heap.size) :
    Calls Tryd.prog 5 #[.int .i64 a0, .slice a1 len1 cap1, .int .i64 a2] w fun e w' => e = .returned (.bool true) ∧ Below w.heap.size w w' := by
  obtain ⟨n1, lc1, cm1⟩ := w1.nums
  have N1 := Lib.hid n1
  have HKn := Lib.hid (known11_any w hT hw1)
  have HT := Lib.hid hT
  clear w1 n1 hT
  go_enter Tryd.func5, Tryd.ntmps5
  go_wp2_with fail
  refine HKn.out.mono ?_
  rintro e w1 ⟨rfl, hb1⟩
  have Hb1 := Lib.hid hb1
  clear hb1 HKn
  go_wp2_with fail
  refine (Facts_res a0 0 a1 none len1 cap1 0 0 _ [] w1 (N1.out.keep (Keeps.of_below Hb1.out)) (Nums.nil _ _ _) (by omega) (by omega) h0 (by constructor <;> omega)).mono ?_
  rintro e w2 ⟨A, c, D, d, C, q, mm, m, cs, l, rfl, hF⟩
  obtain ⟨k1, k2, k3⟩ : 1 ≤ q ∧ q ≤ 4 ∧ mm ≤ 2 := ⟨hF.q1, hF.q4, hF.m2⟩
  have hb2 : Below w.heap.size w w2 := Hb1.out.trans (hF.below.mono Hb1.out.size)
  have hck : checkB cs (mm : Int) = true := by rw [hF.ecs, hF.emm]; exact fCards_check _ _ _
  have hcl := hF.eq
  obtain ⟨W3, hW3⟩ : ∃ W3, W3 = w2.alloc (.cells #[.slice A q c, .int .i64 mm] 25) := ⟨_, rfl⟩
  have hb3 : Below w.heap.size w W3 := by rw [hW3]; exact hb2.alloc hb2.size _
  have hbx : Bx W3 w2.heap.size #[.slice A q c, .int .i64 mm] := by rw [hW3]; exact Bx.new _ _ _
  have hnq : Nums .i64 W3 A q cs := by rw [hW3]; exact hF.nums.keep (Keeps.of_below (below_box w2 _))
  have HFQ := Lib.hid (fun (n : Int) (W : World) (hb : Below W3.heap.size W3 W) (n0 : 0 ≤ n) (n3 : n ≤ 300) => (⟨hnq.keep (Keeps.of_below hb), k1, k2, k3, hF.c16, n0, n3, HT.out.below (hb3.trans (hb.mono hb3.size)) hw1, by have := hb3.size; have := hb.size; omega⟩ : FQ W A q mm cs n))
  have HGD := Lib.hid (fun (n : Int) (n0 : 0 ≤ n) (n3 : n ≤ 300) => (⟨hF.c16, by omega, by omega, n0, n3⟩ : Good cs n))
  have HNQ := Lib.hid hnq
  have HCK := Lib.hid hck
  have HB3 := Lib.hid hb3
  have HBX := Lib.hid hbx
  have HW3 := Lib.hid hW3
  have hg3 : w2.heap.size < W3.heap.size := block_lt (hbx 0 _ rfl)
  clear hF hnq hb3 hb2 hbx hck hW3
  have HWI := Lib.hid (lwithin11 a2 301 W3 h2 (by omega) (by omega))
  obtain ⟨r, hr⟩ : ∃ r, r = a2 % 301 := ⟨_, rfl⟩
  rw [← hr] at HWI
  have r0 : 0 ≤ r := by omega
  have r3 : r ≤ 300 := by omega
  have HPL := Lib.hid (tplan_any A q c mm cs r W3 (HFQ.out r W3 (Below.refl _ _) r0 r3) HCK.out)
  have hrp := tree_right r (cs := cs) (by omega) (by omega)
  rw [hcl] at hrp
  have HTM := Lib.hid (fun e (h : e ∈ treeM cs r) => h)
  obtain ⟨es, hes⟩ : ∃ es, es = treeM cs r := ⟨_, rfl⟩
  rw [← hes] at HPL hrp
  have hlen : es.length = 2 ^ q := by rw [← setsL_len q k1 k2, ← hrp.sets, List.length_map]
  have hin := right_in k1 k2 hrp
  have HIN := Lib.hid hin
  obtain ⟨N, hN⟩ : ∃ N, N = 2 ^ q := ⟨_, rfl⟩
  have n16 := pow_16 q k2
  rw [← hN] at hlen n16
  have x0 : W3.cell? ⟨w2.heap.size, 0, none⟩ = some (.slice A q c) := HBX.out 0 _ rfl
  have x1 : W3.cell? ⟨w2.heap.size, 1, none⟩ = some (.int .i64 mm) := HBX.out 1 _ rfl
  have HES := Lib.hid hes
  have HRP := Lib.hid hrp
  have HNN := Lib.hid hN
  clear hr hes hin hN hrp HTM
  go_wp2_with fail
  rw [← HW3.out]
  refine HWI.out.mono ?_
  rintro e w' ⟨rfl, rfl⟩
  go_wp2_with fail
  refine HPL.out.mono ?_
  rintro e w4 ⟨v, rfl, ho, hb4⟩
  obtain ⟨P, cP, rfl, hE, hnc⟩ := ho.form2 HIN.out
  rw [hlen] at hE hnc ⊢
  have HE := Lib.hid hE
  have HB4 := Lib.hid hb4
  have HX4 := Lib.hid (HBX.out.keep (Keeps.of_below hb4))
  clear hE hb4 ho x0 x1
  have hpb := (plan_iff k1 k2 es).2 HRP.out
  have HG := Lib.hid (HGD.out r r0 r3)
  have hrp2 := plan_right HG.out
  rw [hcl] at hrp2
  have hle := plan_least HG.out (es := es) (by rw [hcl]; exact HRP.out)
  obtain ⟨ps, hps⟩ : ∃ ps, ps = planM cs r := ⟨_, rfl⟩
  have hplen : ps.length = N := by rw [hps, HNN.out, ← setsL_len q k1 k2, ← hrp2.sets, List.length_map]
  have HPLN := Lib.hid hplen
  have HPIN := Lib.hid (right_in k1 k2 hrp2)
  have HRP2 := Lib.hid hrp2
  rw [← hps] at HPIN HRP2 hle
  have HPS := Lib.hid hps
  have y0 : w4.cell? ⟨w2.heap.size, 0, none⟩ = some (.slice A q c) := HX4.out 0 _ rfl
  have y1 : w4.cell? ⟨w2.heap.size, 1, none⟩ = some (.int .i64 mm) := HX4.out 1 _ rfl
  have HR := Lib.hid (rRight10_any P N cP q es w4.drew (HE.out.keep (Keeps.of_below (Below.refl _ w4).drew)) (by omega) k1 k2)
  rw [hpb] at HR
  have hz4 := HB4.out.size
  have cb := costE_bd HG.out (by rw [hcl]; exact HRP.out)
  obtain ⟨c1, hc1⟩ : ∃ z, z = costP cs r ps := ⟨_, rfl⟩
  obtain ⟨c2, hc2⟩ : ∃ z, z = costP cs r es := ⟨_, rfl⟩
  rw [← hc1, ← hc2] at hle
  have HC1 := Lib.hid hc1
  have HC2 := Lib.hid hc2
  have hdle : decide (c1 ≤ c2) = true := decide_eq_true hle
  clear hpb hrp2 hps hplen hc1 hc2 cb
  go_wp2_with fail
  refine wp_region_held_drew (S := fun W => W.cell? ⟨w2.heap.size, 0, none⟩ = some (.slice A q c) ∧ W.cell? ⟨w2.heap.size, 1, none⟩ = some (.int .i64 mm)) (by kernel_rfl) ⟨y0, y1⟩ (fun hHeld => ?_)
  refine wpAnyH_take (i := 0) (v := ?va0) rfl (by kernel_rfl) (by kernel_rfl) (by kernel_rfl) (fun _ _ _ h => h) (Or.inl ⟨by rfl, ?ya0⟩) hHeld ?ra0
  case ya0 => (intro W hW; obtain ⟨hW0, hW1⟩ := hW; go_simp; first | done | with_reducible rfl)
  try simp only [List.getElem_toArray, List.getElem_cons_zero, Act.put, List.setIfInBounds_toArray, List.set_cons_zero, List.set_cons_succ]
  refine wpAnyH_take (i := 1) (v := ?va1) rfl (by kernel_rfl) (by kernel_rfl) (by kernel_rfl) (fun _ _ _ h => h) (Or.inl ⟨by rfl, ?ya1⟩) hHeld ?ra1
  case ya1 => (intro W hW; obtain ⟨hW0, hW1⟩ := hW; go_simp; first | done | with_reducible rfl)
  try simp only [List.getElem_toArray, List.getElem_cons_succ, List.getElem_cons_zero, Act.put, List.setIfInBounds_toArray, List.set_cons_zero, List.set_cons_succ]
  refine wpAnyH_take (i := 2) (v := ?va2) rfl (by kernel_rfl) (by kernel_rfl) (by kernel_rfl) (fun _ _ _ h => h) (Or.inl ⟨by rfl, ?ya2⟩) hHeld ?ra2
  case ya2 => (intro W hW; obtain ⟨hW0, hW1⟩ := hW; go_simp; first | done | with_reducible rfl)
  try simp only [List.getElem_toArray, List.getElem_cons_succ, List.getElem_cons_zero, Act.put, List.setIfInBounds_toArray, List.set_cons_zero, List.set_cons_succ]
  refine wpAnyH_take (i := 3) (v := ?va3) rfl (by kernel_rfl) (by kernel_rfl) (by kernel_rfl) (fun _ _ _ h => h) (Or.inl ⟨by rfl, ?ya3⟩) hHeld ?ra3
  case ya3 => (intro W hW; obtain ⟨hW0, hW1⟩ := hW; go_simp; first | done | with_reducible rfl)
  try simp only [List.getElem_toArray, List.getElem_cons_succ, List.getElem_cons_zero, Act.put, List.setIfInBounds_toArray, List.set_cons_zero, List.set_cons_succ]
  refine wpAnyH_ready (rs := [4]) (by kernel_rfl) (by simp) ?_
  refine AllReadyH.cons rfl (fun K hK => ?_) (AllReadyH.nil)
  go_simp
  refine HR.out.mono ?_
  rintro e9 w5 ⟨rfl, hb5⟩
  have k5 := Keeps.of_below hb5
  have HB5 := Lib.hid (HB4.out.drew.trans (hb5.mono hz4))
  have HE5 := Lib.hid (HE.out.keep ((Keeps.of_below (Below.refl _ w4).drew).trans k5))
  clear hb5
  refine hK.out _ _ (⟨k5 _ _ y0, k5 _ _ y1⟩) (fun hHeld => ?_)
  clear hK K
  try simp only [List.getElem_toArray, List.getElem_cons_succ, List.getElem_cons_zero, Act.put, List.setIfInBounds_toArray, List.set_cons_zero, List.set_cons_succ]
  refine wpAnyH_take (i := 5) (v := ?va5) rfl (by kernel_rfl) (by kernel_rfl) (by kernel_rfl) (fun _ _ _ h => h) (Or.inl ⟨by rfl, ?ya5⟩) hHeld ?ra5
  case ya5 => (intro W hW; obtain ⟨hW0, hW1⟩ := hW; go_simp; first | done | with_reducible rfl)
  try simp only [List.getElem_toArray, List.getElem_cons_succ, List.getElem_cons_zero, Act.put, List.setIfInBounds_toArray, List.set_cons_zero, List.set_cons_succ]
  refine wpAnyH_take (i := 6) (v := ?va6) rfl (by kernel_rfl) (by kernel_rfl) (by kernel_rfl) (fun _ _ _ h => h) (Or.inl ⟨by rfl, ?ya6⟩) hHeld ?ra6
  case ya6 => (intro W hW; obtain ⟨hW0, hW1⟩ := hW; go_simp; first | done | with_reducible rfl)
  try simp only [List.getElem_toArray, List.getElem_cons_succ, List.getElem_cons_zero, Act.put, List.setIfInBounds_toArray, List.set_cons_zero, List.set_cons_succ]
  refine wpAnyH_take (i := 7) (v := ?va7) rfl (by kernel_rfl) (by kernel_rfl) (by kernel_rfl) (fun _ _ _ h => h) (Or.inl ⟨by rfl, ?ya7⟩) hHeld ?ra7
  case ya7 => (intro W hW; obtain ⟨hW0, hW1⟩ := hW; go_simp; first | done | with_reducible rfl)
  try simp only [List.getElem_toArray, List.getElem_cons_succ, List.getElem_cons_zero, Act.put, List.setIfInBounds_toArray, List.set_cons_zero, List.set_cons_succ]
  refine wpAnyH_take (i := 8) (v := ?va8) rfl (by kernel_rfl) (by kernel_rfl) (by kernel_rfl) (fun _ _ _ h => h) (Or.inl ⟨by rfl, ?ya8⟩) hHeld ?ra8
  case ya8 => (intro W hW; obtain ⟨hW0, hW1⟩ := hW; go_simp; first | done | with_reducible rfl)
  try simp only [List.getElem_toArray, List.getElem_cons_succ, List.getElem_cons_zero, Act.put, List.setIfInBounds_toArray, List.set_cons_zero, List.set_cons_succ]
  refine wpAnyH_take (i := 9) (v := ?va9) rfl (by kernel_rfl) (by kernel_rfl) (by kernel_rfl) (fun _ _ _ h => h) (Or.inl ⟨by rfl, ?ya9⟩) hHeld ?ra9
  case ya9 => (intro W hW; obtain ⟨hW0, hW1⟩ := hW; go_simp; first | done | with_reducible rfl)
  try simp only [List.getElem_toArray, List.getElem_cons_succ, List.getElem_cons_zero, Act.put, List.setIfInBounds_toArray, List.set_cons_zero, List.set_cons_succ]
  refine wpAnyH_take (i := 12) (v := ?va12) rfl (by kernel_rfl) (by kernel_rfl) (by kernel_rfl) (fun _ _ _ h => h) (Or.inl ⟨by rfl, ?ya12⟩) hHeld ?ra12
  case ya12 => (intro W hW; obtain ⟨hW0, hW1⟩ := hW; go_simp; first | done | with_reducible rfl)
  try simp only [List.getElem_toArray, List.getElem_cons_succ, List.getElem_cons_zero, Act.put, List.setIfInBounds_toArray, List.set_cons_zero, List.set_cons_succ]
  refine wpAnyH_take (i := 13) (v := ?va13) rfl (by kernel_rfl) (by kernel_rfl) (by kernel_rfl) (fun _ _ _ h => h) (Or.inl ⟨by rfl, ?ya13⟩) hHeld ?ra13
  case ya13 => (intro W hW; obtain ⟨hW0, hW1⟩ := hW; go_simp; first | done | with_reducible rfl)
  try simp only [List.getElem_toArray, List.getElem_cons_succ, List.getElem_cons_zero, Act.put, List.setIfInBounds_toArray, List.set_cons_zero, List.set_cons_succ]
  refine wpAnyH_take (i := 14) (v := ?va14) rfl (by kernel_rfl) (by kernel_rfl) (by kernel_rfl) (fun _ _ _ h => h) (Or.inl ⟨by rfl, ?ya14⟩) hHeld ?ra14
  case ya14 => (intro W hW; obtain ⟨hW0, hW1⟩ := hW; go_simp; first | done | with_reducible rfl)
  try simp only [List.getElem_toArray, List.getElem_cons_succ, List.getElem_cons_zero, Act.put, List.setIfInBounds_toArray, List.set_cons_zero, List.set_cons_succ]
  refine wpAnyH_ready (rs := [10]) (by kernel_rfl) (by simp) ?_
  refine AllReadyH.cons rfl (fun K hK => ?_) (AllReadyH.nil)
  go_simp
  refine (rPlan_any A q c mm cs r w5 (HFQ.out r w5 HB5.out r0 r3)).mono ?_
  rintro e9 w6 ⟨v6, rfl, ho6, hb6⟩
  rw [← HPS.out] at ho6
  obtain ⟨P6, c6, rfl, hE6, -⟩ := ho6.form2 HPIN.out
  rw [HPLN.out] at hE6 ⊢
  have HE6 := Lib.hid hE6
  have k6 := Keeps.of_below hb6
  have HB6 := Lib.hid (HB5.out.trans (hb6.mono HB5.out.size))
  have HE56 := Lib.hid (HE5.out.keep k6)
  clear hb6 hE6 ho6
  refine hK.out _ _ (⟨k6 _ _ hHeld.1, k6 _ _ hHeld.2⟩) (fun hHeld => ?_)
  clear hK K
  try simp only [List.getElem_toArray, List.getElem_cons_succ, List.getElem_cons_zero, Act.put, List.setIfInBounds_toArray, List.set_cons_zero, List.set_cons_succ]
  refine wpAnyH_ready (rs := [11]) (by kernel_rfl) (by simp) ?_
  refine AllReadyH.cons rfl (fun K hK => ?_) (AllReadyH.nil)
  go_simp
  refine (rCost_any A q c mm cs r P6 N c6 ps w6 (HFQ.out r w6 HB6.out r0 r3) HE6.out (by omega) HRP2.out).mono ?_
  rintro e9 w7 ⟨rfl, hb7⟩
  rw [← HC1.out]
  have k7 := Keeps.of_below hb7
  have HB7 := Lib.hid (HB6.out.trans (hb7.mono HB6.out.size))
  have HE7 := Lib.hid (HE56.out.keep k7)
  clear hb7
  refine hK.out _ _ (⟨k7 _ _ hHeld.1, k7 _ _ hHeld.2⟩) (fun hHeld => ?_)
  clear hK K
  try simp only [List.getElem_toArray, List.getElem_cons_succ, List.getElem_cons_zero, Act.put, List.setIfInBounds_toArray, List.set_cons_zero, List.set_cons_succ]
  refine wpAnyH_ready (rs := [15]) (by kernel_rfl) (by simp) ?_
  refine AllReadyH.cons rfl (fun K hK => ?_) (AllReadyH.nil)
  go_simp
  refine (rCost_any A q c mm cs r P N cP es w7 (HFQ.out r w7 HB7.out r0 r3) HE7.out (by omega) HRP.out).mono ?_
  rintro e9 w8 ⟨rfl, hb8⟩
  rw [← HC2.out]
  have k8 := Keeps.of_below hb8
  have HB8 := Lib.hid (HB7.out.trans (hb8.mono HB7.out.size))
  clear hb8
  refine hK.out _ _ (⟨k8 _ _ hHeld.1, k8 _ _ hHeld.2⟩) (fun hHeld => ?_)
  clear hK K
  try simp only [List.getElem_toArray, List.getElem_cons_succ, List.getElem_cons_zero, Act.put, List.setIfInBounds_toArray, List.set_cons_zero, List.set_cons_succ]
  refine wpAnyH_take (i := 16) (v := ?va16) rfl (by kernel_rfl) (by kernel_rfl) (by kernel_rfl) (fun _ _ _ h => h) (Or.inl ⟨by rfl, ?ya16⟩) hHeld ?ra16
  case ya16 => (intro W hW; obtain ⟨hW0, hW1⟩ := hW; go_simp; first | done | with_reducible rfl)
  try simp only [List.getElem_toArray, List.getElem_cons_succ, List.getElem_cons_zero, Act.put, List.setIfInBounds_toArray, List.set_cons_zero, List.set_cons_succ]
  refine wpAnyH_take (i := 17) (v := ?va17) rfl (by kernel_rfl) (by kernel_rfl) (by kernel_rfl) (fun _ _ _ h => h) (Or.inl ⟨by rfl, ?ya17⟩) hHeld ?ra17
  case ya17 => (intro W hW; obtain ⟨hW0, hW1⟩ := hW; go_simp; first | done | with_reducible rfl)
  try simp only [List.getElem_toArray, List.getElem_cons_succ, List.getElem_cons_zero, Act.put, List.setIfInBounds_toArray, List.set_cons_zero, List.set_cons_succ]
  refine wpAnyH_take (i := 18) (v := ?va18) rfl (by kernel_rfl) (by kernel_rfl) (by kernel_rfl) (fun _ _ _ h => h) (Or.inl ⟨by rfl, ?ya18⟩) hHeld ?ra18
  case ya18 => (intro W hW; obtain ⟨hW0, hW1⟩ := hW; go_simp; first | done | with_reducible rfl)
  try simp only [List.getElem_toArray, List.getElem_cons_succ, List.getElem_cons_zero, Act.put, List.setIfInBounds_toArray, List.set_cons_zero, List.set_cons_succ]
  refine wpAnyH_done (by kernel_rfl) ?_ _
  go_wp2
  go_ret
  exact ⟨rfl, HB3.out.trans (HB8.out.mono HB3.out.size)⟩
end Go.Proofs.YtjllmladhjbnaaaDoor
