/- The law SortsLeast. -/
import Derived.Test.YtbmdiiifhccebaaGreatDoorKn10
import Derived.Test.YtbmdiiifhccebaaGreatDoorL8
import Derived.Test.YtbmdiiifhccebaaGreatDoorRegion
import Derived.Test.YtbmdiiifhccebaaGreatDoorRegP
import Derived.IntWalk
import Derived.Test.YtbmdiiifhccebaaGreatDoorRcost
import Derived.Test.YtbmdiiifhccebaaGreatDoorOth
namespace Go.Proofs.YtbmdiiifhccebaaGreatDoor
open Go.RowKit Go.Shelf
attribute [local go_sem] Oper.semAt_some
theorem costB_right {cs : List Int} {n : Int} {es : List Ed} (d1 : 1 ≤ cs.length) (d4 : cs.length ≤ 4) (h : RightP cs.length es) : costB cs n es = costP cs n es := by
  unfold costB
  rw [if_pos ((plan_iff d1 d4 es).2 h)]
set_option maxRecDepth 100000 in
set_option maxHeartbeats 8000000 in
theorem sortsLeast_walk (a0 : Int) (a1 : Option Addr) (len1 cap1 : Nat) (z1 : List Int) (a2 : Int) (a3 : Option Addr) (len3 cap3 : Nat) (z3 : List Int) (w : World) (h0 : inK .i64 a0) (w1 : IsRow .i64 w a1 len1 cap1 z1) (h2 : inK .i64 a2) (w3 : IsRow .i64 w a3 len3 cap3 z3) (hT : Tab w) (hw1 : 1 < w.heap.size) :
    Calls Tryz.prog 4 #[.int .i64 a0, .slice a1 len1 cap1, .int .i64 a2, .slice a3 len3 cap3] w fun e w' => e = .returned (.bool true) ∧ Below w.heap.size w w' := by
  obtain ⟨n1, lc1, cm1⟩ := w1.nums
  obtain ⟨n3, lc3, cm3⟩ := w3.nums
  have N3 := Lib.hid n3
  clear w3 n3
  have N1 := Lib.hid n1
  have HKn := Lib.hid (known10_any w hT hw1)
  have HT := Lib.hid hT
  clear w1 n1 hT
  go_enter Tryz.func4, Tryz.ntmps4
  go_wp2_with fail
  refine HKn.out.mono ?_
  rintro e w1 ⟨rfl, hb1⟩
  have Hb1 := Lib.hid hb1
  clear hb1 HKn
  go_wp2_with fail
  refine (Facts_res a0 0 a1 none len1 cap1 0 0 _ [] w1 (N1.out.keep (Keeps.of_below Hb1.out)) (Nums.nil _ _ _) (by omega) (by omega) h0 (by constructor <;> omega)).mono ?_
  rintro e w2 ⟨A, c, D, d, C, q, mm, m, cs, l, rfl, hF⟩
  obtain ⟨k1, k2, k3⟩ : 1 ≤ q ∧ q ≤ 4 ∧ mm ≤ 2 := ⟨hF.q1, hF.q4, hF.m2⟩
  have hb2 : Below w.heap.size w w2 := Hb1.out.trans (hF.below.mono Hb1.out.size)
  have hck : checkB cs (mm : Int) = true := by rw [hF.ecs, hF.emm]; exact fCards_check _ _ _
  have hcl := hF.eq
  obtain ⟨W3, hW3⟩ : ∃ W3, W3 = w2.alloc (.cells #[.slice A q c, .int .i64 mm] 25) := ⟨_, rfl⟩
  have hb3 : Below w.heap.size w W3 := by rw [hW3]; exact hb2.alloc hb2.size _
  have hbx : Bx W3 w2.heap.size #[.slice A q c, .int .i64 mm] := by rw [hW3]; exact Bx.new _ _ _
  have hnq : Nums .i64 W3 A q cs := by rw [hW3]; exact hF.nums.keep (Keeps.of_below (below_box w2 _))
  have HFQ := Lib.hid (fun (n : Int) (W : World) (hb : Below W3.heap.size W3 W) (n0 : 0 ≤ n) (n3 : n ≤ 300) => (⟨hnq.keep (Keeps.of_below hb), k1, k2, k3, hF.c16, n0, n3, HT.out.below (hb3.trans (hb.mono hb3.size)) hw1, by have := hb3.size; have := hb.size; omega⟩ : FQ W A q mm cs n))
  have HGD := Lib.hid (fun (n : Int) (n0 : 0 ≤ n) (n3 : n ≤ 300) => (⟨hF.c16, by omega, by omega, n0, n3⟩ : Good cs n))
  have HNQ := Lib.hid hnq
  have HCK := Lib.hid hck
  have HB3 := Lib.hid hb3
  have HBX := Lib.hid hbx
  have HW3 := Lib.hid hW3
  have hg3 : w2.heap.size < W3.heap.size := block_lt (hbx 0 _ rfl)
  clear hF hnq hb3 hb2 hbx hck hW3
  obtain ⟨n, hn⟩ : ∃ n, n = a2 % 301 := ⟨_, rfl⟩
  have HWI := Lib.hid (lwithin10 a2 301 W3 h2 (by omega) (by omega))
  rw [← hn] at HWI
  have r0 : 0 ≤ n := by omega
  have r3 : n ≤ 300 := by omega
  have x0 : W3.cell? ⟨w2.heap.size, 0, none⟩ = some (.slice A q c) := HBX.out 0 _ rfl
  have x1 : W3.cell? ⟨w2.heap.size, 1, none⟩ = some (.int .i64 mm) := HBX.out 1 _ rfl
  have hg := HGD.out n r0 r3
  have hrp := plan_right hg
  have hro := oth_right q k1 k2 (z3.take len3)
  have hle := plan_least hg (es := othM q (z3.take len3)) (by rw [hcl]; exact hro)
  have hcp := costB_right (n := n) (by omega) (by omega) hrp
  have hco := costB_right (cs := cs) (n := n) (es := othM q (z3.take len3)) (by omega) (by omega) (by rw [hcl]; exact hro)
  have hpb := (plan_iff k1 k2 _).2 hro
  have HPL := Lib.hid (plan_any A q c mm cs n W3.drew (HFQ.out n _ (Below.refl _ W3).drew r0 r3) HCK.out)
  rw [hcl] at hrp
  obtain ⟨es, hes⟩ : ∃ es, es = planM cs n := ⟨_, rfl⟩
  rw [← hes] at HPL hrp hle hcp
  have HOT := Lib.hid (fun W hW => other_any q a3 len3 cap3 (z3.take len3) W hW k1 k2)
  obtain ⟨os, hos⟩ : ∃ os, os = othM q (z3.take len3) := ⟨_, rfl⟩
  rw [← hos] at HOT hro hle hco hpb
  have he16 : es.length ≤ 1000 := by
    have : es.length = 2 ^ q := by rw [← setsL_len q k1 k2, ← hrp.sets, List.length_map]
    rw [this]; have := (pow_16 q k2).1; omega
  have ho16 : os.length ≤ 1000 := by
    have : os.length = 2 ^ q := by rw [← setsL_len q k1 k2, ← hro.sets, List.length_map]
    rw [this]; have := (pow_16 q k2).1; omega
  have HI1 := Lib.hid (right_in k1 k2 hrp)
  have HI2 := Lib.hid (right_in k1 k2 hro)
  have HRO := Lib.hid hro
  obtain ⟨cp, hcpe⟩ : ∃ cp, cp = costP cs n es := ⟨_, rfl⟩
  obtain ⟨co, hcoe⟩ : ∃ co, co = costP cs n os := ⟨_, rfl⟩
  rw [← hcpe, ← hcoe] at hle
  rw [← hcpe] at hcp
  rw [← hcoe] at hco
  have HCP := Lib.hid hcp
  have HCO := Lib.hid hco
  have HPB := Lib.hid hpb
  have HCOE := Lib.hid hcoe
  clear hn hg hrp hro hcp hco hpb hes hos hcpe hcoe
  go_wp2_with fail
  rw [← HW3.out]
  refine HWI.out.mono ?_
  rintro e w' ⟨rfl, rfl⟩
  go_wp2_with fail
  refine wp_region_held_drew (S := fun W => W.cell? ⟨w2.heap.size, 0, none⟩ = some (.slice A q c) ∧ W.cell? ⟨w2.heap.size, 1, none⟩ = some (.int .i64 mm)) (by kernel_rfl) ⟨x0, x1⟩ (fun hHeld => ?_)
  refine wpAnyH_take (i := 0) (v := ?va0) rfl (by kernel_rfl) (by kernel_rfl) (by kernel_rfl) (fun _ _ _ h => h) (Or.inl ⟨by rfl, ?ya0⟩) hHeld ?ra0
  case ya0 => (intro W hW; obtain ⟨hW0, hW1⟩ := hW; go_simp; first | done | with_reducible rfl)
  try simp only [List.getElem_toArray, List.getElem_cons_zero, Act.put, List.setIfInBounds_toArray, List.set_cons_zero, List.set_cons_succ]
  refine wpAnyH_take (i := 1) (v := ?va1) rfl (by kernel_rfl) (by kernel_rfl) (by kernel_rfl) (fun _ _ _ h => h) (Or.inl ⟨by rfl, ?ya1⟩) hHeld ?ra1
  case ya1 => (intro W hW; obtain ⟨hW0, hW1⟩ := hW; go_simp; first | done | with_reducible rfl)
  try simp only [List.getElem_toArray, List.getElem_cons_succ, List.getElem_cons_zero, Act.put, List.setIfInBounds_toArray, List.set_cons_zero, List.set_cons_succ]
  refine wpAnyH_take (i := 3) (v := ?va3) rfl (by kernel_rfl) (by kernel_rfl) (by kernel_rfl) (fun _ _ _ h => h) (Or.inl ⟨by rfl, ?ya3⟩) hHeld ?ra3
  case ya3 => (intro W hW; obtain ⟨hW0, hW1⟩ := hW; go_simp; first | done | with_reducible rfl)
  try simp only [List.getElem_toArray, List.getElem_cons_succ, List.getElem_cons_zero, Act.put, List.setIfInBounds_toArray, List.set_cons_zero, List.set_cons_succ]
  refine wpAnyH_take (i := 4) (v := ?va4) rfl (by kernel_rfl) (by kernel_rfl) (by kernel_rfl) (fun _ _ _ h => h) (Or.inl ⟨by rfl, ?ya4⟩) hHeld ?ra4
  case ya4 => (intro W hW; obtain ⟨hW0, hW1⟩ := hW; go_simp; first | done | with_reducible rfl)
  try simp only [List.getElem_toArray, List.getElem_cons_succ, List.getElem_cons_zero, Act.put, List.setIfInBounds_toArray, List.set_cons_zero, List.set_cons_succ]
  refine wpAnyH_take (i := 5) (v := ?va5) rfl (by kernel_rfl) (by kernel_rfl) (by kernel_rfl) (fun _ _ _ h => h) (Or.inl ⟨by rfl, ?ya5⟩) hHeld ?ra5
  case ya5 => (intro W hW; obtain ⟨hW0, hW1⟩ := hW; go_simp; first | done | with_reducible rfl)
  try simp only [List.getElem_toArray, List.getElem_cons_succ, List.getElem_cons_zero, Act.put, List.setIfInBounds_toArray, List.set_cons_zero, List.set_cons_succ]
  refine wpAnyH_take (i := 6) (v := ?va6) rfl (by kernel_rfl) (by kernel_rfl) (by kernel_rfl) (fun _ _ _ h => h) (Or.inl ⟨by rfl, ?ya6⟩) hHeld ?ra6
  case ya6 => (intro W hW; obtain ⟨hW0, hW1⟩ := hW; go_simp; first | done | with_reducible rfl)
  try simp only [List.getElem_toArray, List.getElem_cons_succ, List.getElem_cons_zero, Act.put, List.setIfInBounds_toArray, List.set_cons_zero, List.set_cons_succ]
  refine wpAnyH_ready (rs := [2]) (by kernel_rfl) (by simp) ?_
  refine AllReadyH.cons rfl (fun K hK => ?_) (AllReadyH.nil)
  go_simp
  refine HPL.out.mono ?_
  rintro e w4 ⟨v1, rfl, ho1, hb4⟩
  have k4 := Keeps.of_below hb4
  have HB4 := Lib.hid ((Below.refl W3.heap.size W3).drew.trans (hb4.mono (Nat.le_refl _)))
  have HO1 := Lib.hid ho1
  clear hb4 ho1
  refine hK.out _ _ (⟨k4 _ _ x0, k4 _ _ x1⟩) (fun hHeld => ?_)
  clear hK K
  try simp only [List.getElem_toArray, List.getElem_cons_succ, List.getElem_cons_zero, Act.put, List.setIfInBounds_toArray, List.set_cons_zero, List.set_cons_succ]
  refine wpAnyH_ready (rs := [7]) (by kernel_rfl) (by simp) ?_
  refine AllReadyH.cons rfl (fun K hK => ?_) (AllReadyH.nil)
  go_simp
  refine (HOT.out w4 (N3.out.keep (Keeps.of_below (HB3.out.trans (HB4.out.mono HB3.out.size))))).mono ?_
  rintro e w5 ⟨v2, rfl, ho2, hb5⟩
  have k5 := Keeps.of_below hb5
  have HB5 := Lib.hid (HB4.out.trans (hb5.mono HB4.out.size))
  have HO1' := Lib.hid (HO1.out.below hb5)
  have HO2 := Lib.hid ho2
  clear hb5 ho2
  refine hK.out _ _ (⟨k5 _ _ hHeld.1, k5 _ _ hHeld.2⟩) (fun hHeld => ?_)
  clear hK K
  try simp only [List.getElem_toArray, List.getElem_cons_succ, List.getElem_cons_zero, Act.put, List.setIfInBounds_toArray, List.set_cons_zero, List.set_cons_succ]
  refine wpAnyH_take (i := 8) (v := ?va8) rfl (by kernel_rfl) (by kernel_rfl) (by kernel_rfl) (fun _ _ _ h => h) (Or.inl ⟨by rfl, ?ya8⟩) hHeld ?ra8
  case ya8 => (intro W hW; obtain ⟨hW0, hW1⟩ := hW; go_simp; first | done | with_reducible rfl)
  try simp only [List.getElem_toArray, List.getElem_cons_succ, List.getElem_cons_zero, Act.put, List.setIfInBounds_toArray, List.set_cons_zero, List.set_cons_succ]
  refine wpAnyH_take (i := 9) (v := ?va9) rfl (by kernel_rfl) (by kernel_rfl) (by kernel_rfl) (fun _ _ _ h => h) (Or.inl ⟨by rfl, ?ya9⟩) hHeld ?ra9
  case ya9 => (intro W hW; obtain ⟨hW0, hW1⟩ := hW; go_simp; first | done | with_reducible rfl)
  try simp only [List.getElem_toArray, List.getElem_cons_succ, List.getElem_cons_zero, Act.put, List.setIfInBounds_toArray, List.set_cons_zero, List.set_cons_succ]
  refine wpAnyH_done (by kernel_rfl) ?_ _
  obtain ⟨P1, c1, rfl, hE1, hc1⟩ := HO1'.out.form2 HI1.out
  obtain ⟨P2, c2, rfl, hE2, hc2⟩ := HO2.out.form2 HI2.out
  obtain ⟨N1', hN1⟩ : ∃ N, N = es.length := ⟨_, rfl⟩
  obtain ⟨N2', hN2⟩ : ∃ N, N = os.length := ⟨_, rfl⟩
  rw [← hN1] at hE1 hc1 he16 ⊢
  rw [← hN2] at hE2 hc2 ho16 ⊢
  have HE1 := Lib.hid hE1
  have HE2 := Lib.hid hE2
  have y0 := hHeld.1
  have y1 := hHeld.2
  have hf5 := HFQ.out n w5.drew HB5.out.drew r0 r3
  have HR := Lib.hid (right_any P2 N2' c2 q os w5.drew (hE2.keep (Keeps.of_below (Below.refl _ w5).drew)) hc2 ho16 k1 k2 hf5.tab hf5.w1)
  rw [HPB.out] at HR
  clear hE1 hE2 hN1 hN2 hHeld hf5
  clear k5 hHeld
  try clear hHeld
  go_wp2_with fail
  refine wp_region_held_drew (S := fun W => W.cell? ⟨w2.heap.size, 0, none⟩ = some (.slice A q c) ∧ W.cell? ⟨w2.heap.size, 1, none⟩ = some (.int .i64 mm)) (by kernel_rfl) ⟨y0, y1⟩ (fun hHeld => ?_)
  refine wpAnyH_take (i := 0) (v := ?vb0) rfl (by kernel_rfl) (by kernel_rfl) (by kernel_rfl) (fun _ _ _ h => h) (Or.inl ⟨by rfl, ?yb0⟩) hHeld ?rb0
  case yb0 => (intro W hW; obtain ⟨hW0, hW1⟩ := hW; go_simp; first | done | with_reducible rfl)
  try simp only [List.getElem_toArray, List.getElem_cons_zero, Act.put, List.setIfInBounds_toArray, List.set_cons_zero, List.set_cons_succ]
  refine wpAnyH_take (i := 1) (v := ?vb1) rfl (by kernel_rfl) (by kernel_rfl) (by kernel_rfl) (fun _ _ _ h => h) (Or.inl ⟨by rfl, ?yb1⟩) hHeld ?rb1
  case yb1 => (intro W hW; obtain ⟨hW0, hW1⟩ := hW; go_simp; first | done | with_reducible rfl)
  try simp only [List.getElem_toArray, List.getElem_cons_succ, List.getElem_cons_zero, Act.put, List.setIfInBounds_toArray, List.set_cons_zero, List.set_cons_succ]
  refine wpAnyH_take (i := 2) (v := ?vb2) rfl (by kernel_rfl) (by kernel_rfl) (by kernel_rfl) (fun _ _ _ h => h) (Or.inl ⟨by rfl, ?yb2⟩) hHeld ?rb2
  case yb2 => (intro W hW; obtain ⟨hW0, hW1⟩ := hW; go_simp; first | done | with_reducible rfl)
  try simp only [List.getElem_toArray, List.getElem_cons_succ, List.getElem_cons_zero, Act.put, List.setIfInBounds_toArray, List.set_cons_zero, List.set_cons_succ]
  refine wpAnyH_take (i := 3) (v := ?vb3) rfl (by kernel_rfl) (by kernel_rfl) (by kernel_rfl) (fun _ _ _ h => h) (Or.inl ⟨by rfl, ?yb3⟩) hHeld ?rb3
  case yb3 => (intro W hW; obtain ⟨hW0, hW1⟩ := hW; go_simp; first | done | with_reducible rfl)
  try simp only [List.getElem_toArray, List.getElem_cons_succ, List.getElem_cons_zero, Act.put, List.setIfInBounds_toArray, List.set_cons_zero, List.set_cons_succ]
  refine wpAnyH_ready (rs := [4]) (by kernel_rfl) (by simp) ?_
  refine AllReadyH.cons rfl (fun K hK => ?_) (AllReadyH.nil)
  go_simp
  refine HR.out.mono ?_
  rintro e w6 ⟨rfl, hb6⟩
  have k6 := Keeps.of_below hb6
  have hb56 := (HB5.out.drew).trans (hb6.mono HB5.out.size)
  have HB6 := Lib.hid hb56
  have HE16 := Lib.hid (HE1.out.keep k6)
  have HE26 := Lib.hid (HE2.out.keep k6)
  clear hb6 hb56
  refine hK.out _ _ (⟨k6 _ _ y0, k6 _ _ y1⟩) (fun hHeld => ?_)
  clear hK K
  try simp only [List.getElem_toArray, List.getElem_cons_succ, List.getElem_cons_zero, Act.put, List.setIfInBounds_toArray, List.set_cons_zero, List.set_cons_succ]
  refine wpAnyH_take (i := 5) (v := ?vb5) rfl (by kernel_rfl) (by kernel_rfl) (by kernel_rfl) (fun _ _ _ h => h) (Or.inl ⟨by rfl, ?yb5⟩) hHeld ?rb5
  case yb5 => (intro W hW; obtain ⟨hW0, hW1⟩ := hW; go_simp; first | done | with_reducible rfl)
  try simp only [List.getElem_toArray, List.getElem_cons_succ, List.getElem_cons_zero, Act.put, List.setIfInBounds_toArray, List.set_cons_zero, List.set_cons_succ]
  refine wpAnyH_take (i := 6) (v := ?vb6) rfl (by kernel_rfl) (by kernel_rfl) (by kernel_rfl) (fun _ _ _ h => h) (Or.inl ⟨by rfl, ?yb6⟩) hHeld ?rb6
  case yb6 => (intro W hW; obtain ⟨hW0, hW1⟩ := hW; go_simp; first | done | with_reducible rfl)
  try simp only [List.getElem_toArray, List.getElem_cons_succ, List.getElem_cons_zero, Act.put, List.setIfInBounds_toArray, List.set_cons_zero, List.set_cons_succ]
  refine wpAnyH_take (i := 7) (v := ?vb7) rfl (by kernel_rfl) (by kernel_rfl) (by kernel_rfl) (fun _ _ _ h => h) (Or.inl ⟨by rfl, ?yb7⟩) hHeld ?rb7
  case yb7 => (intro W hW; obtain ⟨hW0, hW1⟩ := hW; go_simp; first | done | with_reducible rfl)
  try simp only [List.getElem_toArray, List.getElem_cons_succ, List.getElem_cons_zero, Act.put, List.setIfInBounds_toArray, List.set_cons_zero, List.set_cons_succ]
  refine wpAnyH_take (i := 8) (v := ?vb8) rfl (by kernel_rfl) (by kernel_rfl) (by kernel_rfl) (fun _ _ _ h => h) (Or.inl ⟨by rfl, ?yb8⟩) hHeld ?rb8
  case yb8 => (intro W hW; obtain ⟨hW0, hW1⟩ := hW; go_simp; first | done | with_reducible rfl)
  try simp only [List.getElem_toArray, List.getElem_cons_succ, List.getElem_cons_zero, Act.put, List.setIfInBounds_toArray, List.set_cons_zero, List.set_cons_succ]
  refine wpAnyH_take (i := 10) (v := ?vb10) rfl (by kernel_rfl) (by kernel_rfl) (by kernel_rfl) (fun _ _ _ h => h) (Or.inl ⟨by rfl, ?yb10⟩) hHeld ?rb10
  case yb10 => (intro W hW; obtain ⟨hW0, hW1⟩ := hW; go_simp; first | done | with_reducible rfl)
  try simp only [List.getElem_toArray, List.getElem_cons_succ, List.getElem_cons_zero, Act.put, List.setIfInBounds_toArray, List.set_cons_zero, List.set_cons_succ]
  refine wpAnyH_take (i := 11) (v := ?vb11) rfl (by kernel_rfl) (by kernel_rfl) (by kernel_rfl) (fun _ _ _ h => h) (Or.inl ⟨by rfl, ?yb11⟩) hHeld ?rb11
  case yb11 => (intro W hW; obtain ⟨hW0, hW1⟩ := hW; go_simp; first | done | with_reducible rfl)
  try simp only [List.getElem_toArray, List.getElem_cons_succ, List.getElem_cons_zero, Act.put, List.setIfInBounds_toArray, List.set_cons_zero, List.set_cons_succ]
  refine wpAnyH_take (i := 12) (v := ?vb12) rfl (by kernel_rfl) (by kernel_rfl) (by kernel_rfl) (fun _ _ _ h => h) (Or.inl ⟨by rfl, ?yb12⟩) hHeld ?rb12
  case yb12 => (intro W hW; obtain ⟨hW0, hW1⟩ := hW; go_simp; first | done | with_reducible rfl)
  try simp only [List.getElem_toArray, List.getElem_cons_succ, List.getElem_cons_zero, Act.put, List.setIfInBounds_toArray, List.set_cons_zero, List.set_cons_succ]
  refine wpAnyH_ready (rs := [9]) (by kernel_rfl) (by simp) ?_
  refine AllReadyH.cons rfl (fun K hK => ?_) (AllReadyH.nil)
  go_simp
  refine (cost_any A q c mm cs n P1 N1' c1 es w6 (HFQ.out n w6 HB6.out r0 r3) HCK.out HE16.out hc1 he16).mono ?_
  rintro e w7 ⟨rfl, hb7⟩
  rw [HCP.out]
  have k7 := Keeps.of_below hb7
  have HB7 := Lib.hid (HB6.out.trans (hb7.mono HB6.out.size))
  have HE27 := Lib.hid (HE26.out.keep k7)
  clear hb7
  refine hK.out _ _ (⟨k7 _ _ hHeld.1, k7 _ _ hHeld.2⟩) (fun hHeld => ?_)
  clear hK K
  try simp only [List.getElem_toArray, List.getElem_cons_succ, List.getElem_cons_zero, Act.put, List.setIfInBounds_toArray, List.set_cons_zero, List.set_cons_succ]
  refine wpAnyH_ready (rs := [13]) (by kernel_rfl) (by simp) ?_
  refine AllReadyH.cons rfl (fun K hK => ?_) (AllReadyH.nil)
  go_simp
  refine (cost_any A q c mm cs n P2 N2' c2 os w7 (HFQ.out n w7 HB7.out r0 r3) HCK.out HE27.out hc2 ho16).mono ?_
  rintro e w8 ⟨rfl, hb8⟩
  rw [HCO.out]
  have k8 := Keeps.of_below hb8
  have HB8 := Lib.hid (HB7.out.trans (hb8.mono HB7.out.size))
  have HE28 := Lib.hid (HE27.out.keep k8)
  clear hb8
  refine hK.out _ _ (⟨k8 _ _ hHeld.1, k8 _ _ hHeld.2⟩) (fun hHeld => ?_)
  clear hK K
  try simp only [List.getElem_toArray, List.getElem_cons_succ, List.getElem_cons_zero, Act.put, List.setIfInBounds_toArray, List.set_cons_zero, List.set_cons_succ]
  have hled : decide (cp ≤ co) = true := decide_eq_true hle
  refine wpAnyH_take (i := 14) (v := ?vb14) rfl (by kernel_rfl) (by kernel_rfl) (by kernel_rfl) (fun _ _ _ h => h) (Or.inl ⟨by rfl, ?yb14⟩) hHeld ?rb14
  case yb14 => (intro W hW; obtain ⟨hW0, hW1⟩ := hW; go_simp; first | done | with_reducible rfl)
  try simp only [List.getElem_toArray, List.getElem_cons_succ, List.getElem_cons_zero, Act.put, List.setIfInBounds_toArray, List.set_cons_zero, List.set_cons_succ]
  refine wpAnyH_take (i := 15) (v := ?vb15) rfl (by kernel_rfl) (by kernel_rfl) (by kernel_rfl) (fun _ _ _ h => h) (Or.inl ⟨by rfl, ?yb15⟩) hHeld ?rb15
  case yb15 => (intro W hW; obtain ⟨hW0, hW1⟩ := hW; go_simp; first | done | with_reducible rfl)
  try simp only [List.getElem_toArray, List.getElem_cons_succ, List.getElem_cons_zero, Act.put, List.setIfInBounds_toArray, List.set_cons_zero, List.set_cons_succ]
  refine wpAnyH_take (i := 16) (v := ?vb16) rfl (by kernel_rfl) (by kernel_rfl) (by kernel_rfl) (fun _ _ _ h => h) (Or.inl ⟨by rfl, ?yb16⟩) hHeld ?rb16
  case yb16 => (intro W hW; obtain ⟨hW0, hW1⟩ := hW; go_simp; first | done | with_reducible rfl)
  try simp only [List.getElem_toArray, List.getElem_cons_succ, List.getElem_cons_zero, Act.put, List.setIfInBounds_toArray, List.set_cons_zero, List.set_cons_succ]
  refine wpAnyH_take (i := 17) (v := ?vb17) rfl (by kernel_rfl) (by kernel_rfl) (by kernel_rfl) (fun _ _ _ h => h) (Or.inl ⟨by rfl, ?yb17⟩) hHeld ?rb17
  case yb17 => (intro W hW; obtain ⟨hW0, hW1⟩ := hW; go_simp; first | done | with_reducible rfl)
  try simp only [List.getElem_toArray, List.getElem_cons_succ, List.getElem_cons_zero, Act.put, List.setIfInBounds_toArray, List.set_cons_zero, List.set_cons_succ]
  refine wpAnyH_take (i := 18) (v := ?vb18) rfl (by kernel_rfl) (by kernel_rfl) (by kernel_rfl) (fun _ _ _ h => h) (Or.inl ⟨by rfl, ?yb18⟩) hHeld ?rb18
  case yb18 => (intro W hW; obtain ⟨hW0, hW1⟩ := hW; go_simp; first | done | with_reducible rfl)
  try simp only [List.getElem_toArray, List.getElem_cons_succ, List.getElem_cons_zero, Act.put, List.setIfInBounds_toArray, List.set_cons_zero, List.set_cons_succ]
  refine wpAnyH_take (i := 19) (v := ?vb19) rfl (by kernel_rfl) (by kernel_rfl) (by kernel_rfl) (fun _ _ _ h => h) (Or.inl ⟨by rfl, ?yb19⟩) hHeld ?rb19
  case yb19 => (intro W hW; obtain ⟨hW0, hW1⟩ := hW; go_simp; first | done | with_reducible rfl)
  try simp only [List.getElem_toArray, List.getElem_cons_succ, List.getElem_cons_zero, Act.put, List.setIfInBounds_toArray, List.set_cons_zero, List.set_cons_succ]
  refine wpAnyH_take (i := 21) (v := ?vb21) rfl (by kernel_rfl) (by kernel_rfl) (by kernel_rfl) (fun _ _ _ h => h) (Or.inl ⟨by rfl, ?yb21⟩) hHeld ?rb21
  case yb21 => (intro W hW; obtain ⟨hW0, hW1⟩ := hW; go_simp; first | done | with_reducible rfl)
  try simp only [List.getElem_toArray, List.getElem_cons_succ, List.getElem_cons_zero, Act.put, List.setIfInBounds_toArray, List.set_cons_zero, List.set_cons_succ]
  refine wpAnyH_take (i := 22) (v := ?vb22) rfl (by kernel_rfl) (by kernel_rfl) (by kernel_rfl) (fun _ _ _ h => h) (Or.inl ⟨by rfl, ?yb22⟩) hHeld ?rb22
  case yb22 => (intro W hW; obtain ⟨hW0, hW1⟩ := hW; go_simp; first | done | with_reducible rfl)
  try simp only [List.getElem_toArray, List.getElem_cons_succ, List.getElem_cons_zero, Act.put, List.setIfInBounds_toArray, List.set_cons_zero, List.set_cons_succ]
  refine wpAnyH_take (i := 23) (v := ?vb23) rfl (by kernel_rfl) (by kernel_rfl) (by kernel_rfl) (fun _ _ _ h => h) (Or.inl ⟨by rfl, ?yb23⟩) hHeld ?rb23
  case yb23 => (intro W hW; obtain ⟨hW0, hW1⟩ := hW; go_simp; first | done | with_reducible rfl)
  try simp only [List.getElem_toArray, List.getElem_cons_succ, List.getElem_cons_zero, Act.put, List.setIfInBounds_toArray, List.set_cons_zero, List.set_cons_succ]
  refine wpAnyH_ready (rs := [20]) (by kernel_rfl) (by simp) ?_
  refine AllReadyH.cons rfl (fun K hK => ?_) (AllReadyH.nil)
  go_simp
  refine (cost_any A q c mm cs n P2 N2' c2 os w8 (HFQ.out n w8 HB8.out r0 r3) HCK.out HE28.out hc2 ho16).mono ?_
  rintro e w9 ⟨rfl, hb9⟩
  rw [HCO.out]
  have k9 := Keeps.of_below hb9
  have HB9 := Lib.hid (HB8.out.trans (hb9.mono HB8.out.size))
  have HE29 := Lib.hid (HE28.out.keep k9)
  clear hb9
  refine hK.out _ _ (⟨k9 _ _ hHeld.1, k9 _ _ hHeld.2⟩) (fun hHeld => ?_)
  clear hK K
  try simp only [List.getElem_toArray, List.getElem_cons_succ, List.getElem_cons_zero, Act.put, List.setIfInBounds_toArray, List.set_cons_zero, List.set_cons_succ]
  refine wpAnyH_ready (rs := [24]) (by kernel_rfl) (by simp) ?_
  refine AllReadyH.cons rfl (fun K hK => ?_) (AllReadyH.nil)
  go_simp
  refine (rCost_any A q c mm cs n P2 N2' c2 os w9 (HFQ.out n w9 HB9.out r0 r3) HE29.out ho16 HRO.out).mono ?_
  rintro e wA ⟨rfl, hbA⟩
  rw [← HCOE.out]
  have kA := Keeps.of_below hbA
  have HBA := Lib.hid (HB9.out.trans (hbA.mono HB9.out.size))
  clear hbA
  refine hK.out _ _ (⟨kA _ _ hHeld.1, kA _ _ hHeld.2⟩) (fun hHeld => ?_)
  clear hK K
  try simp only [List.getElem_toArray, List.getElem_cons_succ, List.getElem_cons_zero, Act.put, List.setIfInBounds_toArray, List.set_cons_zero, List.set_cons_succ]
  refine wpAnyH_take (i := 25) (v := ?vb25) rfl (by kernel_rfl) (by kernel_rfl) (by kernel_rfl) (fun _ _ _ h => h) (Or.inl ⟨by rfl, ?yb25⟩) hHeld ?rb25
  case yb25 => (intro W hW; obtain ⟨hW0, hW1⟩ := hW; go_simp; first | done | with_reducible rfl)
  try simp only [List.getElem_toArray, List.getElem_cons_succ, List.getElem_cons_zero, Act.put, List.setIfInBounds_toArray, List.set_cons_zero, List.set_cons_succ]
  refine wpAnyH_take (i := 26) (v := ?vb26) rfl (by kernel_rfl) (by kernel_rfl) (by kernel_rfl) (fun _ _ _ h => h) (Or.inl ⟨by rfl, ?yb26⟩) hHeld ?rb26
  case yb26 => (intro W hW; obtain ⟨hW0, hW1⟩ := hW; go_simp; first | done | with_reducible rfl)
  try simp only [List.getElem_toArray, List.getElem_cons_succ, List.getElem_cons_zero, Act.put, List.setIfInBounds_toArray, List.set_cons_zero, List.set_cons_succ]
  refine wpAnyH_take (i := 27) (v := ?vb27) rfl (by kernel_rfl) (by kernel_rfl) (by kernel_rfl) (fun _ _ _ h => h) (Or.inl ⟨by rfl, ?yb27⟩) hHeld ?rb27
  case yb27 => (intro W hW; obtain ⟨hW0, hW1⟩ := hW; go_simp; first | done | with_reducible rfl)
  try simp only [List.getElem_toArray, List.getElem_cons_succ, List.getElem_cons_zero, Act.put, List.setIfInBounds_toArray, List.set_cons_zero, List.set_cons_succ]
  refine wpAnyH_done (by kernel_rfl) ?_ _
  go_wp2
  go_ret
  exact ⟨by simp, HB3.out.trans (HBA.out.mono HB3.out.size)⟩
end Go.Proofs.YtbmdiiifhccebaaGreatDoor
