/- The law LatticeCosts. -/
import Derived.Test.YtaopanclnaimpaaDoorL8
import Derived.IntWalk
import Derived.Test.YtaopanclnaimpaaDoorRlat
namespace Go.Proofs.YtaopanclnaimpaaDoor
open Go.RowKit Go.Shelf
attribute [local go_sem] Oper.semAt_some
theorem cost_facts {cs : List Int} {n k : Int} (h1 : 0 ≤ sizeB cs n k) (h2 : sizeB cs n k ≤ 300) : 0 ≤ sortB cs n k ∧ sortB cs n k ≤ 10 * sizeB cs n k ∧ (0 < sizeB cs n k → sortB cs n k % sizeB cs n k = 0 ∧ 2 ≤ sortB cs n k / sizeB cs n k) := by
  unfold sortB
  generalize sizeB cs n k = s at *
  have hl := bitLen_300 ⟨s.toNat, by omega⟩
  dsimp only at hl
  have hp : 0 < s → 1 ≤ Lib.bitLen s.toNat := fun h => by
    rw [Lib.bitLen_half _ (by omega) (by omega)]
    omega
  generalize Lib.bitLen s.toNat = b at *
  have a := Int.mul_nonneg h1 (show (0 : Int) ≤ (b : Int) by omega)
  have c := Int.mul_le_mul_of_nonneg_left (show (b : Int) ≤ 9 by omega) h1
  have e : s + s * (b : Int) = s * (1 + (b : Int)) := by rw [Int.mul_add, Int.mul_one]
  refine ⟨by omega, by omega, fun h => ?_⟩
  rw [e]
  refine ⟨Int.mul_emod_right _ _, ?_⟩
  rw [Int.mul_ediv_cancel_left _ (by omega)]
  have := hp h
  omega
set_option maxRecDepth 100000 in
set_option maxHeartbeats 8000000 in
theorem latticeCosts_walk (a0 : Int) (a1 : Option Addr) (len1 cap1 : Nat) (z1 : List Int) (a2 a3 : Int) (w : World) (h0 : inK .i64 a0) (w1 : IsRow .i64 w a1 len1 cap1 z1) (h2 : inK .i64 a2) (h3 : inK .i64 a3) (hT : Tab w) (hw1 : 1 < w.heap.size) :
    Calls Tryd.prog 10 #[.int .i64 a0, .slice a1 len1 cap1, .int .i64 a2, .int .i64 a3] w fun e w' => e = .returned (.bool true) ∧ Below w.heap.size w w' := by
  obtain ⟨n1, lc1, cm1⟩ := w1.nums
  have N1 := Lib.hid n1
  have HKn := Lib.hid (known8_any w hT hw1)
  have HT := Lib.hid hT
  clear w1 n1 hT
  go_enter Tryd.func10, Tryd.ntmps10
  go_wp2_with fail
  refine HKn.out.mono ?_
  rintro e w1 ⟨rfl, hb1⟩
  have Hb1 := Lib.hid hb1
  clear hb1 HKn
  go_wp2_with fail
  refine (Facts_res a0 0 a1 none len1 cap1 0 0 _ [] w1 (N1.out.keep (Keeps.of_below Hb1.out)) (Nums.nil _ _ _) (by omega) (by omega) h0 (by constructor <;> omega)).mono ?_
  rintro e w2 ⟨A, c, D, d, C, q, mm, m, cs, l, rfl, hF⟩
  obtain ⟨k1, k2, k3⟩ : 1 ≤ q ∧ q ≤ 4 ∧ mm ≤ 2 := ⟨hF.q1, hF.q4, hF.m2⟩
  have hb2 : Below w.heap.size w w2 := Hb1.out.trans (hF.below.mono Hb1.out.size)
  have CS := Lib.hid hF.c16
  have NQ := Lib.hid hF.nums
  have HLQ := Lib.hid hF.eq
  have hb3 : Below w.heap.size w (w2.alloc (.cells #[.slice A q c, .int .i64 mm] 25)) := hb2.alloc hb2.size _
  have hbx : Box2 25 (w2.alloc (.cells #[.slice A q c, .int .i64 mm] 25)) w2.heap.size (.slice A q c) (.int .i64 mm) := Box2.new _ _ _ _
  have hnq : Nums .i64 (w2.alloc (.cells #[.slice A q c, .int .i64 mm] 25)) A q cs := hF.nums.keep (Keeps.of_below ((Below.refl _ w2).alloc (Nat.le_refl _) _))
  have h31 : 1 < (w2.alloc (.cells #[.slice A q c, .int .i64 mm] 25)).heap.size := by have := hb3.size; omega
  have HB3 := Lib.hid hb3
  have HBX := Lib.hid hbx
  have HNQ := Lib.hid hnq
  obtain ⟨W3, hW3⟩ : ∃ W3, W3 = w2.alloc (.cells #[.slice A q c, .int .i64 mm] 25) := ⟨_, rfl⟩
  rw [← hW3] at HB3 HBX HNQ h31
  have HW3 := Lib.hid hW3
  have HT3 := Lib.hid (HT.out.below HB3.out hw1)
  have hg3 := HBX.out.lt
  obtain ⟨s1, s2⟩ := set8_bd a3 q k1 k2
  have hsh := shl_wrap q k2
  have hsp := pow_bd q k2
  have HWI := Lib.hid (lwithin8 a3 (2 ^ q) W3 h3 hsp.1 (Int.le_trans hsp.2 (by decide)))
  obtain ⟨k, hk⟩ : ∃ k, k = a3 % 2 ^ q := ⟨_, rfl⟩
  rw [← hk] at HWI s1 s2
  obtain ⟨gb, hgb⟩ : ∃ gb, gb = w2.heap.size := ⟨_, rfl⟩
  rw [← hgb] at HBX hg3
  have HGB := Lib.hid hgb
  have c0 := HBX.out.cell0
  have c1 := HBX.out.cell1
  clear hF hnq hb3 hb2 hbx hk hW3 hgb
  have HWN := Lib.hid (lwithin8 a2 301 W3 h2 (by omega) (by omega))
  obtain ⟨n, hn⟩ : ∃ n, n = a2 % 301 := ⟨_, rfl⟩
  rw [← hn] at HWN
  have r1 : 0 ≤ n := by omega
  have r2 : n ≤ 300 := by omega
  clear hn
  have h0HA := fun (W : World) (hb : Below W3.heap.size W3 W) => size_any A q c mm cs n k W (HNQ.out.keep (Keeps.of_below hb)) k1 k2 k3 CS.out r1 r2 s1 s2 (HT3.out.below hb h31) (Nat.lt_of_lt_of_le h31 hb.size)
  have HA := Lib.hid h0HA
  clear h0HA
  have h0HC := fun (W : World) (hb : Below W3.heap.size W3 W) => sort_any A q c mm cs n k W (HNQ.out.keep (Keeps.of_below hb)) k1 k2 k3 CS.out r1 r2 s1 s2 (HT3.out.below hb h31) (Nat.lt_of_lt_of_le h31 hb.size)
  have HC := Lib.hid h0HC
  clear h0HC
  have h0HD := fun (W : World) (hb : Below W3.heap.size W3 W) => scan_any A q c mm cs n k W (HNQ.out.keep (Keeps.of_below hb)) k1 k2 k3 CS.out r1 r2 s1 s2 (HT3.out.below hb h31) (Nat.lt_of_lt_of_le h31 hb.size)
  have HD := Lib.hid h0HD
  clear h0HD
  have HR := Lib.hid (fun (W : World) (hb : Below W3.heap.size W3 W) => rSort_any A q c mm cs n k W (HNQ.out.keep (Keeps.of_below hb)) k2 CS.out r1 r2 s1 s2)
  have zb := sizeB_bd (rows := n) CS.out s1 (by rw [HLQ.out]; exact s2) (by rw [HLQ.out]; exact k2) r1 r2
  obtain ⟨f1, f2, f3⟩ := cost_facts zb.1 zb.2
  obtain ⟨z, hz⟩ : ∃ z, z = sizeB cs n k := ⟨_, rfl⟩
  obtain ⟨so, hso⟩ : ∃ so, so = sortB cs n k := ⟨_, rfl⟩
  simp only [← hz, ← hso] at HA HC HD HR zb f1 f2 f3
  obtain ⟨z1, z2⟩ := zb
  have F3 := Lib.hid f3
  clear hz hso f3
  have B0 := Lib.hid (Below.refl W3.heap.size W3)
  go_wp2_with fail
  rw [← HW3.out, ← HGB.out]
  have c0 := HBX.out.cell0
  have c1 := HBX.out.cell1
  go_wp2_with fail
  refine HWI.out.mono ?_
  rintro e w' ⟨rfl, rfl⟩
  go_wp2_with fail
  refine HWN.out.mono ?_
  rintro e w' ⟨rfl, rfl⟩
  go_wp2_with fail
  refine wp_region_held_drew (S := fun W => W.cell? ⟨gb, 0, none⟩ = some (.slice A q c) ∧ W.cell? ⟨gb, 1, none⟩ = some (.int .i64 mm)) (by kernel_rfl) (show W3.drew.cell? ⟨gb, 0, none⟩ = some (.slice A q c) ∧ W3.drew.cell? ⟨gb, 1, none⟩ = some (.int .i64 mm) from ⟨c0, c1⟩) (fun hHeld => ?_)
  have b0 := Lib.hid B0.out.drew
  refine wpAnyH_take (i := 0) (v := ?vs0) rfl (by kernel_rfl) (by kernel_rfl) (by kernel_rfl) (fun _ _ _ h => h) (Or.inl ⟨by rfl, ?ys0⟩) hHeld ?rs0
  case ys0 => (intro W hW; obtain ⟨h1, h2⟩ := hW; go_simp; first | done | with_reducible rfl)
  try simp only [List.getElem_toArray, List.getElem_cons_zero, Act.put, List.setIfInBounds_toArray, List.set_cons_zero, List.set_cons_succ]
  refine wpAnyH_take (i := 1) (v := ?vs1) rfl (by kernel_rfl) (by kernel_rfl) (by kernel_rfl) (fun _ _ _ h => h) (Or.inl ⟨by rfl, ?ys1⟩) hHeld ?rs1
  case ys1 => (intro W hW; obtain ⟨h1, h2⟩ := hW; go_simp; first | done | with_reducible rfl)
  try simp only [List.getElem_toArray, List.getElem_cons_succ, List.getElem_cons_zero, Act.put, List.setIfInBounds_toArray, List.set_cons_zero, List.set_cons_succ]
  refine wpAnyH_take (i := 2) (v := ?vs2) rfl (by kernel_rfl) (by kernel_rfl) (by kernel_rfl) (fun _ _ _ h => h) (Or.inl ⟨by rfl, ?ys2⟩) hHeld ?rs2
  case ys2 => (intro W hW; obtain ⟨h1, h2⟩ := hW; go_simp; first | done | with_reducible rfl)
  try simp only [List.getElem_toArray, List.getElem_cons_succ, List.getElem_cons_zero, Act.put, List.setIfInBounds_toArray, List.set_cons_zero, List.set_cons_succ]
  refine wpAnyH_take (i := 4) (v := ?vs4) rfl (by kernel_rfl) (by kernel_rfl) (by kernel_rfl) (fun _ _ _ h => h) (Or.inl ⟨by rfl, ?ys4⟩) hHeld ?rs4
  case ys4 => (intro W hW; obtain ⟨h1, h2⟩ := hW; go_simp; first | done | with_reducible rfl)
  try simp only [List.getElem_toArray, List.getElem_cons_succ, List.getElem_cons_zero, Act.put, List.setIfInBounds_toArray, List.set_cons_zero, List.set_cons_succ]
  refine wpAnyH_take (i := 5) (v := ?vs5) rfl (by kernel_rfl) (by kernel_rfl) (by kernel_rfl) (fun _ _ _ h => h) (Or.inl ⟨by rfl, ?ys5⟩) hHeld ?rs5
  case ys5 => (intro W hW; obtain ⟨h1, h2⟩ := hW; go_simp; first | done | with_reducible rfl)
  try simp only [List.getElem_toArray, List.getElem_cons_succ, List.getElem_cons_zero, Act.put, List.setIfInBounds_toArray, List.set_cons_zero, List.set_cons_succ]
  refine wpAnyH_take (i := 6) (v := ?vs6) rfl (by kernel_rfl) (by kernel_rfl) (by kernel_rfl) (fun _ _ _ h => h) (Or.inl ⟨by rfl, ?ys6⟩) hHeld ?rs6
  case ys6 => (intro W hW; obtain ⟨h1, h2⟩ := hW; go_simp; first | done | with_reducible rfl)
  try simp only [List.getElem_toArray, List.getElem_cons_succ, List.getElem_cons_zero, Act.put, List.setIfInBounds_toArray, List.set_cons_zero, List.set_cons_succ]
  refine wpAnyH_ready (rs := [3]) (by kernel_rfl) (by simp) ?_
  refine AllReadyH.cons rfl (fun K hK => ?_) (AllReadyH.nil)
  go_simp
  refine (HD.out _ b0.out).mono ?_
  rintro e u1 ⟨rfl, hb⟩
  have b1 := Lib.hid (b0.out.trans (hb.mono b0.out.size))
  have hh : u1.cell? ⟨gb, 0, none⟩ = some (.slice A q c) ∧ u1.cell? ⟨gb, 1, none⟩ = some (.int .i64 mm) := ⟨(Keeps.of_below hb) _ _ hHeld.1, (Keeps.of_below hb) _ _ hHeld.2⟩
  have HHH := Lib.hid hh
  clear hb hh
  go_wp2_with fail
  refine hK.out _ _ (HHH.out) (fun hHeld => ?_)
  clear hK K
  try simp only [List.getElem_toArray, List.getElem_cons_succ, List.getElem_cons_zero, Act.put, List.setIfInBounds_toArray, List.set_cons_zero, List.set_cons_succ]
  refine wpAnyH_ready (rs := [7]) (by kernel_rfl) (by simp) ?_
  refine AllReadyH.cons rfl (fun K hK => ?_) (AllReadyH.nil)
  go_simp
  refine (HC.out _ b1.out).mono ?_
  rintro e u2 ⟨rfl, hb⟩
  have b2 := Lib.hid (b1.out.trans (hb.mono b1.out.size))
  have hh : u2.cell? ⟨gb, 0, none⟩ = some (.slice A q c) ∧ u2.cell? ⟨gb, 1, none⟩ = some (.int .i64 mm) := ⟨(Keeps.of_below hb) _ _ hHeld.1, (Keeps.of_below hb) _ _ hHeld.2⟩
  have HHH := Lib.hid hh
  clear hb hh
  go_wp2_with fail
  refine hK.out _ _ (HHH.out) (fun hHeld => ?_)
  clear hK K
  try simp only [List.getElem_toArray, List.getElem_cons_succ, List.getElem_cons_zero, Act.put, List.setIfInBounds_toArray, List.set_cons_zero, List.set_cons_succ]
  refine wpAnyH_ready (rs := [8]) (by kernel_rfl) (by simp) ?_
  refine AllReadyH.cons rfl (fun K hK => ?_) (AllReadyH.nil)
  go_simp
  refine hK.out _ _ (HHH.out) (fun hHeld => ?_)
  clear hK K
  try simp only [List.getElem_toArray, List.getElem_cons_succ, List.getElem_cons_zero, Act.put, List.setIfInBounds_toArray, List.set_cons_zero, List.set_cons_succ]
  refine wpAnyH_ready (rs := [9]) (by kernel_rfl) (by simp) ?_
  refine AllReadyH.cons rfl (fun K hK => ?_) (AllReadyH.nil)
  go_simp
  refine hK.out _ _ (HHH.out) (fun hHeld => ?_)
  clear hK K
  try simp only [List.getElem_toArray, List.getElem_cons_succ, List.getElem_cons_zero, Act.put, List.setIfInBounds_toArray, List.set_cons_zero, List.set_cons_succ]
  refine wpAnyH_done (by kernel_rfl) ?_ _
  have c0 := HHH.out.1
  have c1 := HHH.out.2
  have B0 := b2
  go_wp2_with fail
  refine (HA.out _ B0.out).mono ?_
  rintro e v1 ⟨rfl, hb⟩
  have B1 := Lib.hid (B0.out.trans (hb.mono B0.out.size))
  have hx := HBX.out.below B1.out hg3
  have d0 := hx.cell0
  have d1 := hx.cell1
  clear hb hx
  have hzz : (z == z) = true := by simp
  by_cases hz : z = 0
  · subst hz
    have so0 : so = 0 := by omega
    subst so0
    clear hzz
    go_wp2_with fail
    refine (HR.out _ B1.out).mono ?_
    rintro e v2 ⟨rfl, hb⟩
    have B2 := Lib.hid (B1.out.trans (hb.mono B1.out.size))
    have hx := HBX.out.below B2.out hg3
    have d0 := hx.cell0
    have d1 := hx.cell1
    clear hb hx
    go_wp2
    go_ret
    exact ⟨rfl, HB3.out.trans (B2.out.mono HB3.out.size)⟩
  · obtain ⟨g1, g2⟩ := F3.out (by omega)
    have hz0 : (z == 0) = false := by simpa using hz
    have z3 : 1 ≤ z := by omega
    have hz3 : ¬ z = 0 := hz
    obtain ⟨dq, hdq⟩ : ∃ dq, so / z = dq := ⟨_, rfl⟩
    rw [hdq] at g2
    go_wp2_with fail
    refine (HR.out _ B1.out).mono ?_
    rintro e v2 ⟨rfl, hb⟩
    have B2 := Lib.hid (B1.out.trans (hb.mono B1.out.size))
    have hx := HBX.out.below B2.out hg3
    have d0 := hx.cell0
    have d1 := hx.cell1
    clear hb hx
    go_wp2
    go_ret
    exact ⟨rfl, HB3.out.trans (B2.out.mono HB3.out.size)⟩
end Go.Proofs.YtaopanclnaimpaaDoor
