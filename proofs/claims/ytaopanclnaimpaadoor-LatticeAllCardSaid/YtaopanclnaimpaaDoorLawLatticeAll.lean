/- The law LatticeAll. -/
import Derived.Test.YtaopanclnaimpaaDoorL8
import Derived.IntWalk
import Derived.Test.YtaopanclnaimpaaDoorRset
import Derived.Test.YtaopanclnaimpaaDoorRints
namespace Go.Proofs.YtaopanclnaimpaaDoor
open Go.RowKit Go.Shelf
attribute [local go_sem] Oper.semAt_some
set_option maxHeartbeats 2000000 in
theorem rScan_any (A : Option Addr) (q c mm : Nat) (cs : List Int) (rows k : Int) (w : World) (hA : Nums .i64 w A q cs) (hq : q ≤ 4) (hc : ∀ x ∈ cs, 1 ≤ x ∧ x ≤ 16) (h1 : 0 ≤ k) (h2 : k ≤ fullB q) :
    Calls Tryd.prog 25 #[.agg #[.slice A q c, .int .i64 mm], .int .i64 rows, .int .i64 k] w fun e w' => e = .returned (.int .i64 (sizeB cs rows k)) ∧ Below w.heap.size w w' := by
  have hb0 : Below w.heap.size w (w.alloc (.cells #[.slice A q c, .int .i64 mm] 25)) := (Below.refl _ w).alloc (Nat.le_refl _) _
  have H := Lib.hid (rSize_any A q c mm cs rows k _ (hA.keep (Keeps.of_below hb0)) hq hc h1 h2)
  have HB0 := Lib.hid hb0
  obtain ⟨s, hs⟩ : ∃ s, s = sizeB cs rows k := ⟨_, rfl⟩
  rw [← hs] at H ⊢
  clear hA hb0 hc hs
  go_enter Tryd.func25, Tryd.ntmps25
  go_wp2_with fail
  refine H.out.mono ?_
  rintro e w1 ⟨rfl, hb1⟩
  have HB1 := Lib.hid (HB0.out.trans (hb1.mono HB0.out.size))
  clear hb1
  go_wp2
  go_ret
  exact ⟨rfl, HB1.out⟩
theorem ints_yes (A B : Option Addr) (n m c d : Nat) (xs ys : List Int) (w : World) (hx : Nums .i64 w A n xs) (hy : Nums .i64 w B m ys) (hn : n ≤ 100) (h : xs = ys) :
    Calls Tryd.prog 15 #[.slice A n c, .slice B m d] w fun e w' => e = .returned (.bool true) ∧ Below w.heap.size w w' :=
  (rInts A B n m c d xs ys w hx hy (by omega)).mono fun e w' ⟨he, q, hw⟩ => ⟨by rw [he, decide_eq_true h], by rw [hw]; exact below_drewN (Below.refl _ w) q⟩
set_option maxRecDepth 100000 in
set_option maxHeartbeats 8000000 in
theorem latticeAll_walk (a0 : Int) (a1 : Option Addr) (len1 cap1 : Nat) (z1 : List Int) (a2 a3 : Int) (w : World) (h0 : inK .i64 a0) (w1 : IsRow .i64 w a1 len1 cap1 z1) (h2 : inK .i64 a2) (h3 : inK .i64 a3) (hT : Tab w) (hw1 : 1 < w.heap.size) :
    Calls Tryd.prog 3 #[.int .i64 a0, .slice a1 len1 cap1, .int .i64 a2, .int .i64 a3] w fun e w' => e = .returned (.bool true) ∧ Below w.heap.size w w' := by
  obtain ⟨n1, lc1, cm1⟩ := w1.nums
  have N1 := Lib.hid n1
  have HKn := Lib.hid (known8_any w hT hw1)
  have HT := Lib.hid hT
  clear w1 n1 hT
  go_enter Tryd.func3, Tryd.ntmps3
  go_wp2_with fail
  refine HKn.out.mono ?_
  rintro e w1 ⟨rfl, hb1⟩
  have Hb1 := Lib.hid hb1
  clear hb1 HKn
  go_wp2_with fail
  refine (Facts_res a0 0 a1 none len1 cap1 0 0 _ [] w1 (N1.out.keep (Keeps.of_below Hb1.out)) (Nums.nil _ _ _) (by omega) (by omega) h0 (by constructor <;> omega)).mono ?_
  rintro e w2 ⟨A, c, D, d, C, q, mm, m, cs, l, rfl, hF⟩
  obtain ⟨k1, k2, k3⟩ : 1 ≤ q ∧ q ≤ 4 ∧ mm ≤ 2 := ⟨hF.q1, hF.q4, hF.m2⟩
  have hb2 : Below w.heap.size w w2 := Hb1.out.trans (hF.below.mono Hb1.out.size)
  have CS := Lib.hid hF.c16
  have NQ := Lib.hid hF.nums
  have HLQ := Lib.hid hF.eq
  have hb3 : Below w.heap.size w (w2.alloc (.cells #[.slice A q c, .int .i64 mm] 25)) := hb2.alloc hb2.size _
  have hbx : Box2 25 (w2.alloc (.cells #[.slice A q c, .int .i64 mm] 25)) w2.heap.size (.slice A q c) (.int .i64 mm) := Box2.new _ _ _ _
  have hnq : Nums .i64 (w2.alloc (.cells #[.slice A q c, .int .i64 mm] 25)) A q cs := hF.nums.keep (Keeps.of_below ((Below.refl _ w2).alloc (Nat.le_refl _) _))
  have h31 : 1 < (w2.alloc (.cells #[.slice A q c, .int .i64 mm] 25)).heap.size := by have := hb3.size; omega
  have HB3 := Lib.hid hb3
  have HBX := Lib.hid hbx
  have HNQ := Lib.hid hnq
  obtain ⟨W3, hW3⟩ : ∃ W3, W3 = w2.alloc (.cells #[.slice A q c, .int .i64 mm] 25) := ⟨_, rfl⟩
  rw [← hW3] at HB3 HBX HNQ h31
  have HW3 := Lib.hid hW3
  have HT3 := Lib.hid (HT.out.below HB3.out hw1)
  have hg3 := HBX.out.lt
  obtain ⟨s1, s2⟩ := set8_bd a3 q k1 k2
  have hsh := shl_wrap q k2
  have hsp := pow_bd q k2
  have HWI := Lib.hid (lwithin8 a3 (2 ^ q) W3 h3 hsp.1 (Int.le_trans hsp.2 (by decide)))
  obtain ⟨k, hk⟩ : ∃ k, k = a3 % 2 ^ q := ⟨_, rfl⟩
  rw [← hk] at HWI s1 s2
  obtain ⟨gb, hgb⟩ : ∃ gb, gb = w2.heap.size := ⟨_, rfl⟩
  rw [← hgb] at HBX hg3
  have HGB := Lib.hid hgb
  have c0 := HBX.out.cell0
  have c1 := HBX.out.cell1
  clear hF hnq hb3 hb2 hbx hk hW3 hgb
  have HWN := Lib.hid (lwithin8 a2 301 W3 h2 (by omega) (by omega))
  obtain ⟨n, hn⟩ : ∃ n, n = a2 % 301 := ⟨_, rfl⟩
  rw [← hn] at HWN
  have r1 : 0 ≤ n := by omega
  have r2 : n ≤ 300 := by omega
  clear hn
  have hk15 : k ≤ 15 := by have := fullB_15 q k2; omega
  have hkn : k.toNat < 2 ^ q := by
    have := two_pow q
    unfold fullB at s2
    omega
  have hkz : ((k.toNat : Nat) : Int) = k := by omega
  have h0HA := fun (W : World) (hb : Below W3.heap.size W3 W) => size_any A q c mm cs n k W (HNQ.out.keep (Keeps.of_below hb)) k1 k2 k3 CS.out r1 r2 s1 s2 (HT3.out.below hb h31) (Nat.lt_of_lt_of_le h31 hb.size)
  have HA := Lib.hid h0HA
  clear h0HA
  have h0HC := fun (W : World) (hb : Below W3.heap.size W3 W) => sort_any A q c mm cs n k W (HNQ.out.keep (Keeps.of_below hb)) k1 k2 k3 CS.out r1 r2 s1 s2 (HT3.out.below hb h31) (Nat.lt_of_lt_of_le h31 hb.size)
  have HC := Lib.hid h0HC
  clear h0HC
  have h0HD := fun (W : World) (hb : Below W3.heap.size W3 W) => scan_any A q c mm cs n k W (HNQ.out.keep (Keeps.of_below hb)) k1 k2 k3 CS.out r1 r2 s1 s2 (HT3.out.below hb h31) (Nat.lt_of_lt_of_le h31 hb.size)
  have HD := Lib.hid h0HD
  clear h0HD
  have HrA := Lib.hid (fun (W : World) (hb : Below W3.heap.size W3 W) => rSize_any A q c mm cs n k W (HNQ.out.keep (Keeps.of_below hb)) k2 CS.out s1 s2)
  have HrD := Lib.hid (fun (W : World) (hb : Below W3.heap.size W3 W) => rScan_any A q c mm cs n k W (HNQ.out.keep (Keeps.of_below hb)) k2 CS.out s1 s2)
  have HrC := Lib.hid (fun (W : World) (hb : Below W3.heap.size W3 W) => rSort_any A q c mm cs n k W (HNQ.out.keep (Keeps.of_below hb)) k2 CS.out r1 r2 s1 s2)
  have HS := Lib.hid (fun (W : World) (hb : Below W3.heap.size W3 W) => sets_any q W k1 k2 (HT3.out.below hb h31) (Nat.lt_of_lt_of_le h31 hb.size))
  have HrS := Lib.hid (fun (W : World) => rSets_any q W k1 k2)
  have HL := Lib.hid (fun (W : World) (hb : Below W3.heap.size W3 W) => level_any k W s1 hk15 (HT3.out.below hb h31) (Nat.lt_of_lt_of_le h31 hb.size))
  have HrL := Lib.hid (fun (W : World) => rLvl_any k W s1 hk15)
  have HP := Lib.hid (fun (W : World) (hb : Below W3.heap.size W3 W) => par_oi k q W s1 s2 k1 k2 (HT3.out.below hb h31) (Nat.lt_of_lt_of_le h31 hb.size))
  have hrp := fun (W : World) => rPar_any k.toNat q W hkn k2
  rw [hkz] at hrp
  have HrP := Lib.hid hrp
  have hp4 := parL_le k q
  have hs16 : (2 : Nat) ^ q ≤ 16 := (pow_16 q k2).1
  have HSL := Lib.hid (setsL_len q k1 k2)
  obtain ⟨z, hz⟩ : ∃ z, z = sizeB cs n k := ⟨_, rfl⟩
  obtain ⟨so, hso⟩ : ∃ so, so = sortB cs n k := ⟨_, rfl⟩
  obtain ⟨lv, hlv⟩ : ∃ lv, lv = lvl k := ⟨_, rfl⟩
  simp only [← hz, ← hso, ← hlv] at HA HC HD HrA HrC HrD HL HrL
  clear hz hso hlv hrp hkz hkn
  have B0 := Lib.hid (Below.refl W3.heap.size W3)
  go_wp2_with fail
  rw [← HW3.out, ← HGB.out]
  have c0 := HBX.out.cell0
  have c1 := HBX.out.cell1
  go_wp2_with fail
  refine HWI.out.mono ?_
  rintro e w' ⟨rfl, rfl⟩
  go_wp2_with fail
  refine HWN.out.mono ?_
  rintro e w' ⟨rfl, rfl⟩
  go_wp2_with fail
  refine wp_region_held_drew (S := fun W => W.cell? ⟨gb, 0, none⟩ = some (.slice A q c) ∧ W.cell? ⟨gb, 1, none⟩ = some (.int .i64 mm)) (by kernel_rfl) (show W3.drew.cell? ⟨gb, 0, none⟩ = some (.slice A q c) ∧ W3.drew.cell? ⟨gb, 1, none⟩ = some (.int .i64 mm) from ⟨c0, c1⟩) (fun hHeld => ?_)
  have b0 := Lib.hid B0.out.drew
  refine wpAnyH_take (i := 0) (v := ?vs0) rfl (by kernel_rfl) (by kernel_rfl) (by kernel_rfl) (fun _ _ _ h => h) (Or.inl ⟨by rfl, ?ys0⟩) hHeld ?rs0
  case ys0 => (intro W hW; obtain ⟨h1, h2⟩ := hW; go_simp; first | done | with_reducible rfl)
  try simp only [List.getElem_toArray, List.getElem_cons_zero, Act.put, List.setIfInBounds_toArray, List.set_cons_zero, List.set_cons_succ]
  refine wpAnyH_take (i := 2) (v := ?vs2) rfl (by kernel_rfl) (by kernel_rfl) (by kernel_rfl) (fun _ _ _ h => h) (Or.inl ⟨by rfl, ?ys2⟩) hHeld ?rs2
  case ys2 => (intro W hW; obtain ⟨h1, h2⟩ := hW; go_simp; first | done | with_reducible rfl)
  try simp only [List.getElem_toArray, List.getElem_cons_succ, List.getElem_cons_zero, Act.put, List.setIfInBounds_toArray, List.set_cons_zero, List.set_cons_succ]
  refine wpAnyH_ready (rs := [1]) (by kernel_rfl) (by simp) ?_
  refine AllReadyH.cons rfl (fun K hK => ?_) (AllReadyH.nil)
  go_simp
  refine (HS.out _ b0.out).mono ?_
  rintro e u1 ⟨g5, rfl, hn5, hb, -⟩
  have b1 := Lib.hid (b0.out.trans (hb.mono b0.out.size))
  have hh : u1.cell? ⟨gb, 0, none⟩ = some (.slice A q c) ∧ u1.cell? ⟨gb, 1, none⟩ = some (.int .i64 mm) := ⟨(Keeps.of_below hb) _ _ hHeld.1, (Keeps.of_below hb) _ _ hHeld.2⟩
  have HHH := Lib.hid hh
  have HN5 := Lib.hid hn5
  clear hn5
  clear hb hh
  go_wp2_with fail
  refine hK.out _ _ (HHH.out) (fun hHeld => ?_)
  clear hK K
  try simp only [List.getElem_toArray, List.getElem_cons_succ, List.getElem_cons_zero, Act.put, List.setIfInBounds_toArray, List.set_cons_zero, List.set_cons_succ]
  refine wpAnyH_ready (rs := [3]) (by kernel_rfl) (by simp) ?_
  refine AllReadyH.cons rfl (fun K hK => ?_) (AllReadyH.nil)
  go_simp
  refine (HrS.out _).mono ?_
  rintro e u2 ⟨v, rfl, ho, hb⟩
  have b2 := Lib.hid (b1.out.trans (hb.mono b1.out.size))
  have hh : u2.cell? ⟨gb, 0, none⟩ = some (.slice A q c) ∧ u2.cell? ⟨gb, 1, none⟩ = some (.int .i64 mm) := ⟨(Keeps.of_below hb) _ _ hHeld.1, (Keeps.of_below hb) _ _ hHeld.2⟩
  have HHH := Lib.hid hh
  obtain ⟨P, cp, rfl, -, -, hnp, -⟩ := ho.form
  have HN5 := Lib.hid (HN5.out.keep (Keeps.of_below hb))
  have HNP := Lib.hid hnp
  clear ho hnp
  clear hb hh
  go_wp2_with fail
  refine hK.out _ _ (HHH.out) (fun hHeld => ?_)
  clear hK K
  try simp only [List.getElem_toArray, List.getElem_cons_succ, List.getElem_cons_zero, Act.put, List.setIfInBounds_toArray, List.set_cons_zero, List.set_cons_succ]
  refine wpAnyH_ready (rs := [4]) (by kernel_rfl) (by simp) ?_
  refine AllReadyH.cons rfl (fun K hK => ?_) (AllReadyH.nil)
  go_simp
  refine (ints_yes _ _ _ _ _ _ _ _ _ HN5.out HNP.out (by omega) rfl).mono ?_
  rintro e u3 ⟨rfl, hb⟩
  have b3 := Lib.hid (b2.out.trans (hb.mono b2.out.size))
  have hh : u3.cell? ⟨gb, 0, none⟩ = some (.slice A q c) ∧ u3.cell? ⟨gb, 1, none⟩ = some (.int .i64 mm) := ⟨(Keeps.of_below hb) _ _ hHeld.1, (Keeps.of_below hb) _ _ hHeld.2⟩
  have HHH := Lib.hid hh
  clear hb hh
  go_wp2_with fail
  refine hK.out _ _ (HHH.out) (fun hHeld => ?_)
  clear hK K
  try simp only [List.getElem_toArray, List.getElem_cons_succ, List.getElem_cons_zero, Act.put, List.setIfInBounds_toArray, List.set_cons_zero, List.set_cons_succ]
  refine wpAnyH_take (i := 5) (v := ?vs5) rfl (by kernel_rfl) (by kernel_rfl) (by kernel_rfl) (fun _ _ _ h => h) (Or.inl ⟨by rfl, ?ys5⟩) hHeld ?rs5
  case ys5 => (intro W hW; obtain ⟨h1, h2⟩ := hW; go_simp; first | done | with_reducible rfl)
  try simp only [List.getElem_toArray, List.getElem_cons_succ, List.getElem_cons_zero, Act.put, List.setIfInBounds_toArray, List.set_cons_zero, List.set_cons_succ]
  refine wpAnyH_take (i := 6) (v := ?vs6) rfl (by kernel_rfl) (by kernel_rfl) (by kernel_rfl) (fun _ _ _ h => h) (Or.inl ⟨by rfl, ?ys6⟩) hHeld ?rs6
  case ys6 => (intro W hW; obtain ⟨h1, h2⟩ := hW; go_simp; first | done | with_reducible rfl)
  try simp only [List.getElem_toArray, List.getElem_cons_succ, List.getElem_cons_zero, Act.put, List.setIfInBounds_toArray, List.set_cons_zero, List.set_cons_succ]
  refine wpAnyH_take (i := 8) (v := ?vs8) rfl (by kernel_rfl) (by kernel_rfl) (by kernel_rfl) (fun _ _ _ h => h) (Or.inl ⟨by rfl, ?ys8⟩) hHeld ?rs8
  case ys8 => (intro W hW; obtain ⟨h1, h2⟩ := hW; go_simp; first | done | with_reducible rfl)
  try simp only [List.getElem_toArray, List.getElem_cons_succ, List.getElem_cons_zero, Act.put, List.setIfInBounds_toArray, List.set_cons_zero, List.set_cons_succ]
  refine wpAnyH_ready (rs := [7]) (by kernel_rfl) (by simp) ?_
  refine AllReadyH.cons rfl (fun K hK => ?_) (AllReadyH.nil)
  go_simp
  refine (HL.out _ b3.out).mono ?_
  rintro e u4 ⟨rfl, hb, -⟩
  have b4 := Lib.hid (b3.out.trans (hb.mono b3.out.size))
  have hh : u4.cell? ⟨gb, 0, none⟩ = some (.slice A q c) ∧ u4.cell? ⟨gb, 1, none⟩ = some (.int .i64 mm) := ⟨(Keeps.of_below hb) _ _ hHeld.1, (Keeps.of_below hb) _ _ hHeld.2⟩
  have HHH := Lib.hid hh
  clear hb hh
  go_wp2_with fail
  refine hK.out _ _ (HHH.out) (fun hHeld => ?_)
  clear hK K
  try simp only [List.getElem_toArray, List.getElem_cons_succ, List.getElem_cons_zero, Act.put, List.setIfInBounds_toArray, List.set_cons_zero, List.set_cons_succ]
  refine wpAnyH_ready (rs := [9]) (by kernel_rfl) (by simp) ?_
  refine AllReadyH.cons rfl (fun K hK => ?_) (AllReadyH.nil)
  go_simp
  refine (HrL.out _).mono ?_
  rintro e u ⟨rfl, rfl⟩
  go_wp2_with fail
  refine hK.out _ _ (HHH.out) (fun hHeld => ?_)
  clear hK K
  try simp only [List.getElem_toArray, List.getElem_cons_succ, List.getElem_cons_zero, Act.put, List.setIfInBounds_toArray, List.set_cons_zero, List.set_cons_succ]
  refine wpAnyH_take (i := 10) (v := ?vs10) rfl (by kernel_rfl) (by kernel_rfl) (by kernel_rfl) (fun _ _ _ h => h) (Or.inl ⟨by rfl, ?ys10⟩) hHeld ?rs10
  case ys10 => (intro W hW; obtain ⟨h1, h2⟩ := hW; go_simp; first | done | with_reducible rfl)
  try simp only [List.getElem_toArray, List.getElem_cons_succ, List.getElem_cons_zero, Act.put, List.setIfInBounds_toArray, List.set_cons_zero, List.set_cons_succ]
  refine wpAnyH_take (i := 11) (v := ?vs11) rfl (by kernel_rfl) (by kernel_rfl) (by kernel_rfl) (fun _ _ _ h => h) (Or.inl ⟨by rfl, ?ys11⟩) hHeld ?rs11
  case ys11 => (intro W hW; obtain ⟨h1, h2⟩ := hW; go_simp; first | done | with_reducible rfl)
  try simp only [List.getElem_toArray, List.getElem_cons_succ, List.getElem_cons_zero, Act.put, List.setIfInBounds_toArray, List.set_cons_zero, List.set_cons_succ]
  refine wpAnyH_take (i := 12) (v := ?vs12) rfl (by kernel_rfl) (by kernel_rfl) (by kernel_rfl) (fun _ _ _ h => h) (Or.inl ⟨by rfl, ?ys12⟩) hHeld ?rs12
  case ys12 => (intro W hW; obtain ⟨h1, h2⟩ := hW; go_simp; first | done | with_reducible rfl)
  try simp only [List.getElem_toArray, List.getElem_cons_succ, List.getElem_cons_zero, Act.put, List.setIfInBounds_toArray, List.set_cons_zero, List.set_cons_succ]
  refine wpAnyH_take (i := 13) (v := ?vs13) rfl (by kernel_rfl) (by kernel_rfl) (by kernel_rfl) (fun _ _ _ h => h) (Or.inl ⟨by rfl, ?ys13⟩) hHeld ?rs13
  case ys13 => (intro W hW; obtain ⟨h1, h2⟩ := hW; go_simp; first | done | with_reducible rfl)
  try simp only [List.getElem_toArray, List.getElem_cons_succ, List.getElem_cons_zero, Act.put, List.setIfInBounds_toArray, List.set_cons_zero, List.set_cons_succ]
  refine wpAnyH_take (i := 14) (v := ?vs14) rfl (by kernel_rfl) (by kernel_rfl) (by kernel_rfl) (fun _ _ _ h => h) (Or.inl ⟨by rfl, ?ys14⟩) hHeld ?rs14
  case ys14 => (intro W hW; obtain ⟨h1, h2⟩ := hW; go_simp; first | done | with_reducible rfl)
  try simp only [List.getElem_toArray, List.getElem_cons_succ, List.getElem_cons_zero, Act.put, List.setIfInBounds_toArray, List.set_cons_zero, List.set_cons_succ]
  refine wpAnyH_take (i := 16) (v := ?vs16) rfl (by kernel_rfl) (by kernel_rfl) (by kernel_rfl) (fun _ _ _ h => h) (Or.inl ⟨by rfl, ?ys16⟩) hHeld ?rs16
  case ys16 => (intro W hW; obtain ⟨h1, h2⟩ := hW; go_simp; first | done | with_reducible rfl)
  try simp only [List.getElem_toArray, List.getElem_cons_succ, List.getElem_cons_zero, Act.put, List.setIfInBounds_toArray, List.set_cons_zero, List.set_cons_succ]
  refine wpAnyH_take (i := 17) (v := ?vs17) rfl (by kernel_rfl) (by kernel_rfl) (by kernel_rfl) (fun _ _ _ h => h) (Or.inl ⟨by rfl, ?ys17⟩) hHeld ?rs17
  case ys17 => (intro W hW; obtain ⟨h1, h2⟩ := hW; go_simp; first | done | with_reducible rfl)
  try simp only [List.getElem_toArray, List.getElem_cons_succ, List.getElem_cons_zero, Act.put, List.setIfInBounds_toArray, List.set_cons_zero, List.set_cons_succ]
  refine wpAnyH_ready (rs := [15]) (by kernel_rfl) (by simp) ?_
  refine AllReadyH.cons rfl (fun K hK => ?_) (AllReadyH.nil)
  go_simp
  refine (HP.out _ b4.out).mono ?_
  rintro e u5 ⟨v, rfl, ho, hb⟩
  have b5 := Lib.hid (b4.out.trans (hb.mono b4.out.size))
  have hh : u5.cell? ⟨gb, 0, none⟩ = some (.slice A q c) ∧ u5.cell? ⟨gb, 1, none⟩ = some (.int .i64 mm) := ⟨(Keeps.of_below hb) _ _ hHeld.1, (Keeps.of_below hb) _ _ hHeld.2⟩
  have HHH := Lib.hid hh
  obtain ⟨P1, cp1, rfl, -, -, hnp, -⟩ := ho.form
  have HNP1 := Lib.hid hnp
  clear ho hnp
  clear hb hh
  go_wp2_with fail
  refine hK.out _ _ (HHH.out) (fun hHeld => ?_)
  clear hK K
  try simp only [List.getElem_toArray, List.getElem_cons_succ, List.getElem_cons_zero, Act.put, List.setIfInBounds_toArray, List.set_cons_zero, List.set_cons_succ]
  refine wpAnyH_ready (rs := [18]) (by kernel_rfl) (by simp) ?_
  refine AllReadyH.cons rfl (fun K hK => ?_) (AllReadyH.nil)
  go_simp
  refine (HrP.out _).mono ?_
  rintro e u6 ⟨v, rfl, ho, hb⟩
  have b6 := Lib.hid (b5.out.trans (hb.mono b5.out.size))
  have hh : u6.cell? ⟨gb, 0, none⟩ = some (.slice A q c) ∧ u6.cell? ⟨gb, 1, none⟩ = some (.int .i64 mm) := ⟨(Keeps.of_below hb) _ _ hHeld.1, (Keeps.of_below hb) _ _ hHeld.2⟩
  have HHH := Lib.hid hh
  obtain ⟨P2, cp2, rfl, -, -, hnp, -⟩ := ho.form
  have HNP1 := Lib.hid (HNP1.out.keep (Keeps.of_below hb))
  have HNP2 := Lib.hid hnp
  clear ho hnp
  clear hb hh
  go_wp2_with fail
  refine hK.out _ _ (HHH.out) (fun hHeld => ?_)
  clear hK K
  try simp only [List.getElem_toArray, List.getElem_cons_succ, List.getElem_cons_zero, Act.put, List.setIfInBounds_toArray, List.set_cons_zero, List.set_cons_succ]
  refine wpAnyH_ready (rs := [19]) (by kernel_rfl) (by simp) ?_
  refine AllReadyH.cons rfl (fun K hK => ?_) (AllReadyH.nil)
  go_simp
  refine (ints_yes _ _ _ _ _ _ _ _ _ HNP1.out HNP2.out (by omega) rfl).mono ?_
  rintro e u7 ⟨rfl, hb⟩
  have b7 := Lib.hid (b6.out.trans (hb.mono b6.out.size))
  have hh : u7.cell? ⟨gb, 0, none⟩ = some (.slice A q c) ∧ u7.cell? ⟨gb, 1, none⟩ = some (.int .i64 mm) := ⟨(Keeps.of_below hb) _ _ hHeld.1, (Keeps.of_below hb) _ _ hHeld.2⟩
  have HHH := Lib.hid hh
  clear hb hh
  go_wp2_with fail
  refine hK.out _ _ (HHH.out) (fun hHeld => ?_)
  clear hK K
  try simp only [List.getElem_toArray, List.getElem_cons_succ, List.getElem_cons_zero, Act.put, List.setIfInBounds_toArray, List.set_cons_zero, List.set_cons_succ]
  refine wpAnyH_take (i := 20) (v := ?vs20) rfl (by kernel_rfl) (by kernel_rfl) (by kernel_rfl) (fun _ _ _ h => h) (Or.inl ⟨by rfl, ?ys20⟩) hHeld ?rs20
  case ys20 => (intro W hW; obtain ⟨h1, h2⟩ := hW; go_simp; first | done | with_reducible rfl)
  try simp only [List.getElem_toArray, List.getElem_cons_succ, List.getElem_cons_zero, Act.put, List.setIfInBounds_toArray, List.set_cons_zero, List.set_cons_succ]
  refine wpAnyH_take (i := 21) (v := ?vs21) rfl (by kernel_rfl) (by kernel_rfl) (by kernel_rfl) (fun _ _ _ h => h) (Or.inl ⟨by rfl, ?ys21⟩) hHeld ?rs21
  case ys21 => (intro W hW; obtain ⟨h1, h2⟩ := hW; go_simp; first | done | with_reducible rfl)
  try simp only [List.getElem_toArray, List.getElem_cons_succ, List.getElem_cons_zero, Act.put, List.setIfInBounds_toArray, List.set_cons_zero, List.set_cons_succ]
  refine wpAnyH_take (i := 22) (v := ?vs22) rfl (by kernel_rfl) (by kernel_rfl) (by kernel_rfl) (fun _ _ _ h => h) (Or.inl ⟨by rfl, ?ys22⟩) hHeld ?rs22
  case ys22 => (intro W hW; obtain ⟨h1, h2⟩ := hW; go_simp; first | done | with_reducible rfl)
  try simp only [List.getElem_toArray, List.getElem_cons_succ, List.getElem_cons_zero, Act.put, List.setIfInBounds_toArray, List.set_cons_zero, List.set_cons_succ]
  refine wpAnyH_take (i := 23) (v := ?vs23) rfl (by kernel_rfl) (by kernel_rfl) (by kernel_rfl) (fun _ _ _ h => h) (Or.inl ⟨by rfl, ?ys23⟩) hHeld ?rs23
  case ys23 => (intro W hW; obtain ⟨h1, h2⟩ := hW; go_simp; first | done | with_reducible rfl)
  try simp only [List.getElem_toArray, List.getElem_cons_succ, List.getElem_cons_zero, Act.put, List.setIfInBounds_toArray, List.set_cons_zero, List.set_cons_succ]
  refine wpAnyH_take (i := 24) (v := ?vs24) rfl (by kernel_rfl) (by kernel_rfl) (by kernel_rfl) (fun _ _ _ h => h) (Or.inl ⟨by rfl, ?ys24⟩) hHeld ?rs24
  case ys24 => (intro W hW; obtain ⟨h1, h2⟩ := hW; go_simp; first | done | with_reducible rfl)
  try simp only [List.getElem_toArray, List.getElem_cons_succ, List.getElem_cons_zero, Act.put, List.setIfInBounds_toArray, List.set_cons_zero, List.set_cons_succ]
  refine wpAnyH_take (i := 26) (v := ?vs26) rfl (by kernel_rfl) (by kernel_rfl) (by kernel_rfl) (fun _ _ _ h => h) (Or.inl ⟨by rfl, ?ys26⟩) hHeld ?rs26
  case ys26 => (intro W hW; obtain ⟨h1, h2⟩ := hW; go_simp; first | done | with_reducible rfl)
  try simp only [List.getElem_toArray, List.getElem_cons_succ, List.getElem_cons_zero, Act.put, List.setIfInBounds_toArray, List.set_cons_zero, List.set_cons_succ]
  refine wpAnyH_take (i := 27) (v := ?vs27) rfl (by kernel_rfl) (by kernel_rfl) (by kernel_rfl) (fun _ _ _ h => h) (Or.inl ⟨by rfl, ?ys27⟩) hHeld ?rs27
  case ys27 => (intro W hW; obtain ⟨h1, h2⟩ := hW; go_simp; first | done | with_reducible rfl)
  try simp only [List.getElem_toArray, List.getElem_cons_succ, List.getElem_cons_zero, Act.put, List.setIfInBounds_toArray, List.set_cons_zero, List.set_cons_succ]
  refine wpAnyH_take (i := 28) (v := ?vs28) rfl (by kernel_rfl) (by kernel_rfl) (by kernel_rfl) (fun _ _ _ h => h) (Or.inl ⟨by rfl, ?ys28⟩) hHeld ?rs28
  case ys28 => (intro W hW; obtain ⟨h1, h2⟩ := hW; go_simp; first | done | with_reducible rfl)
  try simp only [List.getElem_toArray, List.getElem_cons_succ, List.getElem_cons_zero, Act.put, List.setIfInBounds_toArray, List.set_cons_zero, List.set_cons_succ]
  refine wpAnyH_ready (rs := [25]) (by kernel_rfl) (by simp) ?_
  refine AllReadyH.cons rfl (fun K hK => ?_) (AllReadyH.nil)
  go_simp
  refine (HA.out _ b7.out).mono ?_
  rintro e u8 ⟨rfl, hb⟩
  have b8 := Lib.hid (b7.out.trans (hb.mono b7.out.size))
  have hh : u8.cell? ⟨gb, 0, none⟩ = some (.slice A q c) ∧ u8.cell? ⟨gb, 1, none⟩ = some (.int .i64 mm) := ⟨(Keeps.of_below hb) _ _ hHeld.1, (Keeps.of_below hb) _ _ hHeld.2⟩
  have HHH := Lib.hid hh
  clear hb hh
  go_wp2_with fail
  refine hK.out _ _ (HHH.out) (fun hHeld => ?_)
  clear hK K
  try simp only [List.getElem_toArray, List.getElem_cons_succ, List.getElem_cons_zero, Act.put, List.setIfInBounds_toArray, List.set_cons_zero, List.set_cons_succ]
  refine wpAnyH_ready (rs := [29]) (by kernel_rfl) (by simp) ?_
  refine AllReadyH.cons rfl (fun K hK => ?_) (AllReadyH.nil)
  go_simp
  refine (HrA.out _ b8.out).mono ?_
  rintro e u9 ⟨rfl, hb⟩
  have b9 := Lib.hid (b8.out.trans (hb.mono b8.out.size))
  have hh : u9.cell? ⟨gb, 0, none⟩ = some (.slice A q c) ∧ u9.cell? ⟨gb, 1, none⟩ = some (.int .i64 mm) := ⟨(Keeps.of_below hb) _ _ hHeld.1, (Keeps.of_below hb) _ _ hHeld.2⟩
  have HHH := Lib.hid hh
  clear hb hh
  go_wp2_with fail
  refine hK.out _ _ (HHH.out) (fun hHeld => ?_)
  clear hK K
  try simp only [List.getElem_toArray, List.getElem_cons_succ, List.getElem_cons_zero, Act.put, List.setIfInBounds_toArray, List.set_cons_zero, List.set_cons_succ]
  refine wpAnyH_take (i := 30) (v := ?vs30) rfl (by kernel_rfl) (by kernel_rfl) (by kernel_rfl) (fun _ _ _ h => h) (Or.inl ⟨by rfl, ?ys30⟩) hHeld ?rs30
  case ys30 => (intro W hW; obtain ⟨h1, h2⟩ := hW; go_simp; first | done | with_reducible rfl)
  try simp only [List.getElem_toArray, List.getElem_cons_succ, List.getElem_cons_zero, Act.put, List.setIfInBounds_toArray, List.set_cons_zero, List.set_cons_succ]
  refine wpAnyH_take (i := 31) (v := ?vs31) rfl (by kernel_rfl) (by kernel_rfl) (by kernel_rfl) (fun _ _ _ h => h) (Or.inl ⟨by rfl, ?ys31⟩) hHeld ?rs31
  case ys31 => (intro W hW; obtain ⟨h1, h2⟩ := hW; go_simp; first | done | with_reducible rfl)
  try simp only [List.getElem_toArray, List.getElem_cons_succ, List.getElem_cons_zero, Act.put, List.setIfInBounds_toArray, List.set_cons_zero, List.set_cons_succ]
  refine wpAnyH_take (i := 32) (v := ?vs32) rfl (by kernel_rfl) (by kernel_rfl) (by kernel_rfl) (fun _ _ _ h => h) (Or.inl ⟨by rfl, ?ys32⟩) hHeld ?rs32
  case ys32 => (intro W hW; obtain ⟨h1, h2⟩ := hW; go_simp; first | done | with_reducible rfl)
  try simp only [List.getElem_toArray, List.getElem_cons_succ, List.getElem_cons_zero, Act.put, List.setIfInBounds_toArray, List.set_cons_zero, List.set_cons_succ]
  refine wpAnyH_take (i := 33) (v := ?vs33) rfl (by kernel_rfl) (by kernel_rfl) (by kernel_rfl) (fun _ _ _ h => h) (Or.inl ⟨by rfl, ?ys33⟩) hHeld ?rs33
  case ys33 => (intro W hW; obtain ⟨h1, h2⟩ := hW; go_simp; first | done | with_reducible rfl)
  try simp only [List.getElem_toArray, List.getElem_cons_succ, List.getElem_cons_zero, Act.put, List.setIfInBounds_toArray, List.set_cons_zero, List.set_cons_succ]
  refine wpAnyH_take (i := 34) (v := ?vs34) rfl (by kernel_rfl) (by kernel_rfl) (by kernel_rfl) (fun _ _ _ h => h) (Or.inl ⟨by rfl, ?ys34⟩) hHeld ?rs34
  case ys34 => (intro W hW; obtain ⟨h1, h2⟩ := hW; go_simp; first | done | with_reducible rfl)
  try simp only [List.getElem_toArray, List.getElem_cons_succ, List.getElem_cons_zero, Act.put, List.setIfInBounds_toArray, List.set_cons_zero, List.set_cons_succ]
  refine wpAnyH_take (i := 35) (v := ?vs35) rfl (by kernel_rfl) (by kernel_rfl) (by kernel_rfl) (fun _ _ _ h => h) (Or.inl ⟨by rfl, ?ys35⟩) hHeld ?rs35
  case ys35 => (intro W hW; obtain ⟨h1, h2⟩ := hW; go_simp; first | done | with_reducible rfl)
  try simp only [List.getElem_toArray, List.getElem_cons_succ, List.getElem_cons_zero, Act.put, List.setIfInBounds_toArray, List.set_cons_zero, List.set_cons_succ]
  refine wpAnyH_take (i := 37) (v := ?vs37) rfl (by kernel_rfl) (by kernel_rfl) (by kernel_rfl) (fun _ _ _ h => h) (Or.inl ⟨by rfl, ?ys37⟩) hHeld ?rs37
  case ys37 => (intro W hW; obtain ⟨h1, h2⟩ := hW; go_simp; first | done | with_reducible rfl)
  try simp only [List.getElem_toArray, List.getElem_cons_succ, List.getElem_cons_zero, Act.put, List.setIfInBounds_toArray, List.set_cons_zero, List.set_cons_succ]
  refine wpAnyH_take (i := 38) (v := ?vs38) rfl (by kernel_rfl) (by kernel_rfl) (by kernel_rfl) (fun _ _ _ h => h) (Or.inl ⟨by rfl, ?ys38⟩) hHeld ?rs38
  case ys38 => (intro W hW; obtain ⟨h1, h2⟩ := hW; go_simp; first | done | with_reducible rfl)
  try simp only [List.getElem_toArray, List.getElem_cons_succ, List.getElem_cons_zero, Act.put, List.setIfInBounds_toArray, List.set_cons_zero, List.set_cons_succ]
  refine wpAnyH_take (i := 39) (v := ?vs39) rfl (by kernel_rfl) (by kernel_rfl) (by kernel_rfl) (fun _ _ _ h => h) (Or.inl ⟨by rfl, ?ys39⟩) hHeld ?rs39
  case ys39 => (intro W hW; obtain ⟨h1, h2⟩ := hW; go_simp; first | done | with_reducible rfl)
  try simp only [List.getElem_toArray, List.getElem_cons_succ, List.getElem_cons_zero, Act.put, List.setIfInBounds_toArray, List.set_cons_zero, List.set_cons_succ]
  refine wpAnyH_ready (rs := [36]) (by kernel_rfl) (by simp) ?_
  refine AllReadyH.cons rfl (fun K hK => ?_) (AllReadyH.nil)
  go_simp
  refine (HD.out _ b9.out).mono ?_
  rintro e u10 ⟨rfl, hb⟩
  have b10 := Lib.hid (b9.out.trans (hb.mono b9.out.size))
  have hh : u10.cell? ⟨gb, 0, none⟩ = some (.slice A q c) ∧ u10.cell? ⟨gb, 1, none⟩ = some (.int .i64 mm) := ⟨(Keeps.of_below hb) _ _ hHeld.1, (Keeps.of_below hb) _ _ hHeld.2⟩
  have HHH := Lib.hid hh
  clear hb hh
  go_wp2_with fail
  refine hK.out _ _ (HHH.out) (fun hHeld => ?_)
  clear hK K
  try simp only [List.getElem_toArray, List.getElem_cons_succ, List.getElem_cons_zero, Act.put, List.setIfInBounds_toArray, List.set_cons_zero, List.set_cons_succ]
  refine wpAnyH_ready (rs := [40]) (by kernel_rfl) (by simp) ?_
  refine AllReadyH.cons rfl (fun K hK => ?_) (AllReadyH.nil)
  go_simp
  refine (HrD.out _ b10.out).mono ?_
  rintro e u11 ⟨rfl, hb⟩
  have b11 := Lib.hid (b10.out.trans (hb.mono b10.out.size))
  have hh : u11.cell? ⟨gb, 0, none⟩ = some (.slice A q c) ∧ u11.cell? ⟨gb, 1, none⟩ = some (.int .i64 mm) := ⟨(Keeps.of_below hb) _ _ hHeld.1, (Keeps.of_below hb) _ _ hHeld.2⟩
  have HHH := Lib.hid hh
  clear hb hh
  go_wp2_with fail
  refine hK.out _ _ (HHH.out) (fun hHeld => ?_)
  clear hK K
  try simp only [List.getElem_toArray, List.getElem_cons_succ, List.getElem_cons_zero, Act.put, List.setIfInBounds_toArray, List.set_cons_zero, List.set_cons_succ]
  refine wpAnyH_take (i := 41) (v := ?vs41) rfl (by kernel_rfl) (by kernel_rfl) (by kernel_rfl) (fun _ _ _ h => h) (Or.inl ⟨by rfl, ?ys41⟩) hHeld ?rs41
  case ys41 => (intro W hW; obtain ⟨h1, h2⟩ := hW; go_simp; first | done | with_reducible rfl)
  try simp only [List.getElem_toArray, List.getElem_cons_succ, List.getElem_cons_zero, Act.put, List.setIfInBounds_toArray, List.set_cons_zero, List.set_cons_succ]
  refine wpAnyH_take (i := 42) (v := ?vs42) rfl (by kernel_rfl) (by kernel_rfl) (by kernel_rfl) (fun _ _ _ h => h) (Or.inl ⟨by rfl, ?ys42⟩) hHeld ?rs42
  case ys42 => (intro W hW; obtain ⟨h1, h2⟩ := hW; go_simp; first | done | with_reducible rfl)
  try simp only [List.getElem_toArray, List.getElem_cons_succ, List.getElem_cons_zero, Act.put, List.setIfInBounds_toArray, List.set_cons_zero, List.set_cons_succ]
  refine wpAnyH_take (i := 43) (v := ?vs43) rfl (by kernel_rfl) (by kernel_rfl) (by kernel_rfl) (fun _ _ _ h => h) (Or.inl ⟨by rfl, ?ys43⟩) hHeld ?rs43
  case ys43 => (intro W hW; obtain ⟨h1, h2⟩ := hW; go_simp; first | done | with_reducible rfl)
  try simp only [List.getElem_toArray, List.getElem_cons_succ, List.getElem_cons_zero, Act.put, List.setIfInBounds_toArray, List.set_cons_zero, List.set_cons_succ]
  refine wpAnyH_take (i := 44) (v := ?vs44) rfl (by kernel_rfl) (by kernel_rfl) (by kernel_rfl) (fun _ _ _ h => h) (Or.inl ⟨by rfl, ?ys44⟩) hHeld ?rs44
  case ys44 => (intro W hW; obtain ⟨h1, h2⟩ := hW; go_simp; first | done | with_reducible rfl)
  try simp only [List.getElem_toArray, List.getElem_cons_succ, List.getElem_cons_zero, Act.put, List.setIfInBounds_toArray, List.set_cons_zero, List.set_cons_succ]
  refine wpAnyH_take (i := 45) (v := ?vs45) rfl (by kernel_rfl) (by kernel_rfl) (by kernel_rfl) (fun _ _ _ h => h) (Or.inl ⟨by rfl, ?ys45⟩) hHeld ?rs45
  case ys45 => (intro W hW; obtain ⟨h1, h2⟩ := hW; go_simp; first | done | with_reducible rfl)
  try simp only [List.getElem_toArray, List.getElem_cons_succ, List.getElem_cons_zero, Act.put, List.setIfInBounds_toArray, List.set_cons_zero, List.set_cons_succ]
  refine wpAnyH_take (i := 46) (v := ?vs46) rfl (by kernel_rfl) (by kernel_rfl) (by kernel_rfl) (fun _ _ _ h => h) (Or.inl ⟨by rfl, ?ys46⟩) hHeld ?rs46
  case ys46 => (intro W hW; obtain ⟨h1, h2⟩ := hW; go_simp; first | done | with_reducible rfl)
  try simp only [List.getElem_toArray, List.getElem_cons_succ, List.getElem_cons_zero, Act.put, List.setIfInBounds_toArray, List.set_cons_zero, List.set_cons_succ]
  refine wpAnyH_take (i := 48) (v := ?vs48) rfl (by kernel_rfl) (by kernel_rfl) (by kernel_rfl) (fun _ _ _ h => h) (Or.inl ⟨by rfl, ?ys48⟩) hHeld ?rs48
  case ys48 => (intro W hW; obtain ⟨h1, h2⟩ := hW; go_simp; first | done | with_reducible rfl)
  try simp only [List.getElem_toArray, List.getElem_cons_succ, List.getElem_cons_zero, Act.put, List.setIfInBounds_toArray, List.set_cons_zero, List.set_cons_succ]
  refine wpAnyH_take (i := 49) (v := ?vs49) rfl (by kernel_rfl) (by kernel_rfl) (by kernel_rfl) (fun _ _ _ h => h) (Or.inl ⟨by rfl, ?ys49⟩) hHeld ?rs49
  case ys49 => (intro W hW; obtain ⟨h1, h2⟩ := hW; go_simp; first | done | with_reducible rfl)
  try simp only [List.getElem_toArray, List.getElem_cons_succ, List.getElem_cons_zero, Act.put, List.setIfInBounds_toArray, List.set_cons_zero, List.set_cons_succ]
  refine wpAnyH_take (i := 50) (v := ?vs50) rfl (by kernel_rfl) (by kernel_rfl) (by kernel_rfl) (fun _ _ _ h => h) (Or.inl ⟨by rfl, ?ys50⟩) hHeld ?rs50
  case ys50 => (intro W hW; obtain ⟨h1, h2⟩ := hW; go_simp; first | done | with_reducible rfl)
  try simp only [List.getElem_toArray, List.getElem_cons_succ, List.getElem_cons_zero, Act.put, List.setIfInBounds_toArray, List.set_cons_zero, List.set_cons_succ]
  refine wpAnyH_ready (rs := [47]) (by kernel_rfl) (by simp) ?_
  refine AllReadyH.cons rfl (fun K hK => ?_) (AllReadyH.nil)
  go_simp
  refine (HC.out _ b11.out).mono ?_
  rintro e u12 ⟨rfl, hb⟩
  have b12 := Lib.hid (b11.out.trans (hb.mono b11.out.size))
  have hh : u12.cell? ⟨gb, 0, none⟩ = some (.slice A q c) ∧ u12.cell? ⟨gb, 1, none⟩ = some (.int .i64 mm) := ⟨(Keeps.of_below hb) _ _ hHeld.1, (Keeps.of_below hb) _ _ hHeld.2⟩
  have HHH := Lib.hid hh
  clear hb hh
  go_wp2_with fail
  refine hK.out _ _ (HHH.out) (fun hHeld => ?_)
  clear hK K
  try simp only [List.getElem_toArray, List.getElem_cons_succ, List.getElem_cons_zero, Act.put, List.setIfInBounds_toArray, List.set_cons_zero, List.set_cons_succ]
  refine wpAnyH_ready (rs := [51]) (by kernel_rfl) (by simp) ?_
  refine AllReadyH.cons rfl (fun K hK => ?_) (AllReadyH.nil)
  go_simp
  refine (HrC.out _ b12.out).mono ?_
  rintro e u13 ⟨rfl, hb⟩
  have b13 := Lib.hid (b12.out.trans (hb.mono b12.out.size))
  have hh : u13.cell? ⟨gb, 0, none⟩ = some (.slice A q c) ∧ u13.cell? ⟨gb, 1, none⟩ = some (.int .i64 mm) := ⟨(Keeps.of_below hb) _ _ hHeld.1, (Keeps.of_below hb) _ _ hHeld.2⟩
  have HHH := Lib.hid hh
  clear hb hh
  go_wp2_with fail
  refine hK.out _ _ (HHH.out) (fun hHeld => ?_)
  clear hK K
  try simp only [List.getElem_toArray, List.getElem_cons_succ, List.getElem_cons_zero, Act.put, List.setIfInBounds_toArray, List.set_cons_zero, List.set_cons_succ]
  refine wpAnyH_take (i := 52) (v := ?vs52) rfl (by kernel_rfl) (by kernel_rfl) (by kernel_rfl) (fun _ _ _ h => h) (Or.inl ⟨by rfl, ?ys52⟩) hHeld ?rs52
  case ys52 => (intro W hW; obtain ⟨h1, h2⟩ := hW; go_simp; first | done | with_reducible rfl)
  try simp only [List.getElem_toArray, List.getElem_cons_succ, List.getElem_cons_zero, Act.put, List.setIfInBounds_toArray, List.set_cons_zero, List.set_cons_succ]
  refine wpAnyH_take (i := 53) (v := ?vs53) rfl (by kernel_rfl) (by kernel_rfl) (by kernel_rfl) (fun _ _ _ h => h) (Or.inl ⟨by rfl, ?ys53⟩) hHeld ?rs53
  case ys53 => (intro W hW; obtain ⟨h1, h2⟩ := hW; go_simp; first | done | with_reducible rfl)
  try simp only [List.getElem_toArray, List.getElem_cons_succ, List.getElem_cons_zero, Act.put, List.setIfInBounds_toArray, List.set_cons_zero, List.set_cons_succ]
  refine wpAnyH_ready (rs := [54]) (by kernel_rfl) (by simp) ?_
  refine AllReadyH.cons rfl (fun K hK => ?_) (AllReadyH.nil)
  go_simp
  refine hK.out _ _ (HHH.out) (fun hHeld => ?_)
  clear hK K
  try simp only [List.getElem_toArray, List.getElem_cons_succ, List.getElem_cons_zero, Act.put, List.setIfInBounds_toArray, List.set_cons_zero, List.set_cons_succ]
  refine wpAnyH_done (by kernel_rfl) ?_ _
  go_wp2
  go_ret
  exact ⟨rfl, HB3.out.trans (b13.out.mono HB3.out.size)⟩
end Go.Proofs.YtaopanclnaimpaaDoor
