/- The law LatticeSizes. -/
import Derived.Test.YtaopanclnaimpaaDoorL8
import Derived.IntWalk
namespace Go.Proofs.YtaopanclnaimpaaDoor
open Go.RowKit Go.Shelf
attribute [local go_sem] Oper.semAt_some
theorem fold_sub (cs : List Int) (hc : ∀ x ∈ cs, 1 ≤ x ∧ x ≤ 16) {l1 l2 : List Int} (h : l1.Sublist l2) : (∀ d ∈ l2, 0 ≤ d ∧ d < cs.length) → ∀ a b : Int, 0 ≤ a → a ≤ b → l1.foldl (fun a d => a * cs.getD d.toNat 0) a ≤ l2.foldl (fun a d => a * cs.getD d.toNat 0) b := by
  induction h with
  | slnil => intro _ a b _ hab; exact hab
  | @cons l1 l2 x hs ih =>
    intro hd a b ha hab
    have hx := getD_in hc (i := x.toNat) (by have := hd x (by simp); omega)
    refine ih (fun d h => hd d (by simp [h])) a _ ha ?_
    have := Int.mul_le_mul hab hx.1 (by omega) (by omega)
    show a ≤ b * cs.getD x.toNat 0
    omega
  | @cons_cons l1 l2 x hs ih =>
    intro hd a b ha hab
    have hx := getD_in hc (i := x.toNat) (by have := hd x (by simp); omega)
    exact ih (fun d h => hd d (by simp [h])) _ _ (Int.mul_nonneg ha (by omega)) (Int.mul_le_mul_of_nonneg_right hab (by omega))
theorem par_sub : ∀ k : Fin 16, ∀ q : Fin 5, ∀ x ∈ parL k.val q.val, (dimsL k.val).Sublist (dimsL x) ∧ (k.val < 2 ^ q.val → 0 ≤ x ∧ x ≤ fullB q.val) := by decide +kernel
theorem par_ge {cs : List Int} {n k : Int} (hc : ∀ x ∈ cs, 1 ≤ x ∧ x ≤ 16) (h1 : 0 ≤ k) (h2 : k ≤ fullB cs.length) (h4 : cs.length ≤ 4) : ∀ x ∈ parL k cs.length, 0 ≤ x ∧ x ≤ fullB cs.length ∧ sizeB cs n k ≤ sizeB cs n x := by
  intro x hx
  have hf := fullB_15 cs.length h4
  obtain ⟨kn, rfl⟩ : ∃ kn : Nat, k = (kn : Int) := ⟨k.toNat, by omega⟩
  obtain ⟨a, b⟩ := par_sub ⟨kn, by omega⟩ ⟨cs.length, by omega⟩ x hx
  have hlt : kn < 2 ^ cs.length := by
    have hp : ((2 ^ cs.length : Nat) : Int) = (2 : Int) ^ cs.length := by push_cast; rfl
    unfold fullB at h2
    omega
  obtain ⟨b1, b2⟩ := b hlt
  have hk : keysN cs kn ≤ keysN cs x := fold_sub cs hc a (dimsL_lt _ x b1 b2 h4) 1 1 (by omega) (by omega)
  refine ⟨b1, b2, ?_⟩
  unfold sizeB
  omega
theorem bitLen_step : ∀ n : Fin 300, Lib.bitLen n.val ≤ Lib.bitLen (n.val + 1) := by decide +kernel
theorem bitLen_mono (a : Nat) : ∀ d, a + d ≤ 300 → Lib.bitLen a ≤ Lib.bitLen (a + d)
  | 0, _ => Nat.le_refl _
  | d + 1, h => Nat.le_trans (bitLen_mono a d (by omega)) (bitLen_step ⟨a + d, by omega⟩)
theorem sortB_ge (cs : List Int) (n k : Int) (h : 0 ≤ sizeB cs n k) : sizeB cs n k ≤ sortB cs n k := by
  unfold sortB
  have := Int.mul_nonneg h (show (0 : Int) ≤ (Lib.bitLen (sizeB cs n k).toNat : Int) by omega)
  omega
theorem sizeB_mono {cs : List Int} {n m k : Int} (h : n ≤ m) : sizeB cs n k ≤ sizeB cs m k := by unfold sizeB; omega
theorem sortB_mono {cs : List Int} {n m k : Int} (h : n ≤ m) (h0 : 0 ≤ sizeB cs n k) (h3 : sizeB cs m k ≤ 300) : sortB cs n k ≤ sortB cs m k := by
  have ha := sizeB_mono (cs := cs) (k := k) h
  unfold sortB
  generalize sizeB cs n k = a at *
  generalize sizeB cs m k = b at *
  have hb := bitLen_mono a.toNat (b.toNat - a.toNat) (by omega)
  rw [show a.toNat + (b.toNat - a.toNat) = b.toNat by omega] at hb
  have := Int.mul_le_mul ha (show (Lib.bitLen a.toNat : Int) ≤ (Lib.bitLen b.toNat : Int) by omega) (by omega) (by omega)
  omega
theorem sizeB_none {cs : List Int} {n k : Int} (hc : ∀ x ∈ cs, 1 ≤ x ∧ x ≤ 16) (h1 : 0 ≤ k) (h2 : k ≤ fullB cs.length) (h4 : cs.length ≤ 4) : sizeB cs n k ≤ n ∧ (n == 0) = (sizeB cs n k == 0) := by
  have := keysN_bd hc h1 h2 h4
  unfold sizeB
  refine ⟨by omega, ?_⟩
  rw [Bool.eq_iff_iff]
  simp only [beq_iff_eq]
  omega
set_option maxRecDepth 100000 in
set_option maxHeartbeats 8000000 in
theorem latticeSizes_walk (a0 : Int) (a1 : Option Addr) (len1 cap1 : Nat) (z1 : List Int) (a2 a3 a4 : Int) (w : World) (h0 : inK .i64 a0) (w1 : IsRow .i64 w a1 len1 cap1 z1) (h2 : inK .i64 a2) (h3 : inK .i64 a3) (h4 : inK .i64 a4) (hT : Tab w) (hw1 : 1 < w.heap.size) :
    Calls Tryd.prog 5 #[.int .i64 a0, .slice a1 len1 cap1, .int .i64 a2, .int .i64 a3, .int .i64 a4] w fun e w' => e = .returned (.bool true) ∧ Below w.heap.size w w' := by
  obtain ⟨n1, lc1, cm1⟩ := w1.nums
  have N1 := Lib.hid n1
  have HKn := Lib.hid (known8_any w hT hw1)
  have HT := Lib.hid hT
  clear w1 n1 hT
  go_enter Tryd.func5, Tryd.ntmps5
  go_wp2_with fail
  refine HKn.out.mono ?_
  rintro e w1 ⟨rfl, hb1⟩
  have Hb1 := Lib.hid hb1
  clear hb1 HKn
  go_wp2_with fail
  refine (Facts_res a0 0 a1 none len1 cap1 0 0 _ [] w1 (N1.out.keep (Keeps.of_below Hb1.out)) (Nums.nil _ _ _) (by omega) (by omega) h0 (by constructor <;> omega)).mono ?_
  rintro e w2 ⟨A, c, D, d, C, q, mm, m, cs, l, rfl, hF⟩
  obtain ⟨k1, k2, k3⟩ : 1 ≤ q ∧ q ≤ 4 ∧ mm ≤ 2 := ⟨hF.q1, hF.q4, hF.m2⟩
  have hb2 : Below w.heap.size w w2 := Hb1.out.trans (hF.below.mono Hb1.out.size)
  have CS := Lib.hid hF.c16
  have NQ := Lib.hid hF.nums
  have HLQ := Lib.hid hF.eq
  have hb3 : Below w.heap.size w (w2.alloc (.cells #[.slice A q c, .int .i64 mm] 25)) := hb2.alloc hb2.size _
  have hbx : Box2 25 (w2.alloc (.cells #[.slice A q c, .int .i64 mm] 25)) w2.heap.size (.slice A q c) (.int .i64 mm) := Box2.new _ _ _ _
  have hnq : Nums .i64 (w2.alloc (.cells #[.slice A q c, .int .i64 mm] 25)) A q cs := hF.nums.keep (Keeps.of_below ((Below.refl _ w2).alloc (Nat.le_refl _) _))
  have h31 : 1 < (w2.alloc (.cells #[.slice A q c, .int .i64 mm] 25)).heap.size := by have := hb3.size; omega
  have HB3 := Lib.hid hb3
  have HBX := Lib.hid hbx
  have HNQ := Lib.hid hnq
  obtain ⟨W3, hW3⟩ : ∃ W3, W3 = w2.alloc (.cells #[.slice A q c, .int .i64 mm] 25) := ⟨_, rfl⟩
  rw [← hW3] at HB3 HBX HNQ h31
  have HW3 := Lib.hid hW3
  have HT3 := Lib.hid (HT.out.below HB3.out hw1)
  have hg3 := HBX.out.lt
  obtain ⟨s1, s2⟩ := set8_bd a4 q k1 k2
  have hsh := shl_wrap q k2
  have hsp := pow_bd q k2
  have HWI := Lib.hid (lwithin8 a4 (2 ^ q) W3 h4 hsp.1 (Int.le_trans hsp.2 (by decide)))
  obtain ⟨k, hk⟩ : ∃ k, k = a4 % 2 ^ q := ⟨_, rfl⟩
  rw [← hk] at HWI s1 s2
  obtain ⟨gb, hgb⟩ : ∃ gb, gb = w2.heap.size := ⟨_, rfl⟩
  rw [← hgb] at HBX hg3
  have HGB := Lib.hid hgb
  have c0 := HBX.out.cell0
  have c1 := HBX.out.cell1
  clear hF hnq hb3 hb2 hbx hk hW3 hgb
  have HWN := Lib.hid (lwithin8 a2 301 W3 h2 (by omega) (by omega))
  obtain ⟨n, hn⟩ : ∃ n, n = a2 % 301 := ⟨_, rfl⟩
  rw [← hn] at HWN
  have r1 : 0 ≤ n := by omega
  have r2 : n ≤ 300 := by omega
  have HWM := Lib.hid (fun W => lwithin8 a3 50 W h3 (by omega) (by omega))
  obtain ⟨mo, hmo⟩ : ∃ mo, mo = a3 % 50 := ⟨_, rfl⟩
  rw [← hmo] at HWM
  have t1 : 0 ≤ mo := by omega
  have t2 : mo ≤ 49 := by omega
  obtain ⟨mx, hmx⟩ : ∃ mx, mx = min 300 (n + mo) := ⟨_, rfl⟩
  have x1 : n ≤ mx := by omega
  have x0 : 0 ≤ mx := by omega
  have x2 : mx ≤ 300 := by omega
  have HMX := Lib.hid hmx
  clear hn hmo hmx
  have h0HA := fun (W : World) (hb : Below W3.heap.size W3 W) => size_any A q c mm cs n k W (HNQ.out.keep (Keeps.of_below hb)) k1 k2 k3 CS.out r1 r2 s1 s2 (HT3.out.below hb h31) (Nat.lt_of_lt_of_le h31 hb.size)
  have HA := Lib.hid h0HA
  clear h0HA
  have h0HB := fun (W : World) (hb : Below W3.heap.size W3 W) => size_any A q c mm cs mx k W (HNQ.out.keep (Keeps.of_below hb)) k1 k2 k3 CS.out x0 x2 s1 s2 (HT3.out.below hb h31) (Nat.lt_of_lt_of_le h31 hb.size)
  have HB := Lib.hid h0HB
  clear h0HB
  have h0HC := fun (W : World) (hb : Below W3.heap.size W3 W) => sort_any A q c mm cs n k W (HNQ.out.keep (Keeps.of_below hb)) k1 k2 k3 CS.out r1 r2 s1 s2 (HT3.out.below hb h31) (Nat.lt_of_lt_of_le h31 hb.size)
  have HC := Lib.hid h0HC
  clear h0HC
  have h0HD := fun (W : World) (hb : Below W3.heap.size W3 W) => scan_any A q c mm cs n k W (HNQ.out.keep (Keeps.of_below hb)) k1 k2 k3 CS.out r1 r2 s1 s2 (HT3.out.below hb h31) (Nat.lt_of_lt_of_le h31 hb.size)
  have HD := Lib.hid h0HD
  clear h0HD
  have h0HE := fun (W : World) (hb : Below W3.heap.size W3 W) => sort_any A q c mm cs mx k W (HNQ.out.keep (Keeps.of_below hb)) k1 k2 k3 CS.out x0 x2 s1 s2 (HT3.out.below hb h31) (Nat.lt_of_lt_of_le h31 hb.size)
  have HE := Lib.hid h0HE
  clear h0HE
  have HP := Lib.hid (fun (W : World) (hb : Below W3.heap.size W3 W) (x : Int) (y1 : 0 ≤ x) (y2 : x ≤ fullB q) => size_any A q c mm cs n x W (HNQ.out.keep (Keeps.of_below hb)) k1 k2 k3 CS.out r1 r2 y1 y2 (HT3.out.below hb h31) (Nat.lt_of_lt_of_le h31 hb.size))
  have PG := par_ge (n := n) CS.out s1 (by rw [HLQ.out]; exact s2) (by rw [HLQ.out]; exact k2)
  rw [HLQ.out] at PG
  have zb := sizeB_bd (rows := n) CS.out s1 (by rw [HLQ.out]; exact s2) (by rw [HLQ.out]; exact k2) r1 r2
  have zm := sizeB_bd (rows := mx) CS.out s1 (by rw [HLQ.out]; exact s2) (by rw [HLQ.out]; exact k2) x0 x2
  have q1 := sizeB_mono (cs := cs) (k := k) x1
  have q2 := sortB_ge cs n k zb.1
  have q3 := sortB_mono (cs := cs) (k := k) x1 zb.1 zm.2
  obtain ⟨q4, q5⟩ := sizeB_none (n := n) CS.out s1 (by rw [HLQ.out]; exact s2) (by rw [HLQ.out]; exact k2)
  obtain ⟨z, hz⟩ : ∃ z, z = sizeB cs n k := ⟨_, rfl⟩
  obtain ⟨zz, hzz⟩ : ∃ zz, zz = sizeB cs mx k := ⟨_, rfl⟩
  obtain ⟨so, hso⟩ : ∃ so, so = sortB cs n k := ⟨_, rfl⟩
  obtain ⟨sx, hsx⟩ : ∃ sx, sx = sortB cs mx k := ⟨_, rfl⟩
  simp only [← hz, ← hzz, ← hso, ← hsx] at HA HB HC HD HE PG zb zm q1 q2 q3 q4 q5
  obtain ⟨z1, z2⟩ := zb
  obtain ⟨nb, hnb⟩ : ∃ nb, (z == 0) = nb := ⟨_, rfl⟩
  rw [hnb] at q5
  have HPG := Lib.hid PG
  have Q5 := Lib.hid q5
  have QNB := Lib.hid hnb
  clear hz hzz hso hsx PG zm q5 hnb
  have B0 := Lib.hid (Below.refl W3.heap.size W3)
  go_wp2_with fail
  rw [← HW3.out, ← HGB.out]
  have c0 := HBX.out.cell0
  have c1 := HBX.out.cell1
  go_wp2_with fail
  refine HWI.out.mono ?_
  rintro e w' ⟨rfl, rfl⟩
  go_wp2_with fail
  refine HWN.out.mono ?_
  rintro e w' ⟨rfl, rfl⟩
  go_wp2_with fail
  refine (HA.out _ B0.out).mono ?_
  rintro e v1 ⟨rfl, hb⟩
  have B1 := Lib.hid (B0.out.trans (hb.mono B0.out.size))
  have hx := HBX.out.below B1.out hg3
  have d0 := hx.cell0
  have d1 := hx.cell1
  clear hb hx
  go_wp2_with fail
  refine (par_nums k q v1 s1 s2 k1 k2 (HT3.out.below B1.out h31) (Nat.lt_of_lt_of_le h31 B1.out.size)).mono ?_
  rintro e v2 ⟨P, cp, rfl, hpn, -, hb⟩
  have B2 := Lib.hid (B1.out.trans (hb.mono B1.out.size))
  have HPN := Lib.hid hpn
  obtain ⟨lp, hlp⟩ : ∃ lp, lp = (parL k q).length := ⟨_, rfl⟩
  rw [← hlp] at HPN ⊢
  have lp9 : lp ≤ 4 := by rw [hlp]; unfold parL; rw [List.length_map]; exact dimsL_le _
  clear hb hpn hlp d0 d1
  go_wp2_with fail
  go_loopw [18] (fun i wr => ∃ j : Nat, i = .int .i64 j ∧ j ≤ lp ∧ Below v2.heap.size v2 wr) (fun i _ => lp - (intOf i).toNat)
  case atStart => exact ⟨0, rfl, Nat.zero_le _, Below.refl _ _⟩
  case round =>
    obtain ⟨j, rfl, hj, hbr⟩ := hrel
    rename World => wr
    have B3 := Lib.hid (B2.out.trans (hbr.mono B2.out.size))
    have HP3 := Lib.hid (HPN.out.keep (Keeps.of_below hbr))
    have HBr := Lib.hid hbr
    have hx := HBX.out.below B3.out hg3
    have d0 := hx.cell0
    have d1 := hx.cell1
    clear hbr hx
    by_cases hlt : j < lp
    · obtain ⟨ad, y, rfl, hy, -, hcell⟩ := HP3.out.at_ hlt
      obtain ⟨y1, y2, y3⟩ := HPG.out y (List.mem_of_getElem? hy)
      have i0 : (0 : Int) ≤ (j : Int) := by omega
      have i1 : (j : Int) < (lp : Int) := by omega
      have hSt := HP.out wr.drew B3.out.drew y y1 y2
      obtain ⟨py, hpy⟩ : ∃ py, py = sizeB cs n y := ⟨_, rfl⟩
      rw [← hpy] at hSt y3
      have hdl : decide (py < z) = false := by simp; omega
      have HSt := Lib.hid hSt
      have HH := Lib.hid (show wr.drew.cell? ⟨gb, 0, none⟩ = some (.slice A q c) ∧ wr.drew.cell? ⟨gb, 1, none⟩ = some (.int .i64 mm) ∧ wr.drew.cell? (ad.add j) = some (.int .i64 y) from ⟨d0, d1, hcell⟩)
      clear hSt hy hpy y1 y2
      go_wp2_with fail
      refine wp_region_held_drew (S := fun W => W.cell? ⟨gb, 0, none⟩ = some (.slice A q c) ∧ W.cell? ⟨gb, 1, none⟩ = some (.int .i64 mm) ∧ W.cell? (ad.add j) = some (.int .i64 y)) (by kernel_rfl) HH.out (fun hHeld => ?_)
      refine wpAnyH_take (i := 0) (v := ?vs0) rfl (by kernel_rfl) (by kernel_rfl) (by kernel_rfl) (fun _ _ _ h => h) (Or.inl ⟨by rfl, ?ys0⟩) hHeld ?rs0
      case ys0 => (intro W hW; obtain ⟨h1, h2, h3⟩ := hW; go_simp; first | done | with_reducible rfl)
      try simp only [List.getElem_toArray, List.getElem_cons_zero, Act.put, List.setIfInBounds_toArray, List.set_cons_zero, List.set_cons_succ]
      refine wpAnyH_take (i := 1) (v := ?vs1) rfl (by kernel_rfl) (by kernel_rfl) (by kernel_rfl) (fun _ _ _ h => h) (Or.inl ⟨by rfl, ?ys1⟩) hHeld ?rs1
      case ys1 => (intro W hW; obtain ⟨h1, h2, h3⟩ := hW; go_simp; first | done | with_reducible rfl)
      try simp only [List.getElem_toArray, List.getElem_cons_succ, List.getElem_cons_zero, Act.put, List.setIfInBounds_toArray, List.set_cons_zero, List.set_cons_succ]
      refine wpAnyH_take (i := 2) (v := ?vs2) rfl (by kernel_rfl) (by kernel_rfl) (by kernel_rfl) (fun _ _ _ h => h) (Or.inl ⟨by rfl, ?ys2⟩) hHeld ?rs2
      case ys2 => (intro W hW; obtain ⟨h1, h2, h3⟩ := hW; go_simp; first | done | with_reducible rfl)
      try simp only [List.getElem_toArray, List.getElem_cons_succ, List.getElem_cons_zero, Act.put, List.setIfInBounds_toArray, List.set_cons_zero, List.set_cons_succ]
      refine wpAnyH_take (i := 3) (v := ?vs3) rfl (by kernel_rfl) (by kernel_rfl) (by kernel_rfl) (fun _ _ _ h => h) (Or.inl ⟨by rfl, ?ys3⟩) hHeld ?rs3
      case ys3 => (intro W hW; obtain ⟨h1, h2, h3⟩ := hW; go_simp; first | done | with_reducible rfl)
      try simp only [List.getElem_toArray, List.getElem_cons_succ, List.getElem_cons_zero, Act.put, List.setIfInBounds_toArray, List.set_cons_zero, List.set_cons_succ]
      refine wpAnyH_take (i := 4) (v := ?vs4) rfl (by kernel_rfl) (by kernel_rfl) (by kernel_rfl) (fun _ _ _ h => h) (Or.inl ⟨by rfl, ?ys4⟩) hHeld ?rs4
      case ys4 => (intro W hW; obtain ⟨h1, h2, h3⟩ := hW; go_simp; first | done | with_reducible rfl)
      try simp only [List.getElem_toArray, List.getElem_cons_succ, List.getElem_cons_zero, Act.put, List.setIfInBounds_toArray, List.set_cons_zero, List.set_cons_succ]
      refine wpAnyH_take (i := 5) (v := ?vs5) rfl (by kernel_rfl) (by kernel_rfl) (by kernel_rfl) (fun _ _ _ h => h) (Or.inl ⟨by rfl, ?ys5⟩) hHeld ?rs5
      case ys5 => (intro W hW; obtain ⟨h1, h2, h3⟩ := hW; go_simp; first | done | with_reducible rfl)
      try simp only [List.getElem_toArray, List.getElem_cons_succ, List.getElem_cons_zero, Act.put, List.setIfInBounds_toArray, List.set_cons_zero, List.set_cons_succ]
      refine wpAnyH_take (i := 7) (v := ?vs7) rfl (by kernel_rfl) (by kernel_rfl) (by kernel_rfl) (fun _ _ _ h => h) (Or.inl ⟨by rfl, ?ys7⟩) hHeld ?rs7
      case ys7 => (intro W hW; obtain ⟨h1, h2, h3⟩ := hW; go_simp; first | done | with_reducible rfl)
      try simp only [List.getElem_toArray, List.getElem_cons_succ, List.getElem_cons_zero, Act.put, List.setIfInBounds_toArray, List.set_cons_zero, List.set_cons_succ]
      refine wpAnyH_ready (rs := [6]) (by kernel_rfl) (by simp) ?_
      refine AllReadyH.cons rfl (fun K hK => ?_) (AllReadyH.nil)
      go_simp
      refine HSt.out.mono ?_
      rintro e w5 ⟨rfl, hb5⟩
      have K5 := Keeps.of_below hb5
      have HH5 := Lib.hid (show w5.cell? ⟨gb, 0, none⟩ = some (.slice A q c) ∧ w5.cell? ⟨gb, 1, none⟩ = some (.int .i64 mm) ∧ w5.cell? (ad.add j) = some (.int .i64 y) from ⟨K5 _ _ HH.out.1, K5 _ _ HH.out.2.1, K5 _ _ HH.out.2.2⟩)
      have HB5 := Lib.hid hb5
      clear hb5 K5
      go_wp2_with fail
      refine hK.out _ _ (HH5.out) (fun hHeld => ?_)
      clear hK K
      try simp only [List.getElem_toArray, List.getElem_cons_succ, List.getElem_cons_zero, Act.put, List.setIfInBounds_toArray, List.set_cons_zero, List.set_cons_succ]
      refine wpAnyH_take (i := 8) (v := ?vs8) rfl (by kernel_rfl) (by kernel_rfl) (by kernel_rfl) (fun _ _ _ h => h) (Or.inl ⟨by rfl, ?ys8⟩) hHeld ?rs8
      case ys8 => (intro W hW; go_simp; first | done | with_reducible rfl)
      try simp only [List.getElem_toArray, List.getElem_cons_succ, List.getElem_cons_zero, Act.put, List.setIfInBounds_toArray, List.set_cons_zero, List.set_cons_succ]
      refine wpAnyH_done (by kernel_rfl) ?_ _
      go_wp2
      go_roundw
      case rel => exact ⟨j + 1, by go_num, by omega, HBr.out.trans ((Below.refl _ wr).drew.trans HB5.out |>.mono HBr.out.size)⟩
      case measure => simp [intOf]; omega
    · obtain rfl : j = lp := by omega
      have e5 := Q5.out
      have e6 := QNB.out
      go_wp2_with fail
      refine (HWM.out wr).mono ?_
      rintro e w' ⟨rfl, rfl⟩
      go_wp2_with fail
      go_upto_region 14 with (fail)
      try rw [← HMX.out]
      refine wp_region_held_drew (S := fun W => W.cell? ⟨gb, 0, none⟩ = some (.slice A q c) ∧ W.cell? ⟨gb, 1, none⟩ = some (.int .i64 mm)) (by kernel_rfl) (show wr.drew.cell? ⟨gb, 0, none⟩ = some (.slice A q c) ∧ wr.drew.cell? ⟨gb, 1, none⟩ = some (.int .i64 mm) from ⟨d0, d1⟩) (fun hHeld => ?_)
      have b0 := Lib.hid B3.out.drew
      refine wpAnyH_take (i := 0) (v := ?vt0) rfl (by kernel_rfl) (by kernel_rfl) (by kernel_rfl) (fun _ _ _ h => h) (Or.inl ⟨by rfl, ?yt0⟩) hHeld ?rt0
      case yt0 => (intro W hW; obtain ⟨h1, h2⟩ := hW; go_simp; first | done | with_reducible rfl)
      try simp only [List.getElem_toArray, List.getElem_cons_zero, Act.put, List.setIfInBounds_toArray, List.set_cons_zero, List.set_cons_succ]
      refine wpAnyH_take (i := 1) (v := ?vt1) rfl (by kernel_rfl) (by kernel_rfl) (by kernel_rfl) (fun _ _ _ h => h) (Or.inl ⟨by rfl, ?yt1⟩) hHeld ?rt1
      case yt1 => (intro W hW; obtain ⟨h1, h2⟩ := hW; go_simp; first | done | with_reducible rfl)
      try simp only [List.getElem_toArray, List.getElem_cons_succ, List.getElem_cons_zero, Act.put, List.setIfInBounds_toArray, List.set_cons_zero, List.set_cons_succ]
      refine wpAnyH_take (i := 2) (v := ?vt2) rfl (by kernel_rfl) (by kernel_rfl) (by kernel_rfl) (fun _ _ _ h => h) (Or.inl ⟨by rfl, ?yt2⟩) hHeld ?rt2
      case yt2 => (intro W hW; obtain ⟨h1, h2⟩ := hW; go_simp; first | done | with_reducible rfl)
      try simp only [List.getElem_toArray, List.getElem_cons_succ, List.getElem_cons_zero, Act.put, List.setIfInBounds_toArray, List.set_cons_zero, List.set_cons_succ]
      refine wpAnyH_take (i := 3) (v := ?vt3) rfl (by kernel_rfl) (by kernel_rfl) (by kernel_rfl) (fun _ _ _ h => h) (Or.inl ⟨by rfl, ?yt3⟩) hHeld ?rt3
      case yt3 => (intro W hW; obtain ⟨h1, h2⟩ := hW; go_simp; first | done | with_reducible rfl)
      try simp only [List.getElem_toArray, List.getElem_cons_succ, List.getElem_cons_zero, Act.put, List.setIfInBounds_toArray, List.set_cons_zero, List.set_cons_succ]
      refine wpAnyH_take (i := 4) (v := ?vt4) rfl (by kernel_rfl) (by kernel_rfl) (by kernel_rfl) (fun _ _ _ h => h) (Or.inl ⟨by rfl, ?yt4⟩) hHeld ?rt4
      case yt4 => (intro W hW; obtain ⟨h1, h2⟩ := hW; go_simp; first | done | with_reducible rfl)
      try simp only [List.getElem_toArray, List.getElem_cons_succ, List.getElem_cons_zero, Act.put, List.setIfInBounds_toArray, List.set_cons_zero, List.set_cons_succ]
      refine wpAnyH_take (i := 5) (v := ?vt5) rfl (by kernel_rfl) (by kernel_rfl) (by kernel_rfl) (fun _ _ _ h => h) (Or.inl ⟨by rfl, ?yt5⟩) hHeld ?rt5
      case yt5 => (intro W hW; obtain ⟨h1, h2⟩ := hW; go_simp; first | done | with_reducible rfl)
      try simp only [List.getElem_toArray, List.getElem_cons_succ, List.getElem_cons_zero, Act.put, List.setIfInBounds_toArray, List.set_cons_zero, List.set_cons_succ]
      refine wpAnyH_take (i := 6) (v := ?vt6) rfl (by kernel_rfl) (by kernel_rfl) (by kernel_rfl) (fun _ _ _ h => h) (Or.inl ⟨by rfl, ?yt6⟩) hHeld ?rt6
      case yt6 => (intro W hW; obtain ⟨h1, h2⟩ := hW; go_simp; first | done | with_reducible rfl)
      try simp only [List.getElem_toArray, List.getElem_cons_succ, List.getElem_cons_zero, Act.put, List.setIfInBounds_toArray, List.set_cons_zero, List.set_cons_succ]
      refine wpAnyH_take (i := 7) (v := ?vt7) rfl (by kernel_rfl) (by kernel_rfl) (by kernel_rfl) (fun _ _ _ h => h) (Or.inl ⟨by rfl, ?yt7⟩) hHeld ?rt7
      case yt7 => (intro W hW; obtain ⟨h1, h2⟩ := hW; go_simp; first | done | with_reducible rfl)
      try simp only [List.getElem_toArray, List.getElem_cons_succ, List.getElem_cons_zero, Act.put, List.setIfInBounds_toArray, List.set_cons_zero, List.set_cons_succ]
      refine wpAnyH_take (i := 8) (v := ?vt8) rfl (by kernel_rfl) (by kernel_rfl) (by kernel_rfl) (fun _ _ _ h => h) (Or.inl ⟨by rfl, ?yt8⟩) hHeld ?rt8
      case yt8 => (intro W hW; obtain ⟨h1, h2⟩ := hW; go_simp; first | done | with_reducible rfl)
      try simp only [List.getElem_toArray, List.getElem_cons_succ, List.getElem_cons_zero, Act.put, List.setIfInBounds_toArray, List.set_cons_zero, List.set_cons_succ]
      refine wpAnyH_take (i := 9) (v := ?vt9) rfl (by kernel_rfl) (by kernel_rfl) (by kernel_rfl) (fun _ _ _ h => h) (Or.inl ⟨by rfl, ?yt9⟩) hHeld ?rt9
      case yt9 => (intro W hW; obtain ⟨h1, h2⟩ := hW; go_simp; first | done | with_reducible rfl)
      try simp only [List.getElem_toArray, List.getElem_cons_succ, List.getElem_cons_zero, Act.put, List.setIfInBounds_toArray, List.set_cons_zero, List.set_cons_succ]
      refine wpAnyH_take (i := 10) (v := ?vt10) rfl (by kernel_rfl) (by kernel_rfl) (by kernel_rfl) (fun _ _ _ h => h) (Or.inl ⟨by rfl, ?yt10⟩) hHeld ?rt10
      case yt10 => (intro W hW; obtain ⟨h1, h2⟩ := hW; go_simp; first | done | with_reducible rfl)
      try simp only [List.getElem_toArray, List.getElem_cons_succ, List.getElem_cons_zero, Act.put, List.setIfInBounds_toArray, List.set_cons_zero, List.set_cons_succ]
      refine wpAnyH_take (i := 12) (v := ?vt12) rfl (by kernel_rfl) (by kernel_rfl) (by kernel_rfl) (fun _ _ _ h => h) (Or.inl ⟨by rfl, ?yt12⟩) hHeld ?rt12
      case yt12 => (intro W hW; obtain ⟨h1, h2⟩ := hW; go_simp; first | done | with_reducible rfl)
      try simp only [List.getElem_toArray, List.getElem_cons_succ, List.getElem_cons_zero, Act.put, List.setIfInBounds_toArray, List.set_cons_zero, List.set_cons_succ]
      refine wpAnyH_ready (rs := [11]) (by kernel_rfl) (by simp) ?_
      refine AllReadyH.cons rfl (fun K hK => ?_) (AllReadyH.nil)
      go_simp
      refine (HB.out _ b0.out).mono ?_
      rintro e u1 ⟨rfl, hb⟩
      have b1 := Lib.hid (b0.out.trans (hb.mono b0.out.size))
      have hh : u1.cell? ⟨gb, 0, none⟩ = some (.slice A q c) ∧ u1.cell? ⟨gb, 1, none⟩ = some (.int .i64 mm) := ⟨(Keeps.of_below hb) _ _ hHeld.1, (Keeps.of_below hb) _ _ hHeld.2⟩
      have HHH := Lib.hid hh
      clear hb hh
      go_wp2_with fail
      refine hK.out _ _ (HHH.out) (fun hHeld => ?_)
      clear hK K
      try simp only [List.getElem_toArray, List.getElem_cons_succ, List.getElem_cons_zero, Act.put, List.setIfInBounds_toArray, List.set_cons_zero, List.set_cons_succ]
      refine wpAnyH_take (i := 13) (v := ?vt13) rfl (by kernel_rfl) (by kernel_rfl) (by kernel_rfl) (fun _ _ _ h => h) (Or.inl ⟨by rfl, ?yt13⟩) hHeld ?rt13
      case yt13 => (intro W hW; obtain ⟨h1, h2⟩ := hW; go_simp; first | done | with_reducible rfl)
      try simp only [List.getElem_toArray, List.getElem_cons_succ, List.getElem_cons_zero, Act.put, List.setIfInBounds_toArray, List.set_cons_zero, List.set_cons_succ]
      refine wpAnyH_take (i := 14) (v := ?vt14) rfl (by kernel_rfl) (by kernel_rfl) (by kernel_rfl) (fun _ _ _ h => h) (Or.inl ⟨by rfl, ?yt14⟩) hHeld ?rt14
      case yt14 => (intro W hW; obtain ⟨h1, h2⟩ := hW; go_simp; first | done | with_reducible rfl)
      try simp only [List.getElem_toArray, List.getElem_cons_succ, List.getElem_cons_zero, Act.put, List.setIfInBounds_toArray, List.set_cons_zero, List.set_cons_succ]
      refine wpAnyH_take (i := 15) (v := ?vt15) rfl (by kernel_rfl) (by kernel_rfl) (by kernel_rfl) (fun _ _ _ h => h) (Or.inl ⟨by rfl, ?yt15⟩) hHeld ?rt15
      case yt15 => (intro W hW; obtain ⟨h1, h2⟩ := hW; go_simp; first | done | with_reducible rfl)
      try simp only [List.getElem_toArray, List.getElem_cons_succ, List.getElem_cons_zero, Act.put, List.setIfInBounds_toArray, List.set_cons_zero, List.set_cons_succ]
      refine wpAnyH_take (i := 16) (v := ?vt16) rfl (by kernel_rfl) (by kernel_rfl) (by kernel_rfl) (fun _ _ _ h => h) (Or.inl ⟨by rfl, ?yt16⟩) hHeld ?rt16
      case yt16 => (intro W hW; obtain ⟨h1, h2⟩ := hW; go_simp; first | done | with_reducible rfl)
      try simp only [List.getElem_toArray, List.getElem_cons_succ, List.getElem_cons_zero, Act.put, List.setIfInBounds_toArray, List.set_cons_zero, List.set_cons_succ]
      refine wpAnyH_take (i := 17) (v := ?vt17) rfl (by kernel_rfl) (by kernel_rfl) (by kernel_rfl) (fun _ _ _ h => h) (Or.inl ⟨by rfl, ?yt17⟩) hHeld ?rt17
      case yt17 => (intro W hW; obtain ⟨h1, h2⟩ := hW; go_simp; first | done | with_reducible rfl)
      try simp only [List.getElem_toArray, List.getElem_cons_succ, List.getElem_cons_zero, Act.put, List.setIfInBounds_toArray, List.set_cons_zero, List.set_cons_succ]
      refine wpAnyH_take (i := 18) (v := ?vt18) rfl (by kernel_rfl) (by kernel_rfl) (by kernel_rfl) (fun _ _ _ h => h) (Or.inl ⟨by rfl, ?yt18⟩) hHeld ?rt18
      case yt18 => (intro W hW; obtain ⟨h1, h2⟩ := hW; go_simp; first | done | with_reducible rfl)
      try simp only [List.getElem_toArray, List.getElem_cons_succ, List.getElem_cons_zero, Act.put, List.setIfInBounds_toArray, List.set_cons_zero, List.set_cons_succ]
      refine wpAnyH_take (i := 19) (v := ?vt19) rfl (by kernel_rfl) (by kernel_rfl) (by kernel_rfl) (fun _ _ _ h => h) (Or.inl ⟨by rfl, ?yt19⟩) hHeld ?rt19
      case yt19 => (intro W hW; obtain ⟨h1, h2⟩ := hW; go_simp; first | done | with_reducible rfl)
      try simp only [List.getElem_toArray, List.getElem_cons_succ, List.getElem_cons_zero, Act.put, List.setIfInBounds_toArray, List.set_cons_zero, List.set_cons_succ]
      refine wpAnyH_take (i := 20) (v := ?vt20) rfl (by kernel_rfl) (by kernel_rfl) (by kernel_rfl) (fun _ _ _ h => h) (Or.inl ⟨by rfl, ?yt20⟩) hHeld ?rt20
      case yt20 => (intro W hW; obtain ⟨h1, h2⟩ := hW; go_simp; first | done | with_reducible rfl)
      try simp only [List.getElem_toArray, List.getElem_cons_succ, List.getElem_cons_zero, Act.put, List.setIfInBounds_toArray, List.set_cons_zero, List.set_cons_succ]
      refine wpAnyH_take (i := 21) (v := ?vt21) rfl (by kernel_rfl) (by kernel_rfl) (by kernel_rfl) (fun _ _ _ h => h) (Or.inl ⟨by rfl, ?yt21⟩) hHeld ?rt21
      case yt21 => (intro W hW; obtain ⟨h1, h2⟩ := hW; go_simp; first | done | with_reducible rfl)
      try simp only [List.getElem_toArray, List.getElem_cons_succ, List.getElem_cons_zero, Act.put, List.setIfInBounds_toArray, List.set_cons_zero, List.set_cons_succ]
      refine wpAnyH_take (i := 22) (v := ?vt22) rfl (by kernel_rfl) (by kernel_rfl) (by kernel_rfl) (fun _ _ _ h => h) (Or.inl ⟨by rfl, ?yt22⟩) hHeld ?rt22
      case yt22 => (intro W hW; obtain ⟨h1, h2⟩ := hW; go_simp; first | done | with_reducible rfl)
      try simp only [List.getElem_toArray, List.getElem_cons_succ, List.getElem_cons_zero, Act.put, List.setIfInBounds_toArray, List.set_cons_zero, List.set_cons_succ]
      refine wpAnyH_take (i := 23) (v := ?vt23) rfl (by kernel_rfl) (by kernel_rfl) (by kernel_rfl) (fun _ _ _ h => h) (Or.inl ⟨by rfl, ?yt23⟩) hHeld ?rt23
      case yt23 => (intro W hW; obtain ⟨h1, h2⟩ := hW; go_simp; first | done | with_reducible rfl)
      try simp only [List.getElem_toArray, List.getElem_cons_succ, List.getElem_cons_zero, Act.put, List.setIfInBounds_toArray, List.set_cons_zero, List.set_cons_succ]
      refine wpAnyH_take (i := 24) (v := ?vt24) rfl (by kernel_rfl) (by kernel_rfl) (by kernel_rfl) (fun _ _ _ h => h) (Or.inl ⟨by rfl, ?yt24⟩) hHeld ?rt24
      case yt24 => (intro W hW; obtain ⟨h1, h2⟩ := hW; go_simp; first | done | with_reducible rfl)
      try simp only [List.getElem_toArray, List.getElem_cons_succ, List.getElem_cons_zero, Act.put, List.setIfInBounds_toArray, List.set_cons_zero, List.set_cons_succ]
      refine wpAnyH_take (i := 25) (v := ?vt25) rfl (by kernel_rfl) (by kernel_rfl) (by kernel_rfl) (fun _ _ _ h => h) (Or.inl ⟨by rfl, ?yt25⟩) hHeld ?rt25
      case yt25 => (intro W hW; obtain ⟨h1, h2⟩ := hW; go_simp; first | done | with_reducible rfl)
      try simp only [List.getElem_toArray, List.getElem_cons_succ, List.getElem_cons_zero, Act.put, List.setIfInBounds_toArray, List.set_cons_zero, List.set_cons_succ]
      refine wpAnyH_take (i := 27) (v := ?vt27) rfl (by kernel_rfl) (by kernel_rfl) (by kernel_rfl) (fun _ _ _ h => h) (Or.inl ⟨by rfl, ?yt27⟩) hHeld ?rt27
      case yt27 => (intro W hW; obtain ⟨h1, h2⟩ := hW; go_simp; first | done | with_reducible rfl)
      try simp only [List.getElem_toArray, List.getElem_cons_succ, List.getElem_cons_zero, Act.put, List.setIfInBounds_toArray, List.set_cons_zero, List.set_cons_succ]
      refine wpAnyH_take (i := 28) (v := ?vt28) rfl (by kernel_rfl) (by kernel_rfl) (by kernel_rfl) (fun _ _ _ h => h) (Or.inl ⟨by rfl, ?yt28⟩) hHeld ?rt28
      case yt28 => (intro W hW; obtain ⟨h1, h2⟩ := hW; go_simp; first | done | with_reducible rfl)
      try simp only [List.getElem_toArray, List.getElem_cons_succ, List.getElem_cons_zero, Act.put, List.setIfInBounds_toArray, List.set_cons_zero, List.set_cons_succ]
      refine wpAnyH_take (i := 29) (v := ?vt29) rfl (by kernel_rfl) (by kernel_rfl) (by kernel_rfl) (fun _ _ _ h => h) (Or.inl ⟨by rfl, ?yt29⟩) hHeld ?rt29
      case yt29 => (intro W hW; obtain ⟨h1, h2⟩ := hW; go_simp; first | done | with_reducible rfl)
      try simp only [List.getElem_toArray, List.getElem_cons_succ, List.getElem_cons_zero, Act.put, List.setIfInBounds_toArray, List.set_cons_zero, List.set_cons_succ]
      refine wpAnyH_ready (rs := [26]) (by kernel_rfl) (by simp) ?_
      refine AllReadyH.cons rfl (fun K hK => ?_) (AllReadyH.nil)
      go_simp
      refine (HC.out _ b1.out).mono ?_
      rintro e u2 ⟨rfl, hb⟩
      have b2 := Lib.hid (b1.out.trans (hb.mono b1.out.size))
      have hh : u2.cell? ⟨gb, 0, none⟩ = some (.slice A q c) ∧ u2.cell? ⟨gb, 1, none⟩ = some (.int .i64 mm) := ⟨(Keeps.of_below hb) _ _ hHeld.1, (Keeps.of_below hb) _ _ hHeld.2⟩
      have HHH := Lib.hid hh
      clear hb hh
      go_wp2_with fail
      refine hK.out _ _ (HHH.out) (fun hHeld => ?_)
      clear hK K
      try simp only [List.getElem_toArray, List.getElem_cons_succ, List.getElem_cons_zero, Act.put, List.setIfInBounds_toArray, List.set_cons_zero, List.set_cons_succ]
      refine wpAnyH_ready (rs := [30]) (by kernel_rfl) (by simp) ?_
      refine AllReadyH.cons rfl (fun K hK => ?_) (AllReadyH.nil)
      go_simp
      refine (HD.out _ b2.out).mono ?_
      rintro e u3 ⟨rfl, hb⟩
      have b3 := Lib.hid (b2.out.trans (hb.mono b2.out.size))
      have hh : u3.cell? ⟨gb, 0, none⟩ = some (.slice A q c) ∧ u3.cell? ⟨gb, 1, none⟩ = some (.int .i64 mm) := ⟨(Keeps.of_below hb) _ _ hHeld.1, (Keeps.of_below hb) _ _ hHeld.2⟩
      have HHH := Lib.hid hh
      clear hb hh
      go_wp2_with fail
      refine hK.out _ _ (HHH.out) (fun hHeld => ?_)
      clear hK K
      try simp only [List.getElem_toArray, List.getElem_cons_succ, List.getElem_cons_zero, Act.put, List.setIfInBounds_toArray, List.set_cons_zero, List.set_cons_succ]
      refine wpAnyH_take (i := 31) (v := ?vt31) rfl (by kernel_rfl) (by kernel_rfl) (by kernel_rfl) (fun _ _ _ h => h) (Or.inl ⟨by rfl, ?yt31⟩) hHeld ?rt31
      case yt31 => (intro W hW; obtain ⟨h1, h2⟩ := hW; go_simp; first | done | with_reducible rfl)
      try simp only [List.getElem_toArray, List.getElem_cons_succ, List.getElem_cons_zero, Act.put, List.setIfInBounds_toArray, List.set_cons_zero, List.set_cons_succ]
      refine wpAnyH_take (i := 32) (v := ?vt32) rfl (by kernel_rfl) (by kernel_rfl) (by kernel_rfl) (fun _ _ _ h => h) (Or.inl ⟨by rfl, ?yt32⟩) hHeld ?rt32
      case yt32 => (intro W hW; obtain ⟨h1, h2⟩ := hW; go_simp; first | done | with_reducible rfl)
      try simp only [List.getElem_toArray, List.getElem_cons_succ, List.getElem_cons_zero, Act.put, List.setIfInBounds_toArray, List.set_cons_zero, List.set_cons_succ]
      refine wpAnyH_take (i := 33) (v := ?vt33) rfl (by kernel_rfl) (by kernel_rfl) (by kernel_rfl) (fun _ _ _ h => h) (Or.inl ⟨by rfl, ?yt33⟩) hHeld ?rt33
      case yt33 => (intro W hW; obtain ⟨h1, h2⟩ := hW; go_simp; first | done | with_reducible rfl)
      try simp only [List.getElem_toArray, List.getElem_cons_succ, List.getElem_cons_zero, Act.put, List.setIfInBounds_toArray, List.set_cons_zero, List.set_cons_succ]
      refine wpAnyH_take (i := 34) (v := ?vt34) rfl (by kernel_rfl) (by kernel_rfl) (by kernel_rfl) (fun _ _ _ h => h) (Or.inl ⟨by rfl, ?yt34⟩) hHeld ?rt34
      case yt34 => (intro W hW; obtain ⟨h1, h2⟩ := hW; go_simp; first | done | with_reducible rfl)
      try simp only [List.getElem_toArray, List.getElem_cons_succ, List.getElem_cons_zero, Act.put, List.setIfInBounds_toArray, List.set_cons_zero, List.set_cons_succ]
      refine wpAnyH_take (i := 35) (v := ?vt35) rfl (by kernel_rfl) (by kernel_rfl) (by kernel_rfl) (fun _ _ _ h => h) (Or.inl ⟨by rfl, ?yt35⟩) hHeld ?rt35
      case yt35 => (intro W hW; obtain ⟨h1, h2⟩ := hW; go_simp; first | done | with_reducible rfl)
      try simp only [List.getElem_toArray, List.getElem_cons_succ, List.getElem_cons_zero, Act.put, List.setIfInBounds_toArray, List.set_cons_zero, List.set_cons_succ]
      refine wpAnyH_take (i := 36) (v := ?vt36) rfl (by kernel_rfl) (by kernel_rfl) (by kernel_rfl) (fun _ _ _ h => h) (Or.inl ⟨by rfl, ?yt36⟩) hHeld ?rt36
      case yt36 => (intro W hW; obtain ⟨h1, h2⟩ := hW; go_simp; first | done | with_reducible rfl)
      try simp only [List.getElem_toArray, List.getElem_cons_succ, List.getElem_cons_zero, Act.put, List.setIfInBounds_toArray, List.set_cons_zero, List.set_cons_succ]
      refine wpAnyH_take (i := 38) (v := ?vt38) rfl (by kernel_rfl) (by kernel_rfl) (by kernel_rfl) (fun _ _ _ h => h) (Or.inl ⟨by rfl, ?yt38⟩) hHeld ?rt38
      case yt38 => (intro W hW; obtain ⟨h1, h2⟩ := hW; go_simp; first | done | with_reducible rfl)
      try simp only [List.getElem_toArray, List.getElem_cons_succ, List.getElem_cons_zero, Act.put, List.setIfInBounds_toArray, List.set_cons_zero, List.set_cons_succ]
      refine wpAnyH_take (i := 39) (v := ?vt39) rfl (by kernel_rfl) (by kernel_rfl) (by kernel_rfl) (fun _ _ _ h => h) (Or.inl ⟨by rfl, ?yt39⟩) hHeld ?rt39
      case yt39 => (intro W hW; obtain ⟨h1, h2⟩ := hW; go_simp; first | done | with_reducible rfl)
      try simp only [List.getElem_toArray, List.getElem_cons_succ, List.getElem_cons_zero, Act.put, List.setIfInBounds_toArray, List.set_cons_zero, List.set_cons_succ]
      refine wpAnyH_take (i := 40) (v := ?vt40) rfl (by kernel_rfl) (by kernel_rfl) (by kernel_rfl) (fun _ _ _ h => h) (Or.inl ⟨by rfl, ?yt40⟩) hHeld ?rt40
      case yt40 => (intro W hW; obtain ⟨h1, h2⟩ := hW; go_simp; first | done | with_reducible rfl)
      try simp only [List.getElem_toArray, List.getElem_cons_succ, List.getElem_cons_zero, Act.put, List.setIfInBounds_toArray, List.set_cons_zero, List.set_cons_succ]
      refine wpAnyH_ready (rs := [37]) (by kernel_rfl) (by simp) ?_
      refine AllReadyH.cons rfl (fun K hK => ?_) (AllReadyH.nil)
      go_simp
      refine (HE.out _ b3.out).mono ?_
      rintro e u4 ⟨rfl, hb⟩
      have b4 := Lib.hid (b3.out.trans (hb.mono b3.out.size))
      have hh : u4.cell? ⟨gb, 0, none⟩ = some (.slice A q c) ∧ u4.cell? ⟨gb, 1, none⟩ = some (.int .i64 mm) := ⟨(Keeps.of_below hb) _ _ hHeld.1, (Keeps.of_below hb) _ _ hHeld.2⟩
      have HHH := Lib.hid hh
      clear hb hh
      go_wp2_with fail
      refine hK.out _ _ (HHH.out) (fun hHeld => ?_)
      clear hK K
      try simp only [List.getElem_toArray, List.getElem_cons_succ, List.getElem_cons_zero, Act.put, List.setIfInBounds_toArray, List.set_cons_zero, List.set_cons_succ]
      refine wpAnyH_ready (rs := [41]) (by kernel_rfl) (by simp) ?_
      refine AllReadyH.cons rfl (fun K hK => ?_) (AllReadyH.nil)
      go_simp
      refine (HC.out _ b4.out).mono ?_
      rintro e u5 ⟨rfl, hb⟩
      have b5 := Lib.hid (b4.out.trans (hb.mono b4.out.size))
      have hh : u5.cell? ⟨gb, 0, none⟩ = some (.slice A q c) ∧ u5.cell? ⟨gb, 1, none⟩ = some (.int .i64 mm) := ⟨(Keeps.of_below hb) _ _ hHeld.1, (Keeps.of_below hb) _ _ hHeld.2⟩
      have HHH := Lib.hid hh
      clear hb hh
      go_wp2_with fail
      refine hK.out _ _ (HHH.out) (fun hHeld => ?_)
      clear hK K
      try simp only [List.getElem_toArray, List.getElem_cons_succ, List.getElem_cons_zero, Act.put, List.setIfInBounds_toArray, List.set_cons_zero, List.set_cons_succ]
      refine wpAnyH_take (i := 42) (v := ?vt42) rfl (by kernel_rfl) (by kernel_rfl) (by kernel_rfl) (fun _ _ _ h => h) (Or.inl ⟨by rfl, ?yt42⟩) hHeld ?rt42
      case yt42 => (intro W hW; obtain ⟨h1, h2⟩ := hW; go_simp; first | done | with_reducible rfl)
      try simp only [List.getElem_toArray, List.getElem_cons_succ, List.getElem_cons_zero, Act.put, List.setIfInBounds_toArray, List.set_cons_zero, List.set_cons_succ]
      refine wpAnyH_take (i := 43) (v := ?vt43) rfl (by kernel_rfl) (by kernel_rfl) (by kernel_rfl) (fun _ _ _ h => h) (Or.inl ⟨by rfl, ?yt43⟩) hHeld ?rt43
      case yt43 => (intro W hW; obtain ⟨h1, h2⟩ := hW; go_simp; first | done | with_reducible rfl)
      try simp only [List.getElem_toArray, List.getElem_cons_succ, List.getElem_cons_zero, Act.put, List.setIfInBounds_toArray, List.set_cons_zero, List.set_cons_succ]
      refine wpAnyH_ready (rs := [44]) (by kernel_rfl) (by simp) ?_
      refine AllReadyH.cons rfl (fun K hK => ?_) (AllReadyH.nil)
      go_simp
      refine hK.out _ _ (HHH.out) (fun hHeld => ?_)
      clear hK K
      try simp only [List.getElem_toArray, List.getElem_cons_succ, List.getElem_cons_zero, Act.put, List.setIfInBounds_toArray, List.set_cons_zero, List.set_cons_succ]
      refine wpAnyH_done (by kernel_rfl) ?_ _
      go_wp2
      go_ret
      exact ⟨rfl, HB3.out.trans (b5.out.mono HB3.out.size)⟩
end Go.Proofs.YtaopanclnaimpaaDoor
