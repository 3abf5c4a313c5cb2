/- The law LatticeLevels. -/
import Derived.Test.YtaopanclnaimpaaDoorCnt
import Derived.IntWalk
namespace Go.Proofs.YtaopanclnaimpaaDoor
open Go.RowKit Go.Shelf
attribute [local go_sem] Oper.semAt_some
theorem Nums.set {kd : IntKind} {w : World} {b g i n : Nat} {u : Value} {xs : List Int} (h : Nums kd w (some ⟨b, 0, none⟩) n xs) (hne : b ≠ g) : Nums kd (w.setCell ⟨g, i, none⟩ u) (some ⟨b, 0, none⟩) n xs :=
  ⟨h.1, h.2.1, fun hn => by
    obtain ⟨ad, e, hc⟩ := h.2.2 hn
    injection e with e
    subst e
    refine ⟨_, rfl, fun j x hx => ?_⟩
    rw [World.cell?_of_block (Below.heap_setCell _ _ _ _ (by rw [block_of_add]; exact hne))]
    exact hc j x hx⟩
/-- How many sets of a level there are. -/
def chs (d n : Nat) : Nat := ((setsL d).map lvl).count (n : Int)
theorem chs_tab : ∀ d : Fin 5, 1 ≤ d.val → chs d.val 0 = 1 ∧ ∀ n : Fin 5, n.val ≤ d.val → 0 ≤ (chs d.val n.val : Int) * ((d.val : Int) - (n.val : Int)) ∧ (chs d.val n.val : Int) * ((d.val : Int) - (n.val : Int)) ≤ 100 ∧ (chs d.val n.val : Int) * ((d.val : Int) - (n.val : Int)) / ((n.val : Int) + 1) = (chs d.val (n.val + 1) : Int) := by decide +kernel
theorem lvl_both : ∀ d : Fin 5, ∀ k : Fin 16, k.val < 2 ^ d.val → lvl k.val + lvl (2 ^ d.val - 1 - (k.val : Int)) = d.val := by decide +kernel
theorem lvl_sets : ∀ d : Fin 5, ∀ x ∈ setsL d.val, 0 ≤ x ∧ x < 2 ^ d.val ∧ 0 ≤ lvl x ∧ lvl x ≤ d.val := by decide +kernel
set_option maxRecDepth 100000 in
set_option maxHeartbeats 8000000 in
theorem latticeLevels_walk (a0 a1 : Int) (w : World) (h0 : inK .i64 a0) (h1 : inK .i64 a1) (hT : Tab w) (hw1 : 1 < w.heap.size) :
    Calls Tryd.prog 8 #[.int .i64 a0, .int .i64 a1] w fun e w' => e = .returned (.bool true) ∧ Below w.heap.size w w' := by
  have HKn := Lib.hid (known8_any w hT hw1)
  have HT := Lib.hid hT
  have HWI := fun W => lwithin8 a0 4 W h0 (by omega) (by omega)
  obtain ⟨d, hd⟩ : ∃ d : Nat, a0 % 4 = (d : Int) - 1 := ⟨(a0 % 4).toNat + 1, by omega⟩
  rw [hd] at HWI
  have d1 : 1 ≤ d := by omega
  have d4 : d ≤ 4 := by omega
  have HWI := Lib.hid HWI
  obtain ⟨N, hN⟩ : ∃ N, N = 2 ^ d := ⟨_, rfl⟩
  obtain ⟨n16, n1⟩ := pow_16 d d4
  rw [← hN] at n16 n1
  have hsh : wrap64 (2 ^ d) = (N : Int) := by rw [shl_wrap d d4, hN, two_pow]
  have hds : 1 + ((d : Int) - 1) = d := by omega
  have HWK := fun W => lwithin8 a1 N W h1 (by omega) (by omega)
  obtain ⟨k, hk⟩ : ∃ k : Nat, a1 % (N : Int) = (k : Int) := ⟨(a1 % (N : Int)).toNat, by have := Int.emod_nonneg a1 (show (N : Int) ≠ 0 by omega); omega⟩
  have hkN : k < N := by have := Int.emod_lt_of_pos a1 (show (0 : Int) < (N : Int) by omega); omega
  rw [hk] at HWK
  have HWK := Lib.hid HWK
  have hlb := lvl_both ⟨d, by omega⟩ ⟨k, by omega⟩ (by rw [← hN]; exact hkN)
  dsimp only at hlb
  rw [← two_pow, ← hN] at hlb
  obtain ⟨la0, la4⟩ := lvl_bd (k : Int)
  obtain ⟨lb0, lb4⟩ := lvl_bd ((N : Int) - 1 - (k : Int))
  have HL1 := Lib.hid (fun (W : World) (hB : Below w.heap.size w W) => level_any (k : Int) W (by omega) (by omega) (hT.below hB hw1) (Nat.lt_of_lt_of_le hw1 hB.size))
  have HL2 := Lib.hid (fun (W : World) (hB : Below w.heap.size w W) => level_any ((N : Int) - 1 - (k : Int)) W (by omega) (by omega) (hT.below hB hw1) (Nat.lt_of_lt_of_le hw1 hB.size))
  obtain ⟨la, hla⟩ : ∃ la, la = lvl (k : Int) := ⟨_, rfl⟩
  obtain ⟨lb, hlb'⟩ : ∃ lb, lb = lvl ((N : Int) - 1 - (k : Int)) := ⟨_, rfl⟩
  rw [← hla] at HL1 hlb la0 la4
  rw [← hlb'] at HL2 hlb lb0 lb4
  have HLB := Lib.hid hlb
  have HN := Lib.hid hN
  obtain ⟨i0, hi, hz0, hz1, hz2⟩ := info_parts infoI
  have hmk := fun W => make_ints (P := Tryd.prog) 22 3 i0 Tryd.underlying22 hi hz0 hz1 hz2 (d + 1) (by omega) W
  push_cast at hmk
  have HMK := Lib.hid hmk
  clear hT hd hN hmk i0 hi hz0 hz1 hz2 hk hla hlb' hlb
  go_enter Tryd.func8, Tryd.ntmps8
  go_wp2_with fail
  refine HKn.out.mono ?_
  rintro e w1 ⟨rfl, hb1⟩
  have Hb1 := Lib.hid hb1
  clear hb1 HKn
  go_wp2_with fail
  refine (HWI.out w1).mono ?_
  rintro e w' ⟨rfl, rfl⟩
  go_wp2_with fail
  refine (HWK.out w1).mono ?_
  rintro e w' ⟨rfl, rfl⟩
  go_wp2_with fail
  refine (HL1.out w1 Hb1.out).mono ?_
  rintro e w2 ⟨rfl, hb2, -⟩
  have Hb2 := Lib.hid (Hb1.out.trans (hb2.mono Hb1.out.size))
  clear hb2
  go_wp2_with fail
  refine (HL2.out w2 Hb2.out).mono ?_
  rintro e w3 ⟨rfl, hb3, -⟩
  have Hb3 := Lib.hid (Hb2.out.trans (hb3.mono Hb2.out.size))
  clear hb3
  have hsum := HLB.out
  have hmk := HMK.out w3
  obtain ⟨w4, hw4⟩ : ∃ w4, w4 = w3.alloc (.cells (madeCells #[.int .i64 0] (d + 1)) 3) := ⟨_, rfl⟩
  have harr := Arr.made w3 3 (d + 1)
  have hb4 : Below w.heap.size w w4 := by rw [hw4]; exact Hb3.out.alloc Hb3.out.size _
  rw [← hw4] at hmk harr
  obtain ⟨g, hg⟩ : ∃ g, g = w3.heap.size := ⟨_, rfl⟩
  rw [← hg] at hmk harr
  rw [← cntL_nil] at harr
  have hgw : w.heap.size ≤ g := by rw [hg]; exact Hb3.out.size
  have Harr := Lib.hid harr
  have Hb4 := Lib.hid hb4
  have hgl := harr.lt
  clear hw4 harr hb4 hg
  go_wp2_with fail
  refine (sets_any d w4 d1 d4 (HT.out.below Hb4.out hw1) (Nat.lt_of_lt_of_le hw1 Hb4.out.size)).mono ?_
  rintro e w5 ⟨g5, rfl, hn5, hb5, hg5⟩
  rw [← HN.out] at hn5 ⊢
  have HN5 := Lib.hid hn5
  have HB5 := Lib.hid (Hb4.out.trans (hb5.mono Hb4.out.size))
  have HA5 := Lib.hid (Harr.out.below hb5 hgl)
  have hz5 := hb5.size
  have HLS := Lib.hid (lvl_sets ⟨d, by omega⟩)
  clear hb5 hn5
  go_wp2
  first | rw [hsh] | skip
  go_loopw [9] (fun i wr => ∃ j : Nat, i = .int .i64 j ∧ j ≤ N ∧ Arr .i64 3 wr g (cntL (((setsL d).take j).map lvl) (d + 1)) ∧ Nums .i64 wr (some ⟨g5, 0, none⟩) N (setsL d) ∧ Below w.heap.size w wr ∧ w5.heap.size ≤ wr.heap.size) (fun i _ => N - (intOf i).toNat)
  case atStart => exact ⟨0, rfl, Nat.zero_le _, by simpa using HA5.out, HN5.out, HB5.out, Nat.le_refl _⟩
  case round =>
    obtain ⟨j, rfl, hj, harr, hnr, hb, hz⟩ := hrel
    rename World => wr
    have Ha := Lib.hid harr
    have Hb := Lib.hid hb
    have Hn := Lib.hid hnr
    have hgr := harr.lt
    clear harr hb
    by_cases hlt : j < N
    · obtain ⟨ad, x, ead, hx, -, hcell⟩ := hnr.at_ hlt
      injection ead with ead
      subst ead
      rw [add0] at hcell
      obtain ⟨x0, x1, x2, x3⟩ := HLS.out x (List.mem_of_getElem? hx)
      rw [← two_pow, ← HN.out] at x1
      have HL := Lib.hid (level_any x wr (by omega) (by omega) (HT.out.below Hb.out hw1) (Nat.lt_of_lt_of_le hw1 Hb.out.size))
      obtain ⟨lv, hlv⟩ : ∃ lv : Nat, lvl x = (lv : Int) := ⟨(lvl x).toNat, by omega⟩
      rw [hlv] at HL x2 x3
      have HX := Lib.hid hx
      have HLV := Lib.hid hlv
      have i0 : (0 : Int) ≤ (j : Int) := by omega
      have i1 : (j : Int) < (N : Int) := by omega
      clear hx hlv hnr
      go_wp2_with fail
      refine HL.out.mono ?_
      rintro e w6 ⟨rfl, hb6, -⟩
      have HB6 := Lib.hid (Hb.out.trans (hb6.mono Hb.out.size))
      have HN6 := Lib.hid (Hn.out.keep (Keeps.of_below hb6))
      have ha6 := Ha.out.below hb6 hgr
      have hz6 := hb6.size
      have hcnt := ha6.cell (cntL_at (((setsL d).take j).map lvl) (show lv < d + 1 by omega))
      have hfz := ha6.frozen lv
      obtain ⟨u, hu⟩ : ∃ u : Nat, u = (((setsL d).take j).map lvl).count (lv : Int) := ⟨_, rfl⟩
      rw [← hu] at hcnt
      have hu2 : u ≤ 16 := by
        rw [hu]
        refine Nat.le_trans List.count_le_length ?_
        rw [List.length_map, List.length_take]
        omega
      have HA6 := Lib.hid ha6
      have HU := Lib.hid hu
      clear hb6 ha6 hu
      go_wp2
      go_roundw
      case rel => exact ⟨j + 1, by go_num, by omega, by
        have e1 : ((setsL d).take (j + 1)).map lvl = ((setsL d).take j).map lvl ++ [(lv : Int)] := by
          rw [take_at HX.out, List.map_append, List.map_cons, List.map_nil, HLV.out]
        rw [e1, ← cntL_snoc, ← HU.out]
        exact HA6.out.set_ _ _, HN6.out.set (by omega), HB6.out.setCell hgw _, by simp [World.setCell]; omega⟩
      case measure => simp [intOf]; omega
    · obtain rfl : j = N := by omega
      have hcl : ((setsL d).take j).map lvl = (setsL d).map lvl := by rw [HN.out, ← setsL_len d d1 d4, List.take_length]
      have HA := Lib.hid Ha.out
      rw [hcl] at HA
      obtain ⟨ct0, ctn⟩ := chs_tab ⟨d, by omega⟩ d1
      dsimp only at ct0 ctn
      have CT0 := Lib.hid ct0
      have CTN := Lib.hid ctn
      clear hcl hnr ct0 ctn
      go_wp2
      go_loopw [11, 12] (fun wa ni wq => ∃ n : Nat, ni = .int .i64 n ∧ n ≤ d + 1 ∧ wa = .int .i64 (chs d n : Nat) ∧ Arr .i64 3 wq g (cntL ((setsL d).map lvl) (d + 1)) ∧ Below w.heap.size w wq) (fun _ ni _ => d + 1 - (intOf ni).toNat)
      case atStart => exact ⟨0, rfl, by omega, by rw [CT0.out]; rfl, HA.out, Hb.out⟩
      case round =>
        obtain ⟨n, rfl, hn, rfl, haq, hbq⟩ := hrel
        rename World => wq
        have HAQ := Lib.hid haq
        have HBQ := Lib.hid hbq
        clear haq hbq
        by_cases hnl : n ≤ d
        · have hcell : wq.cell? ⟨g, n, none⟩ = some (Value.int .i64 (chs d n : Nat)) := HAQ.out.cell (cntL_at ((setsL d).map lvl) (show n < d + 1 by omega))
          obtain ⟨p1, p2, p3⟩ := CTN.out ⟨n, by omega⟩ hnl
          dsimp only at p1 p2 p3
          obtain ⟨u, hu⟩ : ∃ u, u = chs d n := ⟨_, rfl⟩
          rw [← hu] at hcell p1 p2 p3 ⊢
          have P3 := Lib.hid p3
          clear p3 hu
          go_wp2
          go_roundw
          case rel => exact ⟨n + 1, by go_num, by omega, by rw [← P3.out], HAQ.out, HBQ.out⟩
          case measure => simp [intOf]; omega
        · go_wp2
          go_ret
          exact ⟨rfl, HBQ.out⟩
end Go.Proofs.YtaopanclnaimpaaDoor
