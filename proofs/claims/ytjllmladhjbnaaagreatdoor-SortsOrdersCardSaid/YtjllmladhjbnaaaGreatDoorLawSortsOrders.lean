/- The law SortsOrders. -/
import Derived.IntWalk
import Derived.Test.YtjllmladhjbnaaaGreatDoorKn10
import Derived.Test.YtjllmladhjbnaaaGreatDoorOrders
import Derived.Test.YtjllmladhjbnaaaGreatDoorRord
import Derived.Test.YtjllmladhjbnaaaGreatDoorOth
import Derived.Test.YtjllmladhjbnaaaGreatDoorRlat
import Derived.Test.YtjllmladhjbnaaaGreatDoorL8
import Derived.Test.YtjllmladhjbnaaaGreatDoorOrdP
namespace Go.Proofs.YtjllmladhjbnaaaGreatDoor
open Go.RowKit Go.Shelf
attribute [local go_sem] Oper.semAt_some
set_option maxRecDepth 100000 in
set_option maxHeartbeats 8000000 in
theorem sortsOrders_walk (a0 : Int) (a1 : Option Addr) (len1 cap1 : Nat) (z1 : List Int) (w : World) (h0 : inK .i64 a0) (w1 : IsRow .i64 w a1 len1 cap1 z1) (hT : Tab w) (hw1 : 1 < w.heap.size) :
    Calls Tryz.prog 4 #[.int .i64 a0, .slice a1 len1 cap1] w fun e w' => e = .returned (.bool true) ∧ Below w.heap.size w w' := by
  obtain ⟨n1, -, -⟩ := w1.nums
  have N1 := Lib.hid n1
  have HKn := Lib.hid (known10_any w hT hw1)
  have HT := Lib.hid hT
  clear w1 n1 hT
  go_enter Tryz.func4, Tryz.ntmps4
  go_wp2_with fail
  refine HKn.out.mono ?_
  rintro e w1 ⟨rfl, hb1⟩
  have HB1 := Lib.hid hb1
  clear hb1 HKn
  obtain ⟨q, hq⟩ : ∃ q : Nat, 1 + a0 % 4 = (q : Int) := ⟨(1 + a0 % 4).toNat, by omega⟩
  have q1 : 1 ≤ q := by omega
  have q4 : q ≤ 4 := by omega
  have hwq : IntKind.i64.wrap (1 + a0 % 4) = (q : Int) := by rw [IntWalk.i64_in _ (by omega)]; exact hq
  have HWI := Lib.hid (lwithin10 a0 4 w1 h0 (by omega) (by omega))
  clear hq
  go_wp2_with fail
  refine HWI.out.mono ?_
  rintro e w' ⟨rfl, rfl⟩
  have HO := Lib.hid (other_any q a1 len1 cap1 (z1.take len1) w1 (N1.out.keep (Keeps.of_below HB1.out)) q1 q4)
  have hro := oth_right q q1 q4 (z1.take len1)
  obtain ⟨es, hes⟩ : ∃ es, es = othM q (z1.take len1) := ⟨_, rfl⟩
  rw [← hes] at HO hro
  have hlen : es.length = 2 ^ q := by rw [← setsL_len q q1 q4, ← hro.sets, List.length_map]
  have HIN := Lib.hid (right_in q1 q4 hro)
  have HRP := Lib.hid hro
  obtain ⟨N, hN⟩ : ∃ N, N = 2 ^ q := ⟨_, rfl⟩
  obtain ⟨n1, n16⟩ := pow_16 q q4
  rw [← hN] at hlen n16 n1
  have HLN := Lib.hid hlen
  clear hes hN hro HWI
  go_wp2_with fail
  refine HO.out.mono ?_
  rintro e w2 ⟨v, rfl, ho, hb2⟩
  obtain ⟨P, cP, rfl, hE, hnc⟩ := ho.form2 HIN.out
  rw [HLN.out] at hE hnc ⊢
  have HB2 := Lib.hid (HB1.out.trans (hb2.mono HB1.out.size))
  have HE := Lib.hid hE
  have HOR := Lib.hid (orders_any P N cP q es w2 hE hnc HRP.out q1 q4 (HT.out.below HB2.out hw1) (Nat.lt_of_lt_of_le hw1 HB2.out.size))
  clear hb2 ho hE hlen HO
  go_wp2_with fail
  refine HOR.out.mono ?_
  rintro e w3 ⟨A1, d1, rfl, hm1, hb3⟩
  have HB3 := Lib.hid (HB2.out.trans (hb3.mono HB2.out.size))
  have HM := Lib.hid hm1
  have HE3 := Lib.hid (HE.out.keep (Keeps.of_below hb3))
  have HRO := Lib.hid (rOrders_any P N cP q es w3 HE3.out HRP.out q1 q4 (by omega))
  clear hb3 hm1 HE HOR
  go_wp2_with fail
  refine HRO.out.mono ?_
  rintro e w4 ⟨A2, d2, rfl, hm2, hb4⟩
  have HB4 := Lib.hid (HB3.out.trans (hb4.mono HB3.out.size))
  have HM4 := Lib.hid (HM.out.keep (Keeps.of_below hb4))
  have HE4 := Lib.hid (HE3.out.keep (Keeps.of_below hb4))
  have hol : ∀ x ∈ ordsM es, x.length ≤ 1000 := fun x hx => by
    obtain ⟨e, he, rfl⟩ := List.mem_map.1 hx
    rw [ordM_len HRP.out q1 q4]
    have := dimsL_le e.s
    omega
  have HSR := Lib.hid (sameR_any A1 A2 N d1 d2 (ordsM es) w4 HM4.out.mat hm2 (by omega) hol)
  clear hb4 hm2 HM HE3 HRO hol
  go_wp2_with fail
  refine HSR.out.mono ?_
  rintro e w5 ⟨rfl, hb5⟩
  have HB5 := Lib.hid (HB4.out.trans (hb5.mono HB4.out.size))
  have hm5 := HM4.out.keep (Keeps.of_below hb5)
  have hE5 := HE4.out.keep (Keeps.of_below hb5)
  obtain ⟨g, o, rfl, hcs⟩ := hE5.2.2 (by omega)
  obtain ⟨ad, rfl, hds⟩ := hm5.2 (by omega)
  have HCS := Lib.hid hcs
  have HDS := Lib.hid hds
  clear hb5 HSR HM4 HE4 hm5 hE5 hcs hds
  go_wp2_with fail
  go_loopw [8] (fun i wr => ∃ k : Nat, i = .int .i64 k ∧ k ≤ N ∧ Below w5.heap.size w5 wr) (fun i _ => N - (intOf i).toNat)
  case atStart => exact ⟨0, rfl, Nat.zero_le _, Below.refl _ _⟩
  case round =>
    obtain ⟨i, rfl, hi, hb⟩ := hrel
    rename World => wr
    have HB := Lib.hid hb
    clear hb
    by_cases hiN : i < N
    · obtain ⟨e, he⟩ : ∃ e, es[i]? = some e := ⟨_, List.getElem?_eq_getElem (by rw [HLN.out]; omega)⟩
      have kw := Keeps.of_below HB.out
      obtain ⟨y0, y1, y2⟩ := HCS.out i e he
      have hrr : (ordsM es)[i]? = some (ordM es e.s) := by unfold ordsM; rw [List.getElem?_map, he]; rfl
      obtain ⟨B, cB, z0, zc, zn⟩ := HDS.out i _ hrr
      have hem := List.mem_of_getElem? he
      have hsb := sets_bd q q1 q4 _ (HRP.out.mem hem)
      have hf15 := fullB_15 q q4
      have hpm := ordM_perm HRP.out q1 q4 _ e.s rfl
      have hok := okO_parts hsb.1 (by omega) hpm
      have hdl : ∀ x ∈ ordM es e.s, 0 ≤ x ∧ x < q := fun x hx => dimsL_lt q e.s hsb.1 hsb.2 q4 x (hpm.mem_iff.1 hx)
      have hl4 : (ordM es e.s).length ≤ 4 := by rw [hpm.length_eq]; exact dimsL_le e.s
      have hsc2 : e.sc = true → ordM es e.p = ordM es e.s ++ dimsL (subI e.p e.s) ∧ (dimsL (subI e.p e.s)).length = 1 := fun h => ⟨ordM_scan HRP.out q1 q4 hem h, par_one q q1 q4 _ (HRP.out.mem hem) _ (HRP.out.scan q1 q4 hem h).1⟩
      obtain ⟨r, hr⟩ : ∃ r, r = ordM es e.s := ⟨_, rfl⟩
      rw [← hr] at z0 zc zn hok hdl hsc2 hl4
      obtain ⟨m, hm⟩ : ∃ m, m = r.length := ⟨_, rfl⟩
      rw [← hm] at z0 zc zn hok hl4
      obtain ⟨s, hs⟩ : ∃ s, s = e.s := ⟨_, rfl⟩
      rw [← hs] at y0 hok
      obtain ⟨p, hp⟩ : ∃ p, p = e.p := ⟨_, rfl⟩
      rw [← hp] at y1 hsc2
      obtain ⟨sc, hsc⟩ : ∃ sc, sc = e.sc := ⟨_, rfl⟩
      rw [← hsc] at y2 hsc2
      have HOK := Lib.hid hok.1
      have HFIN := Lib.hid hok.2
      have HDL := Lib.hid hdl
      have HS2 := Lib.hid hsc2
      have HN := Lib.hid (zn.keep kw)
      have HM := Lib.hid hm
      have x0 := kw _ _ y0
      have x1 := kw _ _ y1
      have x2 := kw _ _ y2
      have xr := kw _ _ z0
      have i0 : (0 : Int) ≤ (i : Int) := by omega
      have i1 : (i : Int) < (N : Int) := by omega
      have dss : (s != s) = false := by simp
      clear y0 y1 y2 z0 zc zn he hrr hem hsb hf15 hpm hok hdl hsc2 hr hm hs hp hsc kw
      go_wp2_with fail
      go_loopw [9, 10] (fun v l wq => ∃ k : Nat, l = .int .i64 k ∧ k ≤ m ∧ v = .int .i64 (setTo r k) ∧ wr = wq) (fun _ l _ => m - (intOf l).toNat)
      case atStart => exact ⟨0, rfl, Nat.zero_le _, rfl, rfl⟩
      case round =>
        obtain ⟨k, rfl, hk, rfl, rfl⟩ := hrel
        by_cases hkm : k < m
        · obtain ⟨bd, x, rfl, hx, -, hcx⟩ := HN.out.at_ hkm
          obtain ⟨hfr, S0, S15⟩ := HOK.out k x hx
          obtain ⟨xa, xb⟩ := HDL.out x (List.mem_of_getElem? hx)
          obtain ⟨j, rfl⟩ : ∃ j : Nat, x = (j : Int) := ⟨x.toNat, by omega⟩
          have hnx := setTo_succ hx
          rw [Int.toNat_natCast] at hnx hfr
          have HNX := Lib.hid hnx
          obtain ⟨S, hS⟩ : ∃ S, S = setTo r k := ⟨_, rfl⟩
          rw [← hS] at hfr S0 S15 HNX ⊢
          obtain ⟨q1', q2'⟩ := shr_in S j S0 S15 (by omega)
          have hbo := bit_one _ q1' q2'
          have dd : (bits .and .i64 (S / 2 ^ j) 1 == 1) = false := by rw [hbo, hfr]; rfl
          have dx0 : decide ((j : Int) < 0) = false := by rw [decide_eq_false_iff_not]; omega
          have dxq : decide ((q : Int) ≤ (j : Int)) = false := by rw [decide_eq_false_iff_not]; omega
          have j0 : (0 : Int) ≤ (j : Int) := by omega
          have j3 : j ≤ 3 := by omega
          have k0 : (0 : Int) ≤ (k : Int) := by omega
          have k1 : (k : Int) < (m : Int) := by omega
          clear hbo hfr hx hS hnx
          go_wp2
          go_roundw
          case rel => exact ⟨k + 1, by go_num, by omega, by rw [HNX.out], trivial⟩
          case measure => simp [intOf]; omega
        · obtain rfl : k = m := by omega
          rw [HFIN.out]
          go_wp2_with fail
          go_loopw [11] (fun l wq => ∃ k : Nat, l = .int .i64 k ∧ k ≤ N ∧ Below wr.heap.size wr wq) (fun l _ => N - (intOf l).toNat)
          case atStart => exact ⟨0, rfl, Nat.zero_le _, Below.refl _ _⟩
          case round =>
            obtain ⟨t, rfl, ht, hbq⟩ := hrel
            rename World => wq
            have HBq := Lib.hid hbq
            have kq := Keeps.of_below hbq
            have u1 := kq _ _ x1
            have u2 := kq _ _ x2
            have ur := kq _ _ xr
            have KQ := Lib.hid kq
            clear hbq x0 x1 x2 xr kq
            by_cases htN : t < N
            · have t0 : (0 : Int) ≤ (t : Int) := by omega
              have t1 : (t : Int) < (N : Int) := by omega
              have dtN : decide ((t : Int) < (N : Int)) = true := by simp; omega
              have dtM : decide (t < N) = true := by simp; omega
              cases sc with
              | false =>
                go_wp2
                go_roundw
                case rel => exact ⟨i + 1, by go_num, by omega, HB.out.trans (HBq.out.mono HB.out.size)⟩
                case measure => simp [intOf]; omega
              | true =>
                obtain ⟨hs2, hs1⟩ := HS2.out rfl
                obtain ⟨e', he'⟩ : ∃ e, es[t]? = some e := ⟨_, List.getElem?_eq_getElem (by rw [HLN.out]; omega)⟩
                have kw := (Keeps.of_below HB.out).trans KQ.out
                have v0 := kw _ _ (HCS.out t e' he').1
                have hrr : (ordsM es)[t]? = some (ordM es e'.s) := by unfold ordsM; rw [List.getElem?_map, he']; rfl
                obtain ⟨B', c', z0, zc, zn⟩ := HDS.out t _ hrr
                have vr := kw _ _ z0
                have hzn := zn.keep kw
                by_cases hps : e'.s = p
                · rw [hps] at v0 vr zc hzn
                  obtain ⟨r', hr'⟩ : ∃ r', r' = ordM es p := ⟨_, rfl⟩
                  rw [← hr'] at vr zc hzn hs2
                  have hl' : r'.length = k + 1 := by rw [hs2, List.length_append, hs1, HM.out]
                  rw [hl'] at vr zc hzn
                  have htk : r'.take k = r := by rw [hs2, HM.out, List.take_left]
                  have hn' := hzn.take k (by omega)
                  rw [htk] at hn'
                  obtain ⟨bd, -, rfl, -, -, -⟩ := hzn.at_ (show 0 < k + 1 by omega)
                  have HI := Lib.hid (rInts (some bd) B k k c' cB r r wq.drew (hn'.keep (Keeps.of_below (Below.refl wq.heap.size wq).drew)) ((HN.out.keep KQ.out).keep (Keeps.of_below (Below.refl wq.heap.size wq).drew)) (by omega))
                  rw [show decide (r = r) = true by simp] at HI
                  obtain ⟨m', hm'⟩ : ∃ z, z = k + 1 := ⟨_, rfl⟩
                  rw [← hm'] at vr zc
                  have dl1 : ((m' : Int) != IntKind.i64.wrap ((k : Int) + 1)) = false := by rw [IntWalk.i64_in _ (by omega), hm']; simp
                  have dl2 : ((m' : Int) != (k : Int) + 1) = false := by rw [hm']; simp
                  have dpp : (p == p) = true := by simp
                  have kc0 : (0 : Int) ≤ (k : Int) := by omega
                  have kc1 : (k : Int) ≤ (c' : Int) := by omega
                  have kc2 : k ≤ c' := by omega
                  clear he' kw hrr z0 zn hzn hps hr' hs2 hs1 hl' htk hn' hm'
                  go_wp2_with fail
                  refine wp_region_held_drew (S := fun W => W.cell? ⟨g, o + t * 3, none⟩ = some (.int .i64 p) ∧ W.cell? ⟨g, o + i * 3 + 1, none⟩ = some (.int .i64 p) ∧ W.cell? (ad.add i) = some (.slice B k cB) ∧ W.cell? (ad.add t) = some (.slice (some bd) m' c')) (by kernel_rfl) ⟨v0, u1, ur, vr⟩ (fun hHeld => ?_)
                  refine wpAnyH_take (i := 0) (v := ?vb0) rfl (by kernel_rfl) (by kernel_rfl) (by kernel_rfl) (fun _ _ _ h => h) (Or.inl ⟨by rfl, ?yb0⟩) hHeld ?rb0
                  case yb0 => (intro W hW; obtain ⟨hW0, hW1, hW2, hW3⟩ := hW; go_simp; first | done | with_reducible rfl)
                  try simp only [List.getElem_toArray, List.getElem_cons_zero, Act.put, List.setIfInBounds_toArray, List.set_cons_zero, List.set_cons_succ]
                  refine wpAnyH_take (i := 1) (v := ?vb1) rfl (by kernel_rfl) (by kernel_rfl) (by kernel_rfl) (fun _ _ _ h => h) (Or.inl ⟨by rfl, ?yb1⟩) hHeld ?rb1
                  case yb1 => (intro W hW; obtain ⟨hW0, hW1, hW2, hW3⟩ := hW; go_simp; first | done | with_reducible rfl)
                  try simp only [List.getElem_toArray, List.getElem_cons_succ, List.getElem_cons_zero, Act.put, List.setIfInBounds_toArray, List.set_cons_zero, List.set_cons_succ]
                  refine wpAnyH_take (i := 2) (v := ?vb2) rfl (by kernel_rfl) (by kernel_rfl) (by kernel_rfl) (fun _ _ _ h => h) (Or.inl ⟨by rfl, ?yb2⟩) hHeld ?rb2
                  case yb2 => (intro W hW; obtain ⟨hW0, hW1, hW2, hW3⟩ := hW; go_simp; first | done | with_reducible rfl)
                  try simp only [List.getElem_toArray, List.getElem_cons_succ, List.getElem_cons_zero, Act.put, List.setIfInBounds_toArray, List.set_cons_zero, List.set_cons_succ]
                  refine wpAnyH_take (i := 3) (v := ?vb3) rfl (by kernel_rfl) (by kernel_rfl) (by kernel_rfl) (fun _ _ _ h => h) (Or.inl ⟨by rfl, ?yb3⟩) hHeld ?rb3
                  case yb3 => (intro W hW; obtain ⟨hW0, hW1, hW2, hW3⟩ := hW; go_simp; first | done | with_reducible rfl)
                  try simp only [List.getElem_toArray, List.getElem_cons_succ, List.getElem_cons_zero, Act.put, List.setIfInBounds_toArray, List.set_cons_zero, List.set_cons_succ]
                  refine wpAnyH_take (i := 4) (v := ?vb4) rfl (by kernel_rfl) (by kernel_rfl) (by kernel_rfl) (fun _ _ _ h => h) (Or.inl ⟨by rfl, ?yb4⟩) hHeld ?rb4
                  case yb4 => (intro W hW; obtain ⟨hW0, hW1, hW2, hW3⟩ := hW; go_simp; first | done | with_reducible rfl)
                  try simp only [List.getElem_toArray, List.getElem_cons_succ, List.getElem_cons_zero, Act.put, List.setIfInBounds_toArray, List.set_cons_zero, List.set_cons_succ]
                  refine wpAnyH_take (i := 5) (v := ?vb5) rfl (by kernel_rfl) (by kernel_rfl) (by kernel_rfl) (fun _ _ _ h => h) (Or.inl ⟨by rfl, ?yb5⟩) hHeld ?rb5
                  case yb5 => (intro W hW; obtain ⟨hW0, hW1, hW2, hW3⟩ := hW; go_simp; first | done | with_reducible rfl)
                  try simp only [List.getElem_toArray, List.getElem_cons_succ, List.getElem_cons_zero, Act.put, List.setIfInBounds_toArray, List.set_cons_zero, List.set_cons_succ]
                  refine wpAnyH_take (i := 6) (v := ?vb6) rfl (by kernel_rfl) (by kernel_rfl) (by kernel_rfl) (fun _ _ _ h => h) (Or.inl ⟨by rfl, ?yb6⟩) hHeld ?rb6
                  case yb6 => (intro W hW; obtain ⟨hW0, hW1, hW2, hW3⟩ := hW; go_simp; first | done | with_reducible rfl)
                  try simp only [List.getElem_toArray, List.getElem_cons_succ, List.getElem_cons_zero, Act.put, List.setIfInBounds_toArray, List.set_cons_zero, List.set_cons_succ]
                  refine wpAnyH_take (i := 7) (v := ?vb7) rfl (by kernel_rfl) (by kernel_rfl) (by kernel_rfl) (fun _ _ _ h => h) (Or.inl ⟨by rfl, ?yb7⟩) hHeld ?rb7
                  case yb7 => (intro W hW; obtain ⟨hW0, hW1, hW2, hW3⟩ := hW; go_simp; first | done | with_reducible rfl)
                  try simp only [List.getElem_toArray, List.getElem_cons_succ, List.getElem_cons_zero, Act.put, List.setIfInBounds_toArray, List.set_cons_zero, List.set_cons_succ]
                  refine wpAnyH_take (i := 8) (v := ?vb8) rfl (by kernel_rfl) (by kernel_rfl) (by kernel_rfl) (fun _ _ _ h => h) (Or.inl ⟨by rfl, ?yb8⟩) hHeld ?rb8
                  case yb8 => (intro W hW; obtain ⟨hW0, hW1, hW2, hW3⟩ := hW; go_simp; first | done | with_reducible rfl)
                  try simp only [List.getElem_toArray, List.getElem_cons_succ, List.getElem_cons_zero, Act.put, List.setIfInBounds_toArray, List.set_cons_zero, List.set_cons_succ]
                  refine wpAnyH_take (i := 9) (v := ?vb9) rfl (by kernel_rfl) (by kernel_rfl) (by kernel_rfl) (fun _ _ _ h => h) (Or.inl ⟨by rfl, ?yb9⟩) hHeld ?rb9
                  case yb9 => (intro W hW; obtain ⟨hW0, hW1, hW2, hW3⟩ := hW; go_simp; first | done | with_reducible rfl)
                  try simp only [List.getElem_toArray, List.getElem_cons_succ, List.getElem_cons_zero, Act.put, List.setIfInBounds_toArray, List.set_cons_zero, List.set_cons_succ]
                  refine wpAnyH_take (i := 10) (v := ?vb10) rfl (by kernel_rfl) (by kernel_rfl) (by kernel_rfl) (fun _ _ _ h => h) (Or.inl ⟨by rfl, ?yb10⟩) hHeld ?rb10
                  case yb10 => (intro W hW; obtain ⟨hW0, hW1, hW2, hW3⟩ := hW; go_simp; first | done | with_reducible rfl)
                  try simp only [List.getElem_toArray, List.getElem_cons_succ, List.getElem_cons_zero, Act.put, List.setIfInBounds_toArray, List.set_cons_zero, List.set_cons_succ]
                  refine wpAnyH_take (i := 11) (v := ?vb11) rfl (by kernel_rfl) (by kernel_rfl) (by kernel_rfl) (fun _ _ _ h => h) (Or.inl ⟨by rfl, ?yb11⟩) hHeld ?rb11
                  case yb11 => (intro W hW; obtain ⟨hW0, hW1, hW2, hW3⟩ := hW; go_simp; first | done | with_reducible rfl)
                  try simp only [List.getElem_toArray, List.getElem_cons_succ, List.getElem_cons_zero, Act.put, List.setIfInBounds_toArray, List.set_cons_zero, List.set_cons_succ]
                  refine wpAnyH_take (i := 12) (v := ?vb12) rfl (by kernel_rfl) (by kernel_rfl) (by kernel_rfl) (fun _ _ _ h => h) (Or.inl ⟨by rfl, ?yb12⟩) hHeld ?rb12
                  case yb12 => (intro W hW; obtain ⟨hW0, hW1, hW2, hW3⟩ := hW; go_simp; first | done | with_reducible rfl)
                  try simp only [List.getElem_toArray, List.getElem_cons_succ, List.getElem_cons_zero, Act.put, List.setIfInBounds_toArray, List.set_cons_zero, List.set_cons_succ]
                  refine wpAnyH_take (i := 13) (v := ?vb13) rfl (by kernel_rfl) (by kernel_rfl) (by kernel_rfl) (fun _ _ _ h => h) (Or.inl ⟨by rfl, ?yb13⟩) hHeld ?rb13
                  case yb13 => (intro W hW; obtain ⟨hW0, hW1, hW2, hW3⟩ := hW; go_simp; first | done | with_reducible rfl)
                  try simp only [List.getElem_toArray, List.getElem_cons_succ, List.getElem_cons_zero, Act.put, List.setIfInBounds_toArray, List.set_cons_zero, List.set_cons_succ]
                  refine wpAnyH_take (i := 14) (v := ?vb14) rfl (by kernel_rfl) (by kernel_rfl) (by kernel_rfl) (fun _ _ _ h => h) (Or.inl ⟨by rfl, ?yb14⟩) hHeld ?rb14
                  case yb14 => (intro W hW; obtain ⟨hW0, hW1, hW2, hW3⟩ := hW; go_simp; first | done | with_reducible rfl)
                  try simp only [List.getElem_toArray, List.getElem_cons_succ, List.getElem_cons_zero, Act.put, List.setIfInBounds_toArray, List.set_cons_zero, List.set_cons_succ]
                  refine wpAnyH_take (i := 15) (v := ?vb15) rfl (by kernel_rfl) (by kernel_rfl) (by kernel_rfl) (fun _ _ _ h => h) (Or.inl ⟨by rfl, ?yb15⟩) hHeld ?rb15
                  case yb15 => (intro W hW; obtain ⟨hW0, hW1, hW2, hW3⟩ := hW; go_simp; first | done | with_reducible rfl)
                  try simp only [List.getElem_toArray, List.getElem_cons_succ, List.getElem_cons_zero, Act.put, List.setIfInBounds_toArray, List.set_cons_zero, List.set_cons_succ]
                  refine wpAnyH_take (i := 16) (v := ?vb16) rfl (by kernel_rfl) (by kernel_rfl) (by kernel_rfl) (fun _ _ _ h => h) (Or.inl ⟨by rfl, ?yb16⟩) hHeld ?rb16
                  case yb16 => (intro W hW; obtain ⟨hW0, hW1, hW2, hW3⟩ := hW; go_simp; first | done | with_reducible rfl)
                  try simp only [List.getElem_toArray, List.getElem_cons_succ, List.getElem_cons_zero, Act.put, List.setIfInBounds_toArray, List.set_cons_zero, List.set_cons_succ]
                  refine wpAnyH_take (i := 17) (v := ?vb17) rfl (by kernel_rfl) (by kernel_rfl) (by kernel_rfl) (fun _ _ _ h => h) (Or.inl ⟨by rfl, ?yb17⟩) hHeld ?rb17
                  case yb17 => (intro W hW; obtain ⟨hW0, hW1, hW2, hW3⟩ := hW; go_simp; first | done | with_reducible rfl)
                  try simp only [List.getElem_toArray, List.getElem_cons_succ, List.getElem_cons_zero, Act.put, List.setIfInBounds_toArray, List.set_cons_zero, List.set_cons_succ]
                  refine wpAnyH_take (i := 18) (v := ?vb18) rfl (by kernel_rfl) (by kernel_rfl) (by kernel_rfl) (fun _ _ _ h => h) (Or.inl ⟨by rfl, ?yb18⟩) hHeld ?rb18
                  case yb18 => (intro W hW; obtain ⟨hW0, hW1, hW2, hW3⟩ := hW; go_simp; first | done | with_reducible rfl)
                  try simp only [List.getElem_toArray, List.getElem_cons_succ, List.getElem_cons_zero, Act.put, List.setIfInBounds_toArray, List.set_cons_zero, List.set_cons_succ]
                  refine wpAnyH_take (i := 19) (v := ?vb19) rfl (by kernel_rfl) (by kernel_rfl) (by kernel_rfl) (fun _ _ _ h => h) (Or.inl ⟨by rfl, ?yb19⟩) hHeld ?rb19
                  case yb19 => (intro W hW; obtain ⟨hW0, hW1, hW2, hW3⟩ := hW; go_simp; first | done | with_reducible rfl)
                  try simp only [List.getElem_toArray, List.getElem_cons_succ, List.getElem_cons_zero, Act.put, List.setIfInBounds_toArray, List.set_cons_zero, List.set_cons_succ]
                  refine wpAnyH_take (i := 20) (v := ?vb20) rfl (by kernel_rfl) (by kernel_rfl) (by kernel_rfl) (fun _ _ _ h => h) (Or.inl ⟨by rfl, ?yb20⟩) hHeld ?rb20
                  case yb20 => (intro W hW; obtain ⟨hW0, hW1, hW2, hW3⟩ := hW; go_simp; first | done | with_reducible rfl)
                  try simp only [List.getElem_toArray, List.getElem_cons_succ, List.getElem_cons_zero, Act.put, List.setIfInBounds_toArray, List.set_cons_zero, List.set_cons_succ]
                  refine wpAnyH_take (i := 21) (v := ?vb21) rfl (by kernel_rfl) (by kernel_rfl) (by kernel_rfl) (fun _ _ _ h => h) (Or.inl ⟨by rfl, ?yb21⟩) hHeld ?rb21
                  case yb21 => (intro W hW; obtain ⟨hW0, hW1, hW2, hW3⟩ := hW; go_simp; first | done | with_reducible rfl)
                  try simp only [List.getElem_toArray, List.getElem_cons_succ, List.getElem_cons_zero, Act.put, List.setIfInBounds_toArray, List.set_cons_zero, List.set_cons_succ]
                  refine wpAnyH_take (i := 22) (v := ?vb22) rfl (by kernel_rfl) (by kernel_rfl) (by kernel_rfl) (fun _ _ _ h => h) (Or.inl ⟨by rfl, ?yb22⟩) hHeld ?rb22
                  case yb22 => (intro W hW; obtain ⟨hW0, hW1, hW2, hW3⟩ := hW; go_simp; first | done | with_reducible rfl)
                  try simp only [List.getElem_toArray, List.getElem_cons_succ, List.getElem_cons_zero, Act.put, List.setIfInBounds_toArray, List.set_cons_zero, List.set_cons_succ]
                  refine wpAnyH_take (i := 23) (v := ?vb23) rfl (by kernel_rfl) (by kernel_rfl) (by kernel_rfl) (fun _ _ _ h => h) (Or.inl ⟨by rfl, ?yb23⟩) hHeld ?rb23
                  case yb23 => (intro W hW; obtain ⟨hW0, hW1, hW2, hW3⟩ := hW; go_simp; first | done | with_reducible rfl)
                  try simp only [List.getElem_toArray, List.getElem_cons_succ, List.getElem_cons_zero, Act.put, List.setIfInBounds_toArray, List.set_cons_zero, List.set_cons_succ]
                  refine wpAnyH_take (i := 24) (v := ?vb24) rfl (by kernel_rfl) (by kernel_rfl) (by kernel_rfl) (fun _ _ _ h => h) (Or.inl ⟨by rfl, ?yb24⟩) hHeld ?rb24
                  case yb24 => (intro W hW; obtain ⟨hW0, hW1, hW2, hW3⟩ := hW; go_simp; first | done | with_reducible rfl)
                  try simp only [List.getElem_toArray, List.getElem_cons_succ, List.getElem_cons_zero, Act.put, List.setIfInBounds_toArray, List.set_cons_zero, List.set_cons_succ]
                  refine wpAnyH_take (i := 25) (v := ?vb25) rfl (by kernel_rfl) (by kernel_rfl) (by kernel_rfl) (fun _ _ _ h => h) (Or.inl ⟨by rfl, ?yb25⟩) hHeld ?rb25
                  case yb25 => (intro W hW; obtain ⟨hW0, hW1, hW2, hW3⟩ := hW; go_simp; first | done | with_reducible rfl)
                  try simp only [List.getElem_toArray, List.getElem_cons_succ, List.getElem_cons_zero, Act.put, List.setIfInBounds_toArray, List.set_cons_zero, List.set_cons_succ]
                  refine wpAnyH_take (i := 26) (v := ?vb26) rfl (by kernel_rfl) (by kernel_rfl) (by kernel_rfl) (fun _ _ _ h => h) (Or.inl ⟨by rfl, ?yb26⟩) hHeld ?rb26
                  case yb26 => (intro W hW; obtain ⟨hW0, hW1, hW2, hW3⟩ := hW; go_simp; first | done | with_reducible rfl)
                  try simp only [List.getElem_toArray, List.getElem_cons_succ, List.getElem_cons_zero, Act.put, List.setIfInBounds_toArray, List.set_cons_zero, List.set_cons_succ]
                  refine wpAnyH_take (i := 27) (v := ?vb27) rfl (by kernel_rfl) (by kernel_rfl) (by kernel_rfl) (fun _ _ _ h => h) (Or.inl ⟨by rfl, ?yb27⟩) hHeld ?rb27
                  case yb27 => (intro W hW; obtain ⟨hW0, hW1, hW2, hW3⟩ := hW; go_simp; first | done | with_reducible rfl)
                  try simp only [List.getElem_toArray, List.getElem_cons_succ, List.getElem_cons_zero, Act.put, List.setIfInBounds_toArray, List.set_cons_zero, List.set_cons_succ]
                  refine wpAnyH_take (i := 28) (v := ?vb28) rfl (by kernel_rfl) (by kernel_rfl) (by kernel_rfl) (fun _ _ _ h => h) (Or.inl ⟨by rfl, ?yb28⟩) hHeld ?rb28
                  case yb28 => (intro W hW; obtain ⟨hW0, hW1, hW2, hW3⟩ := hW; go_simp; first | done | with_reducible rfl)
                  try simp only [List.getElem_toArray, List.getElem_cons_succ, List.getElem_cons_zero, Act.put, List.setIfInBounds_toArray, List.set_cons_zero, List.set_cons_succ]
                  refine wpAnyH_take (i := 29) (v := ?vb29) rfl (by kernel_rfl) (by kernel_rfl) (by kernel_rfl) (fun _ _ _ h => h) (Or.inl ⟨by rfl, ?yb29⟩) hHeld ?rb29
                  case yb29 => (intro W hW; obtain ⟨hW0, hW1, hW2, hW3⟩ := hW; go_simp; first | done | with_reducible rfl)
                  try simp only [List.getElem_toArray, List.getElem_cons_succ, List.getElem_cons_zero, Act.put, List.setIfInBounds_toArray, List.set_cons_zero, List.set_cons_succ]
                  refine wpAnyH_take (i := 30) (v := ?vb30) rfl (by kernel_rfl) (by kernel_rfl) (by kernel_rfl) (fun _ _ _ h => h) (Or.inl ⟨by rfl, ?yb30⟩) hHeld ?rb30
                  case yb30 => (intro W hW; obtain ⟨hW0, hW1, hW2, hW3⟩ := hW; go_simp; first | done | with_reducible rfl)
                  try simp only [List.getElem_toArray, List.getElem_cons_succ, List.getElem_cons_zero, Act.put, List.setIfInBounds_toArray, List.set_cons_zero, List.set_cons_succ]
                  refine wpAnyH_take (i := 31) (v := ?vb31) rfl (by kernel_rfl) (by kernel_rfl) (by kernel_rfl) (fun _ _ _ h => h) (Or.inl ⟨by rfl, ?yb31⟩) hHeld ?rb31
                  case yb31 => (intro W hW; obtain ⟨hW0, hW1, hW2, hW3⟩ := hW; go_simp; first | done | with_reducible rfl)
                  try simp only [List.getElem_toArray, List.getElem_cons_succ, List.getElem_cons_zero, Act.put, List.setIfInBounds_toArray, List.set_cons_zero, List.set_cons_succ]
                  refine wpAnyH_take (i := 32) (v := ?vb32) rfl (by kernel_rfl) (by kernel_rfl) (by kernel_rfl) (fun _ _ _ h => h) (Or.inl ⟨by rfl, ?yb32⟩) hHeld ?rb32
                  case yb32 => (intro W hW; obtain ⟨hW0, hW1, hW2, hW3⟩ := hW; go_simp; first | done | with_reducible rfl)
                  try simp only [List.getElem_toArray, List.getElem_cons_succ, List.getElem_cons_zero, Act.put, List.setIfInBounds_toArray, List.set_cons_zero, List.set_cons_succ]
                  refine wpAnyH_take (i := 33) (v := ?vb33) rfl (by kernel_rfl) (by kernel_rfl) (by kernel_rfl) (fun _ _ _ h => h) (Or.inl ⟨by rfl, ?yb33⟩) hHeld ?rb33
                  case yb33 => (intro W hW; obtain ⟨hW0, hW1, hW2, hW3⟩ := hW; go_simp; first | done | with_reducible rfl)
                  try simp only [List.getElem_toArray, List.getElem_cons_succ, List.getElem_cons_zero, Act.put, List.setIfInBounds_toArray, List.set_cons_zero, List.set_cons_succ]
                  refine wpAnyH_take (i := 34) (v := ?vb34) rfl (by kernel_rfl) (by kernel_rfl) (by kernel_rfl) (fun _ _ _ h => h) (Or.inl ⟨by rfl, ?yb34⟩) hHeld ?rb34
                  case yb34 => (intro W hW; obtain ⟨hW0, hW1, hW2, hW3⟩ := hW; go_simp; first | done | with_reducible rfl)
                  try simp only [List.getElem_toArray, List.getElem_cons_succ, List.getElem_cons_zero, Act.put, List.setIfInBounds_toArray, List.set_cons_zero, List.set_cons_succ]
                  refine wpAnyH_take (i := 35) (v := ?vb35) rfl (by kernel_rfl) (by kernel_rfl) (by kernel_rfl) (fun _ _ _ h => h) (Or.inl ⟨by rfl, ?yb35⟩) hHeld ?rb35
                  case yb35 => (intro W hW; obtain ⟨hW0, hW1, hW2, hW3⟩ := hW; go_simp; first | done | with_reducible rfl)
                  try simp only [List.getElem_toArray, List.getElem_cons_succ, List.getElem_cons_zero, Act.put, List.setIfInBounds_toArray, List.set_cons_zero, List.set_cons_succ]
                  refine wpAnyH_take (i := 36) (v := ?vb36) rfl (by kernel_rfl) (by kernel_rfl) (by kernel_rfl) (fun _ _ _ h => h) (Or.inl ⟨by rfl, ?yb36⟩) hHeld ?rb36
                  case yb36 => (intro W hW; obtain ⟨hW0, hW1, hW2, hW3⟩ := hW; go_simp; first | done | with_reducible rfl)
                  try simp only [List.getElem_toArray, List.getElem_cons_succ, List.getElem_cons_zero, Act.put, List.setIfInBounds_toArray, List.set_cons_zero, List.set_cons_succ]
                  refine wpAnyH_take (i := 37) (v := ?vb37) rfl (by kernel_rfl) (by kernel_rfl) (by kernel_rfl) (fun _ _ _ h => h) (Or.inl ⟨by rfl, ?yb37⟩) hHeld ?rb37
                  case yb37 => (intro W hW; obtain ⟨hW0, hW1, hW2, hW3⟩ := hW; go_simp; first | done | with_reducible rfl)
                  try simp only [List.getElem_toArray, List.getElem_cons_succ, List.getElem_cons_zero, Act.put, List.setIfInBounds_toArray, List.set_cons_zero, List.set_cons_succ]
                  refine wpAnyH_take (i := 38) (v := ?vb38) rfl (by kernel_rfl) (by kernel_rfl) (by kernel_rfl) (fun _ _ _ h => h) (Or.inl ⟨by rfl, ?yb38⟩) hHeld ?rb38
                  case yb38 => (intro W hW; obtain ⟨hW0, hW1, hW2, hW3⟩ := hW; go_simp; first | done | with_reducible rfl)
                  try simp only [List.getElem_toArray, List.getElem_cons_succ, List.getElem_cons_zero, Act.put, List.setIfInBounds_toArray, List.set_cons_zero, List.set_cons_succ]
                  refine wpAnyH_ready (rs := [39]) (by kernel_rfl) (by simp) ?_
                  refine AllReadyH.cons rfl (fun K hK => ?_) (AllReadyH.nil)
                  go_simp
                  refine HI.out.mono ?_
                  rintro e9 w6 ⟨rfl, qq, hw6⟩
                  subst hw6
                  refine hK.out _ _ (⟨v0, u1, ur, vr⟩) (fun hHeld => ?_)
                  clear hK K
                  try simp only [List.getElem_toArray, List.getElem_cons_succ, List.getElem_cons_zero, Act.put, List.setIfInBounds_toArray, List.set_cons_zero, List.set_cons_succ]
                  refine wpAnyH_take (i := 40) (v := ?vb40) rfl (by kernel_rfl) (by kernel_rfl) (by kernel_rfl) (fun _ _ _ h => h) (Or.inl ⟨by rfl, ?yb40⟩) hHeld ?rb40
                  case yb40 => (intro W hW; obtain ⟨hW0, hW1, hW2, hW3⟩ := hW; go_simp; first | done | with_reducible rfl)
                  try simp only [List.getElem_toArray, List.getElem_cons_succ, List.getElem_cons_zero, Act.put, List.setIfInBounds_toArray, List.set_cons_zero, List.set_cons_succ]
                  refine wpAnyH_take (i := 41) (v := ?vb41) rfl (by kernel_rfl) (by kernel_rfl) (by kernel_rfl) (fun _ _ _ h => h) (Or.inl ⟨by rfl, ?yb41⟩) hHeld ?rb41
                  case yb41 => (intro W hW; obtain ⟨hW0, hW1, hW2, hW3⟩ := hW; go_simp; first | done | with_reducible rfl)
                  try simp only [List.getElem_toArray, List.getElem_cons_succ, List.getElem_cons_zero, Act.put, List.setIfInBounds_toArray, List.set_cons_zero, List.set_cons_succ]
                  refine wpAnyH_take (i := 42) (v := ?vb42) rfl (by kernel_rfl) (by kernel_rfl) (by kernel_rfl) (fun _ _ _ h => h) (Or.inl ⟨by rfl, ?yb42⟩) hHeld ?rb42
                  case yb42 => (intro W hW; obtain ⟨hW0, hW1, hW2, hW3⟩ := hW; go_simp; first | done | with_reducible rfl)
                  try simp only [List.getElem_toArray, List.getElem_cons_succ, List.getElem_cons_zero, Act.put, List.setIfInBounds_toArray, List.set_cons_zero, List.set_cons_succ]
                  refine wpAnyH_done (by kernel_rfl) ?_ _
                  clear hHeld
                  go_wp2
                  go_roundw
                  case rel => exact ⟨t + 1, by go_num, by omega, below_drewN HBq.out (1 + qq)⟩
                  case measure => simp [intOf]; omega
                · obtain ⟨s', hs'⟩ : ∃ z, z = e'.s := ⟨_, rfl⟩
                  rw [← hs'] at v0 hps
                  have dne : (s' == p) = false := by simpa using hps
                  clear he' kw hrr z0 zn zc hzn vr hs2 hs1 hs'
                  go_wp2_with fail
                  refine wp_region_held_drew (S := fun W => W.cell? ⟨g, o + t * 3, none⟩ = some (.int .i64 s') ∧ W.cell? ⟨g, o + i * 3 + 1, none⟩ = some (.int .i64 p)) (by kernel_rfl) ⟨v0, u1⟩ (fun hHeld => ?_)
                  refine wpAnyH_take (i := 0) (v := ?va0) rfl (by kernel_rfl) (by kernel_rfl) (by kernel_rfl) (fun _ _ _ h => h) (Or.inl ⟨by rfl, ?ya0⟩) hHeld ?ra0
                  case ya0 => (intro W hW; obtain ⟨hW0, hW1⟩ := hW; go_simp; first | done | with_reducible rfl)
                  try simp only [List.getElem_toArray, List.getElem_cons_zero, Act.put, List.setIfInBounds_toArray, List.set_cons_zero, List.set_cons_succ]
                  refine wpAnyH_take (i := 1) (v := ?va1) rfl (by kernel_rfl) (by kernel_rfl) (by kernel_rfl) (fun _ _ _ h => h) (Or.inl ⟨by rfl, ?ya1⟩) hHeld ?ra1
                  case ya1 => (intro W hW; obtain ⟨hW0, hW1⟩ := hW; go_simp; first | done | with_reducible rfl)
                  try simp only [List.getElem_toArray, List.getElem_cons_succ, List.getElem_cons_zero, Act.put, List.setIfInBounds_toArray, List.set_cons_zero, List.set_cons_succ]
                  refine wpAnyH_take (i := 2) (v := ?va2) rfl (by kernel_rfl) (by kernel_rfl) (by kernel_rfl) (fun _ _ _ h => h) (Or.inl ⟨by rfl, ?ya2⟩) hHeld ?ra2
                  case ya2 => (intro W hW; obtain ⟨hW0, hW1⟩ := hW; go_simp; first | done | with_reducible rfl)
                  try simp only [List.getElem_toArray, List.getElem_cons_succ, List.getElem_cons_zero, Act.put, List.setIfInBounds_toArray, List.set_cons_zero, List.set_cons_succ]
                  refine wpAnyH_take (i := 3) (v := ?va3) rfl (by kernel_rfl) (by kernel_rfl) (by kernel_rfl) (fun _ _ _ h => h) (Or.inl ⟨by rfl, ?ya3⟩) hHeld ?ra3
                  case ya3 => (intro W hW; obtain ⟨hW0, hW1⟩ := hW; go_simp; first | done | with_reducible rfl)
                  try simp only [List.getElem_toArray, List.getElem_cons_succ, List.getElem_cons_zero, Act.put, List.setIfInBounds_toArray, List.set_cons_zero, List.set_cons_succ]
                  refine wpAnyH_take (i := 4) (v := ?va4) rfl (by kernel_rfl) (by kernel_rfl) (by kernel_rfl) (fun _ _ _ h => h) (Or.inl ⟨by rfl, ?ya4⟩) hHeld ?ra4
                  case ya4 => (intro W hW; obtain ⟨hW0, hW1⟩ := hW; go_simp; first | done | with_reducible rfl)
                  try simp only [List.getElem_toArray, List.getElem_cons_succ, List.getElem_cons_zero, Act.put, List.setIfInBounds_toArray, List.set_cons_zero, List.set_cons_succ]
                  refine wpAnyH_take (i := 5) (v := ?va5) rfl (by kernel_rfl) (by kernel_rfl) (by kernel_rfl) (fun _ _ _ h => h) (Or.inl ⟨by rfl, ?ya5⟩) hHeld ?ra5
                  case ya5 => (intro W hW; obtain ⟨hW0, hW1⟩ := hW; go_simp; first | done | with_reducible rfl)
                  try simp only [List.getElem_toArray, List.getElem_cons_succ, List.getElem_cons_zero, Act.put, List.setIfInBounds_toArray, List.set_cons_zero, List.set_cons_succ]
                  refine wpAnyH_take (i := 6) (v := ?va6) rfl (by kernel_rfl) (by kernel_rfl) (by kernel_rfl) (fun _ _ _ h => h) (Or.inl ⟨by rfl, ?ya6⟩) hHeld ?ra6
                  case ya6 => (intro W hW; obtain ⟨hW0, hW1⟩ := hW; go_simp; first | done | with_reducible rfl)
                  try simp only [List.getElem_toArray, List.getElem_cons_succ, List.getElem_cons_zero, Act.put, List.setIfInBounds_toArray, List.set_cons_zero, List.set_cons_succ]
                  refine wpAnyH_take (i := 7) (v := ?va7) rfl (by kernel_rfl) (by kernel_rfl) (by kernel_rfl) (fun _ _ _ h => h) (Or.inl ⟨by rfl, ?ya7⟩) hHeld ?ra7
                  case ya7 => (intro W hW; obtain ⟨hW0, hW1⟩ := hW; go_simp; first | done | with_reducible rfl)
                  try simp only [List.getElem_toArray, List.getElem_cons_succ, List.getElem_cons_zero, Act.put, List.setIfInBounds_toArray, List.set_cons_zero, List.set_cons_succ]
                  refine wpAnyH_take (i := 8) (v := ?va8) rfl (by kernel_rfl) (by kernel_rfl) (by kernel_rfl) (fun _ _ _ h => h) (Or.inl ⟨by rfl, ?ya8⟩) hHeld ?ra8
                  case ya8 => (intro W hW; obtain ⟨hW0, hW1⟩ := hW; go_simp; first | done | with_reducible rfl)
                  try simp only [List.getElem_toArray, List.getElem_cons_succ, List.getElem_cons_zero, Act.put, List.setIfInBounds_toArray, List.set_cons_zero, List.set_cons_succ]
                  refine wpAnyH_take (i := 9) (v := ?va9) rfl (by kernel_rfl) (by kernel_rfl) (by kernel_rfl) (fun _ _ _ h => h) (Or.inl ⟨by rfl, ?ya9⟩) hHeld ?ra9
                  case ya9 => (intro W hW; obtain ⟨hW0, hW1⟩ := hW; go_simp; first | done | with_reducible rfl)
                  try simp only [List.getElem_toArray, List.getElem_cons_succ, List.getElem_cons_zero, Act.put, List.setIfInBounds_toArray, List.set_cons_zero, List.set_cons_succ]
                  refine wpAnyH_take (i := 10) (v := ?va10) rfl (by kernel_rfl) (by kernel_rfl) (by kernel_rfl) (fun _ _ _ h => h) (Or.inl ⟨by rfl, ?ya10⟩) hHeld ?ra10
                  case ya10 => (intro W hW; obtain ⟨hW0, hW1⟩ := hW; go_simp; first | done | with_reducible rfl)
                  try simp only [List.getElem_toArray, List.getElem_cons_succ, List.getElem_cons_zero, Act.put, List.setIfInBounds_toArray, List.set_cons_zero, List.set_cons_succ]
                  refine wpAnyH_take (i := 11) (v := ?va11) rfl (by kernel_rfl) (by kernel_rfl) (by kernel_rfl) (fun _ _ _ h => h) (Or.inl ⟨by rfl, ?ya11⟩) hHeld ?ra11
                  case ya11 => (intro W hW; obtain ⟨hW0, hW1⟩ := hW; go_simp; first | done | with_reducible rfl)
                  try simp only [List.getElem_toArray, List.getElem_cons_succ, List.getElem_cons_zero, Act.put, List.setIfInBounds_toArray, List.set_cons_zero, List.set_cons_succ]
                  refine wpAnyH_take (i := 12) (v := undef) rfl (by kernel_rfl) (by kernel_rfl) (by kernel_rfl) (fun _ _ _ h => h) (Or.inr ⟨by rfl, rfl⟩) hHeld ?ra12
                  try simp only [List.getElem_toArray, List.getElem_cons_succ, List.getElem_cons_zero, Act.put, List.setIfInBounds_toArray, List.set_cons_zero, List.set_cons_succ]
                  refine wpAnyH_take (i := 13) (v := undef) rfl (by kernel_rfl) (by kernel_rfl) (by kernel_rfl) (fun _ _ _ h => h) (Or.inr ⟨by rfl, rfl⟩) hHeld ?ra13
                  try simp only [List.getElem_toArray, List.getElem_cons_succ, List.getElem_cons_zero, Act.put, List.setIfInBounds_toArray, List.set_cons_zero, List.set_cons_succ]
                  refine wpAnyH_take (i := 14) (v := undef) rfl (by kernel_rfl) (by kernel_rfl) (by kernel_rfl) (fun _ _ _ h => h) (Or.inr ⟨by rfl, rfl⟩) hHeld ?ra14
                  try simp only [List.getElem_toArray, List.getElem_cons_succ, List.getElem_cons_zero, Act.put, List.setIfInBounds_toArray, List.set_cons_zero, List.set_cons_succ]
                  refine wpAnyH_take (i := 15) (v := undef) rfl (by kernel_rfl) (by kernel_rfl) (by kernel_rfl) (fun _ _ _ h => h) (Or.inr ⟨by rfl, rfl⟩) hHeld ?ra15
                  try simp only [List.getElem_toArray, List.getElem_cons_succ, List.getElem_cons_zero, Act.put, List.setIfInBounds_toArray, List.set_cons_zero, List.set_cons_succ]
                  refine wpAnyH_take (i := 16) (v := undef) rfl (by kernel_rfl) (by kernel_rfl) (by kernel_rfl) (fun _ _ _ h => h) (Or.inr ⟨by rfl, rfl⟩) hHeld ?ra16
                  try simp only [List.getElem_toArray, List.getElem_cons_succ, List.getElem_cons_zero, Act.put, List.setIfInBounds_toArray, List.set_cons_zero, List.set_cons_succ]
                  refine wpAnyH_take (i := 17) (v := undef) rfl (by kernel_rfl) (by kernel_rfl) (by kernel_rfl) (fun _ _ _ h => h) (Or.inr ⟨by rfl, rfl⟩) hHeld ?ra17
                  try simp only [List.getElem_toArray, List.getElem_cons_succ, List.getElem_cons_zero, Act.put, List.setIfInBounds_toArray, List.set_cons_zero, List.set_cons_succ]
                  refine wpAnyH_take (i := 18) (v := undef) rfl (by kernel_rfl) (by kernel_rfl) (by kernel_rfl) (fun _ _ _ h => h) (Or.inr ⟨by rfl, rfl⟩) hHeld ?ra18
                  try simp only [List.getElem_toArray, List.getElem_cons_succ, List.getElem_cons_zero, Act.put, List.setIfInBounds_toArray, List.set_cons_zero, List.set_cons_succ]
                  refine wpAnyH_take (i := 19) (v := undef) rfl (by kernel_rfl) (by kernel_rfl) (by kernel_rfl) (fun _ _ _ h => h) (Or.inr ⟨by rfl, rfl⟩) hHeld ?ra19
                  try simp only [List.getElem_toArray, List.getElem_cons_succ, List.getElem_cons_zero, Act.put, List.setIfInBounds_toArray, List.set_cons_zero, List.set_cons_succ]
                  refine wpAnyH_take (i := 20) (v := undef) rfl (by kernel_rfl) (by kernel_rfl) (by kernel_rfl) (fun _ _ _ h => h) (Or.inr ⟨by rfl, rfl⟩) hHeld ?ra20
                  try simp only [List.getElem_toArray, List.getElem_cons_succ, List.getElem_cons_zero, Act.put, List.setIfInBounds_toArray, List.set_cons_zero, List.set_cons_succ]
                  refine wpAnyH_take (i := 21) (v := undef) rfl (by kernel_rfl) (by kernel_rfl) (by kernel_rfl) (fun _ _ _ h => h) (Or.inr ⟨by rfl, rfl⟩) hHeld ?ra21
                  try simp only [List.getElem_toArray, List.getElem_cons_succ, List.getElem_cons_zero, Act.put, List.setIfInBounds_toArray, List.set_cons_zero, List.set_cons_succ]
                  refine wpAnyH_take (i := 22) (v := undef) rfl (by kernel_rfl) (by kernel_rfl) (by kernel_rfl) (fun _ _ _ h => h) (Or.inr ⟨by rfl, rfl⟩) hHeld ?ra22
                  try simp only [List.getElem_toArray, List.getElem_cons_succ, List.getElem_cons_zero, Act.put, List.setIfInBounds_toArray, List.set_cons_zero, List.set_cons_succ]
                  refine wpAnyH_take (i := 23) (v := undef) rfl (by kernel_rfl) (by kernel_rfl) (by kernel_rfl) (fun _ _ _ h => h) (Or.inr ⟨by rfl, rfl⟩) hHeld ?ra23
                  try simp only [List.getElem_toArray, List.getElem_cons_succ, List.getElem_cons_zero, Act.put, List.setIfInBounds_toArray, List.set_cons_zero, List.set_cons_succ]
                  refine wpAnyH_take (i := 24) (v := undef) rfl (by kernel_rfl) (by kernel_rfl) (by kernel_rfl) (fun _ _ _ h => h) (Or.inr ⟨by rfl, rfl⟩) hHeld ?ra24
                  try simp only [List.getElem_toArray, List.getElem_cons_succ, List.getElem_cons_zero, Act.put, List.setIfInBounds_toArray, List.set_cons_zero, List.set_cons_succ]
                  refine wpAnyH_take (i := 25) (v := undef) rfl (by kernel_rfl) (by kernel_rfl) (by kernel_rfl) (fun _ _ _ h => h) (Or.inr ⟨by rfl, rfl⟩) hHeld ?ra25
                  try simp only [List.getElem_toArray, List.getElem_cons_succ, List.getElem_cons_zero, Act.put, List.setIfInBounds_toArray, List.set_cons_zero, List.set_cons_succ]
                  refine wpAnyH_take (i := 26) (v := undef) rfl (by kernel_rfl) (by kernel_rfl) (by kernel_rfl) (fun _ _ _ h => h) (Or.inr ⟨by rfl, rfl⟩) hHeld ?ra26
                  try simp only [List.getElem_toArray, List.getElem_cons_succ, List.getElem_cons_zero, Act.put, List.setIfInBounds_toArray, List.set_cons_zero, List.set_cons_succ]
                  refine wpAnyH_take (i := 27) (v := undef) rfl (by kernel_rfl) (by kernel_rfl) (by kernel_rfl) (fun _ _ _ h => h) (Or.inr ⟨by rfl, rfl⟩) hHeld ?ra27
                  try simp only [List.getElem_toArray, List.getElem_cons_succ, List.getElem_cons_zero, Act.put, List.setIfInBounds_toArray, List.set_cons_zero, List.set_cons_succ]
                  refine wpAnyH_take (i := 28) (v := undef) rfl (by kernel_rfl) (by kernel_rfl) (by kernel_rfl) (fun _ _ _ h => h) (Or.inr ⟨by rfl, rfl⟩) hHeld ?ra28
                  try simp only [List.getElem_toArray, List.getElem_cons_succ, List.getElem_cons_zero, Act.put, List.setIfInBounds_toArray, List.set_cons_zero, List.set_cons_succ]
                  refine wpAnyH_take (i := 29) (v := undef) rfl (by kernel_rfl) (by kernel_rfl) (by kernel_rfl) (fun _ _ _ h => h) (Or.inr ⟨by rfl, rfl⟩) hHeld ?ra29
                  try simp only [List.getElem_toArray, List.getElem_cons_succ, List.getElem_cons_zero, Act.put, List.setIfInBounds_toArray, List.set_cons_zero, List.set_cons_succ]
                  refine wpAnyH_take (i := 30) (v := undef) rfl (by kernel_rfl) (by kernel_rfl) (by kernel_rfl) (fun _ _ _ h => h) (Or.inr ⟨by rfl, rfl⟩) hHeld ?ra30
                  try simp only [List.getElem_toArray, List.getElem_cons_succ, List.getElem_cons_zero, Act.put, List.setIfInBounds_toArray, List.set_cons_zero, List.set_cons_succ]
                  refine wpAnyH_take (i := 31) (v := undef) rfl (by kernel_rfl) (by kernel_rfl) (by kernel_rfl) (fun _ _ _ h => h) (Or.inr ⟨by rfl, rfl⟩) hHeld ?ra31
                  try simp only [List.getElem_toArray, List.getElem_cons_succ, List.getElem_cons_zero, Act.put, List.setIfInBounds_toArray, List.set_cons_zero, List.set_cons_succ]
                  refine wpAnyH_take (i := 32) (v := undef) rfl (by kernel_rfl) (by kernel_rfl) (by kernel_rfl) (fun _ _ _ h => h) (Or.inr ⟨by rfl, rfl⟩) hHeld ?ra32
                  try simp only [List.getElem_toArray, List.getElem_cons_succ, List.getElem_cons_zero, Act.put, List.setIfInBounds_toArray, List.set_cons_zero, List.set_cons_succ]
                  refine wpAnyH_take (i := 33) (v := undef) rfl (by kernel_rfl) (by kernel_rfl) (by kernel_rfl) (fun _ _ _ h => h) (Or.inr ⟨by rfl, rfl⟩) hHeld ?ra33
                  try simp only [List.getElem_toArray, List.getElem_cons_succ, List.getElem_cons_zero, Act.put, List.setIfInBounds_toArray, List.set_cons_zero, List.set_cons_succ]
                  refine wpAnyH_take (i := 34) (v := undef) rfl (by kernel_rfl) (by kernel_rfl) (by kernel_rfl) (fun _ _ _ h => h) (Or.inr ⟨by rfl, rfl⟩) hHeld ?ra34
                  try simp only [List.getElem_toArray, List.getElem_cons_succ, List.getElem_cons_zero, Act.put, List.setIfInBounds_toArray, List.set_cons_zero, List.set_cons_succ]
                  refine wpAnyH_take (i := 35) (v := undef) rfl (by kernel_rfl) (by kernel_rfl) (by kernel_rfl) (fun _ _ _ h => h) (Or.inr ⟨by rfl, rfl⟩) hHeld ?ra35
                  try simp only [List.getElem_toArray, List.getElem_cons_succ, List.getElem_cons_zero, Act.put, List.setIfInBounds_toArray, List.set_cons_zero, List.set_cons_succ]
                  refine wpAnyH_take (i := 36) (v := undef) rfl (by kernel_rfl) (by kernel_rfl) (by kernel_rfl) (fun _ _ _ h => h) (Or.inr ⟨by rfl, rfl⟩) hHeld ?ra36
                  try simp only [List.getElem_toArray, List.getElem_cons_succ, List.getElem_cons_zero, Act.put, List.setIfInBounds_toArray, List.set_cons_zero, List.set_cons_succ]
                  refine wpAnyH_take (i := 37) (v := undef) rfl (by kernel_rfl) (by kernel_rfl) (by kernel_rfl) (fun _ _ _ h => h) (Or.inr ⟨by rfl, rfl⟩) hHeld ?ra37
                  try simp only [List.getElem_toArray, List.getElem_cons_succ, List.getElem_cons_zero, Act.put, List.setIfInBounds_toArray, List.set_cons_zero, List.set_cons_succ]
                  refine wpAnyH_take (i := 38) (v := undef) rfl (by kernel_rfl) (by kernel_rfl) (by kernel_rfl) (fun _ _ _ h => h) (Or.inr ⟨by rfl, rfl⟩) hHeld ?ra38
                  try simp only [List.getElem_toArray, List.getElem_cons_succ, List.getElem_cons_zero, Act.put, List.setIfInBounds_toArray, List.set_cons_zero, List.set_cons_succ]
                  refine wpAnyH_take (i := 39) (v := undef) rfl (by kernel_rfl) (by kernel_rfl) (by kernel_rfl) (fun _ _ _ h => h) (Or.inr ⟨by rfl, rfl⟩) hHeld ?ra39
                  try simp only [List.getElem_toArray, List.getElem_cons_succ, List.getElem_cons_zero, Act.put, List.setIfInBounds_toArray, List.set_cons_zero, List.set_cons_succ]
                  refine wpAnyH_take (i := 40) (v := undef) rfl (by kernel_rfl) (by kernel_rfl) (by kernel_rfl) (fun _ _ _ h => h) (Or.inr ⟨by rfl, rfl⟩) hHeld ?ra40
                  try simp only [List.getElem_toArray, List.getElem_cons_succ, List.getElem_cons_zero, Act.put, List.setIfInBounds_toArray, List.set_cons_zero, List.set_cons_succ]
                  refine wpAnyH_take (i := 41) (v := undef) rfl (by kernel_rfl) (by kernel_rfl) (by kernel_rfl) (fun _ _ _ h => h) (Or.inr ⟨by rfl, rfl⟩) hHeld ?ra41
                  try simp only [List.getElem_toArray, List.getElem_cons_succ, List.getElem_cons_zero, Act.put, List.setIfInBounds_toArray, List.set_cons_zero, List.set_cons_succ]
                  refine wpAnyH_take (i := 42) (v := ?va42) rfl (by kernel_rfl) (by kernel_rfl) (by kernel_rfl) (fun _ _ _ h => h) (Or.inl ⟨by rfl, ?ya42⟩) hHeld ?ra42
                  case ya42 => (intro W hW; obtain ⟨hW0, hW1⟩ := hW; go_simp; first | done | with_reducible rfl)
                  try simp only [List.getElem_toArray, List.getElem_cons_succ, List.getElem_cons_zero, Act.put, List.setIfInBounds_toArray, List.set_cons_zero, List.set_cons_succ]
                  refine wpAnyH_done (by kernel_rfl) ?_ _
                  clear hHeld
                  go_wp2
                  go_roundw
                  case rel => exact ⟨t + 1, by go_num, by omega, HBq.out.drew⟩
                  case measure => simp [intOf]; omega
            · obtain rfl : t = N := by omega
              have dtN : decide ((t : Int) < (t : Int)) = false := by simp
              go_wp2
              go_roundw
              case rel => exact ⟨i + 1, by go_num, by omega, HB.out.trans (HBq.out.mono HB.out.size)⟩
              case measure => simp [intOf]; omega
    · obtain rfl : i = N := by omega
      have HBf := Lib.hid (HB5.out.trans (HB.out.mono HB5.out.size))
      go_wp2
      go_ret
      exact ⟨rfl, HBf.out⟩
end Go.Proofs.YtjllmladhjbnaaaGreatDoor
