/- The law HashOwn. -/
import Derived.IntWalk
import Derived.Test.YtioddfodajinlaaHsho
import Derived.Test.YtioddfodajinlaaMake
import Derived.Test.YtioddfodajinlaaSet
import Derived.Test.YtioddfodajinlaaIsRow
import Derived.Test.YtioddfodajinlaaHsht
import Derived.Test.YtioddfodajinlaaHshr5
import Derived.Test.YtioddfodajinlaaHshr4
import Derived.Test.YtioddfodajinlaaHshr2
import Derived.Test.YtioddfodajinlaaRfacts
import Derived.Test.YtioddfodajinlaaCelg
import Derived.Test.YtioddfodajinlaaLawCellOwn
namespace Go.Proofs.Ytioddfodajinlaa
open Go.RowKit
attribute [local go_sem] Oper.semAt_some
set_option maxRecDepth 100000 in
set_option maxHeartbeats 8000000 in
theorem hashOwn_walk (a0 : Int) (a1 : Option Addr) (len1 cap1 : Nat) (z1 : List Int) (a2 : Int) (a3 : Option Addr) (len3 cap3 : Nat) (z3 : List Int) (a4 : Int) (a5 : Int) (w : World) (h0 : inK .i64 a0) (w1 : IsRow .i64 w a1 len1 cap1 z1) (h2 : inK .i64 a2) (w3 : IsRow .i64 w a3 len3 cap3 z3) (h4 : inK .i64 a4) (h5 : inK .i64 a5) :
    Calls Try.prog 5 #[.int .i64 a0, .slice a1 len1 cap1, .int .i64 a2, .slice a3 len3 cap3, .int .i64 a4, .int .i64 a5] w fun e w' => e = .returned (.bool true) ∧ Below w.heap.size w w' := by
  obtain ⟨n1, lc1, cm1⟩ := w1.nums
  obtain ⟨n3, lc3, cm3⟩ := w3.nums
  have N1 := Lib.hid n1
  have N3 := Lib.hid n3
  have HKn := Lib.hid (hknown_any w)
  clear w1 w3 n1 n3
  go_enter Try.func5, Try.ntmps5
  go_wp2_with fail
  refine HKn.out.mono ?_
  rintro e w1 ⟨rfl, hb1⟩
  have Hb1 := Lib.hid hb1
  clear hb1 HKn
  go_wp2_with fail
  refine (Facts_res a0 a2 a1 a3 len1 cap1 len3 cap3 _ _ w1 (N1.out.keep (Keeps.of_below Hb1.out)) (N3.out.keep (Keeps.of_below Hb1.out)) (by omega) (by omega) h0 h2).mono ?_
  rintro e w2 ⟨A, c, D, d, C, q, mm, m, cs, l, rfl, hF⟩
  have F := Lib.hid hF
  obtain ⟨k1, k2, k3, k4⟩ : 1 ≤ q ∧ q ≤ 4 ∧ mm ≤ 2 ∧ m ≤ 40 := ⟨hF.q1, hF.q4, hF.m2, hF.m40⟩
  have hb2 : Below w.heap.size w w2 := Hb1.out.trans (hF.below.mono Hb1.out.size)
  have hb3 : Below w2.heap.size w2 (w2.alloc (.cells #[.slice A q c, .int .i64 mm] 25)) := (Below.refl _ _).alloc (Nat.le_refl _) _
  obtain ⟨s1, s2, s3⟩ := set_bd a4 q k1 k2
  have Hb2 := Lib.hid hb2
  have Hb3 := Lib.hid hb3
  clear hF hb2 hb3 N1 N3
  go_wp2_with fail
  refine (set_any A q c mm a4 _ k1 k2 h4).mono ?_
  rintro e w4 ⟨rfl, rfl⟩
  obtain ⟨sa, hsa⟩ : ∃ sa, sa = a4 % 2 ^ q := ⟨_, rfl⟩
  rw [← hsa] at s1 s2 s3 ⊢
  clear hsa
  have hb4 : Below w2.heap.size w2 ((w2.alloc (.cells #[.slice A q c, .int .i64 mm] 25)).alloc (.cells #[.slice A q c, .int .i64 mm] 25)) := Hb3.out.alloc Hb3.out.size _
  have HB4 := Lib.hid hb4
  clear hb4
  generalize (w2.alloc (.cells #[.slice A q c, .int .i64 mm] 25)).alloc (.cells #[.slice A q c, .int .i64 mm] 25) = w4 at HB4 ⊢
  have hl4 : ∀ r ∈ l, r.key.length = q ∧ r.m.length = mm := F.out.lens
  have HL4 := Lib.hid (fun r hr => (show r.key.length ≤ 4 ∧ r.m.length = mm from ⟨by rw [(hl4 r hr).1]; exact k2, (hl4 r hr).2⟩))
  have hmk := fun W (hW : Below w2.heap.size w2 W) => make_any D m d C sa l W (F.out.rows.below hW (Nat.le_refl _)) F.out.em k4 F.out.small (fun r hr => by have := hl4 r hr; omega) s1 s2
  obtain ⟨L, hL⟩ : ∃ L, L = l.map (ofC sa) := ⟨_, rfl⟩
  have hLm : L.length = m := by rw [hL, List.length_map, F.out.em]
  obtain ⟨dd, hdd⟩ : ∃ dd, dd = dimN sa q := ⟨_, rfl⟩
  have hdd4 : dd ≤ 4 := by rw [hdd]; exact Nat.le_trans (dimN_le sa q) k2
  have hLo : OkL dd mm L := by rw [hL, hdd]; exact ok_cells sa F.out.right hl4 F.out.c16
  rw [← hL] at hmk
  have HMK := Lib.hid hmk
  have HLo := Lib.hid hLo
  have HLm := Lib.hid hLm
  have HLL := Lib.hid hL
  have HFA := Lib.hid (fun (set : Int) (W : World) (hW : Below w2.heap.size w2 W) (e1 : 0 ≤ set) (e2 : set ≤ 15) => rFacts_any D m d C mm set l W (F.out.rows.below hW (Nat.le_refl _)) F.out.em k4 F.out.small HL4.out (by omega) e1 e2)
  have GRP := Lib.hid (fun (P : Option Addr) (c N slots : Nat) (K : List Cel) (W : World) (hK : RowC W P N K) (hN : N = K.length) (hP : P = none → c = 0) (he : OkL dd mm K) (hn : N ≤ 60) (g1 : 1 ≤ slots) (g2 : slots ≤ 10000) => hGroup_any P c N slots dd mm K W hK hN hP he (by omega) (by omega) hn g1 g2)
  have Hb24 := Lib.hid (Hb2.out.trans (HB4.out.mono Hb2.out.size))
  clear hl4 hL hLm hdd hLo hmk
  go_wp2_with fail
  refine (HMK.out w4 HB4.out).mono ?_
  rintro e w5 ⟨lv, us, rfl, hg, hb5⟩
  obtain ⟨Pl, cl, fl, -, -, -, hPl⟩ := hg.form
  have hul := hg.len
  rw [HLm.out] at hul
  rw [hul] at fl
  subst fl
  have RL := Lib.hid hg.rowC.1
  have HPL := Lib.hid hPl
  have HGL := Lib.hid hg
  have HB5 := Lib.hid (HB4.out.trans (hb5.mono HB4.out.size))
  have Hb5 := Lib.hid (Hb24.out.trans (hb5.mono Hb24.out.size))
  have Hb45 := Lib.hid hb5
  clear hul hg hb5 hPl
  have hul : us.length = m := by rw [HGL.out.len, HLm.out]
  go_wp2_with fail
  refine (hNew_tb 50 w5 (by omega) (by omega)).mono ?_
  rintro e w6 ⟨T, g, rfl, hT6, hb6⟩
  go_wp2_with fail
  refine (hNew_tb 50 w6 (by omega) (by omega)).mono ?_
  rintro e w7 ⟨To, go, rfl, hO7, hb7⟩
  go_wp2_with fail
  refine (rtNew_any 50 w7 (by omega) (by omega)).mono ?_
  rintro e w8 ⟨T2, gC, gI, rfl, hR8, hb8⟩
  have hb68 : Below w6.heap.size w6 w8 := hb7.trans (hb8.mono hb7.size)
  have HT8 := Lib.hid (hT6.below hb68)
  have HO8 := Lib.hid (hO7.below hb8)
  have HR8 := Lib.hid hR8
  have Hb8 := Lib.hid (hb6.trans (hb68.mono hb6.size))
  have hz56 := hb6.size
  have hz67 := hb7.size
  have hz78 := hb8.size
  have l1 : w5.heap.size ≤ T ∧ w5.heap.size ≤ g ∧ T < w6.heap.size ∧ g < w6.heap.size := ⟨hT6.hT, hT6.hg, hT6.bx.lt, hT6.tab.blk.lt⟩
  have l2 : w6.heap.size ≤ To ∧ w6.heap.size ≤ go ∧ To < w7.heap.size ∧ go < w7.heap.size := ⟨hO7.hT, hO7.hg, hO7.bx.lt, hO7.tab.blk.lt⟩
  have l3 : w7.heap.size ≤ T2 ∧ w7.heap.size ≤ gC ∧ w7.heap.size ≤ gI := ⟨hR8.hT, hR8.hC, hR8.hI⟩
  have HM1 := Lib.hid (show ∀ q, (q = g ∨ q = T) → q < w6.heap.size from fun q hq => by rcases hq with h | h <;> omega)
  have HM3 := Lib.hid (show ∀ q, (q = g ∨ q = T) → w5.heap.size ≤ q from fun q hq => by rcases hq with h | h <;> omega)
  have HM2 := Lib.hid (show ∀ q, (q = gC ∨ q = gI ∨ q = T2) → q ≠ T ∧ q ≠ g ∧ q ≠ To ∧ q ≠ go from fun q hq => by rcases hq with h | h | h <;> omega)
  have HM4 := Lib.hid (show ∀ q, (q = gC ∨ q = gI ∨ q = T2) → w5.heap.size ≤ q from fun q hq => by rcases hq with h | h | h <;> omega)
  clear hT6 hb6 hO7 hb7 hR8 hb8 hb68 l1 l2 l3
  go_upto_block 0 with (fail)
  go_cut [] (fun wx => Own3 w5.heap.size w6.heap.size w7.heap.size 50 T g To go T2 gC gI (foldT 50 L) wx ∧ Below w5.heap.size w5 wx)
  case first =>
    go_wp2_with fail
    go_loopw [20] (fun i wr => ∃ (j : Nat) (vs vs2 : List (Option V5)) (d me : Int), i = .int .i64 j ∧ j ≤ m ∧ Tb w5.heap.size wr T g d me vs (foldT 50 (L.take j)) ∧ Tb w6.heap.size wr To go 0 0 (List.replicate 50 none) (List.replicate 50 none) ∧ RT w7.heap.size wr T2 gC gI vs2 (foldT 50 (L.take j)) ∧ ((cellsT (foldT 50 (L.take j))).length = 0 ∨ d = dd ∧ me = mm) ∧ Below w5.heap.size w5 wr ∧ w8.heap.size ≤ wr.heap.size) (fun i _ => m - (intOf i).toNat)
    case atStart => exact ⟨0, _, _, _, _, rfl, Nat.zero_le _, HT8.out, HO8.out, HR8.out, .inl (by rw [List.take_zero]; unfold foldT; rw [List.foldl_nil, cells_new]; rfl), Hb8.out, Nat.le_refl _⟩
    case round =>
      obtain ⟨j, vs, vs2, d, me, rfl, hj, hT, hO, hR, hd, hb, hz⟩ := hrel
      rename World => wr
      by_cases hlt : j < m
      · have i0 : (0 : Int) ≤ (j : Int) := by omega
        have i1 : (j : Int) < (m : Int) := by omega
        have d1 : decide ((j : Int) < (m : Int)) = true := decide_eq_true i1
        obtain ⟨x, hx⟩ : ∃ x, L[j]? = some x := ⟨_, List.getElem?_eq_getElem (by rw [HLm.out]; exact hlt)⟩
        obtain ⟨hxk, hok, hxe⟩ := HLo.out x (List.mem_of_getElem? hx)
        have hS : StR 50 dd mm (foldT 50 (L.take j)) := StR.foldk HLo.out
        have hnx := foldT_snoc (N := 50) hx
        obtain ⟨x1, x2, x3⟩ := id hxe
        obtain ⟨ad, rfl, hcr⟩ := RL.out (by omega)
        obtain ⟨vk, vs5, vn, vm, p0, p1, p2, p3, p4, hcc, hxi⟩ := hcr j x hx
        obtain ⟨ts, hts⟩ : ∃ ts, ts = foldT 50 (L.take j) := ⟨_, rfl⟩
        rw [← hts] at hT hR hd hS hnx
        have hP1 := hPut_st w5.heap.size T g 50 dd mm d me vs ts vk vs5 vn vm x wr hT hS (by omega) (by omega) hd (hcc.keep (Keeps.of_below hb)) hxi ⟨hxk, hok, hxe⟩ hdd4 k3
        have hP2 := fun W h1 (h2 : Below w5.heap.size w5 W) h3 => rtPut_st w7.heap.size T2 gC gI 50 dd mm vs2 ts vk vs5 vn vm x W h1 hS (by omega) (by omega) (hcc.keep (Keeps.of_below h2)) hxi ⟨hxk, hok, hxe⟩ hdd4 k3 h3
        rw [← hnx] at hP1 hP2
        obtain ⟨pb, hpb⟩ : ∃ z, z = (putT ts x).isSome := ⟨_, rfl⟩
        rw [← hpb] at hP1 hP2
        obtain ⟨⟨P1, q1, rfl, -⟩, ⟨P2, q2, rfl, -⟩, ⟨P3, q3, rfl, -⟩, ⟨P4, q4, rfl, -⟩⟩ := hcc
        rw [hxk] at p0 hP1 hP2
        rw [x1] at p2 hP1 hP2
        rw [x2] at p3 hP1 hP2
        rw [x3] at p4 hP1 hP2
        obtain ⟨xc, exc⟩ : ∃ z, z = x.cnt := ⟨_, rfl⟩
        rw [← exc] at p1 hP1 hP2
        have HPC := Lib.hid (fun (W : World) (h : Below w5.heap.size w5 W) => (show W.cell? (ad.add (j * 5)) = some (.slice P1 dd q1) ∧ W.cell? ⟨(ad.add (j * 5)).block, (ad.add (j * 5)).off + 1, none⟩ = some (.int .i64 xc) ∧ W.cell? ⟨(ad.add (j * 5)).block, (ad.add (j * 5)).off + 2, none⟩ = some (.slice P2 mm q2) ∧ W.cell? ⟨(ad.add (j * 5)).block, (ad.add (j * 5)).off + 3, none⟩ = some (.slice P3 mm q3) ∧ W.cell? ⟨(ad.add (j * 5)).block, (ad.add (j * 5)).off + 4, none⟩ = some (.slice P4 mm q4) from ⟨(Keeps.of_below h) _ _ p0, (Keeps.of_below h) _ _ p1, (Keeps.of_below h) _ _ p2, (Keeps.of_below h) _ _ p3, (Keeps.of_below h) _ _ p4⟩))
        have HP1 := Lib.hid hP1
        have HP2 := Lib.hid hP2
        have HRr := Lib.hid hR
        have HOr := Lib.hid hO
        have HTy := Lib.hid (fun q hq => hT.ty q hq)
        have Hb := Lib.hid hb
        obtain ⟨f0, f1, f2, f3, f4⟩ := HPC.out _ hb
        clear hx hxk hok hxe x1 x2 x3 hcr p0 p1 p2 p3 p4 hxi hP1 hP2 exc hT hR hO hS hd hb hts hpb hnx
        go_wp2_with fail
        refine HP1.out.mono ?_
        rintro e w9 ⟨rfl, ⟨d', me', vs', hT9, hd9⟩, ht9⟩
        have HT9 := Lib.hid hT9
        have HD9 := Lib.hid hd9
        have HO9 := Lib.hid (HOr.out.tchF ht9 HM1.out)
        have HR9 := Lib.hid (HRr.out.tchF ht9 fun q hq => Nat.lt_of_lt_of_le (HM1.out q hq) hz67)
        have Hb9 := Lib.hid (Hb.out.trans (ht9.below HM3.out Hb.out.size))
        have hz9 := ht9.size
        clear hT9 hd9 ht9 f0 f1 f2 f3 f4 HRr HOr HTy HP1
        obtain ⟨f0, f1, f2, f3, f4⟩ := HPC.out _ Hb9.out
        go_wp2_with fail
        refine (HP2.out _ HR9.out Hb9.out (by omega)).mono ?_
        rintro e wA ⟨rfl, ⟨vs2', hRA⟩, htA⟩
        have HRA := Lib.hid hRA
        have HTA := Lib.hid (HT9.out.tchT htA fun q hq => ⟨(HM2.out q hq).1, (HM2.out q hq).2.1, HR9.out.ty q hq⟩)
        have HOA := Lib.hid (HO9.out.tchT htA fun q hq => ⟨(HM2.out q hq).2.2.1, (HM2.out q hq).2.2.2, HR9.out.ty q hq⟩)
        have HbA := Lib.hid (Hb9.out.trans (htA.below HM4.out Hb9.out.size))
        have hzA := htA.size
        clear hRA htA f0 f1 f2 f3 f4
        go_wp2
        go_roundw
        case rel => exact ⟨j + 1, _, _, _, _, by go_num, by omega, HTA.out, HOA.out, HRA.out, HD9.out, HbA.out, by omega⟩
        case measure => simp [intOf]; omega
      · obtain rfl : j = m := by omega
        have d1 : decide ((j : Int) < (j : Int)) = false := by simp
        have ht : L.take j = L := List.take_of_length_le (by rw [HLm.out]; exact Nat.le_refl _)
        rw [ht] at hT hR
        have HF := Lib.hid (show Own3 w5.heap.size w6.heap.size w7.heap.size 50 T g To go T2 gC gI (foldT 50 L) wr ∧ Below w5.heap.size w5 wr from ⟨⟨d, me, vs, vs2, hT, hO, hR⟩, hb⟩)
        clear hT hO hR hd hb ht
        go_wp2
        go_meet
        exact HF.out
  case rest =>
    obtain ⟨hO3, hb9⟩ := hcut
    rename World => w9
    have HS : Hid (StR 50 dd mm (foldT 50 L)) := Lib.hid (StR.fold HLo.out)
    obtain ⟨TS, hTS⟩ : ∃ ts, ts = foldT 50 L := ⟨_, rfl⟩
    rw [← hTS] at hO3 HS
    have HTS := Lib.hid hTS
    have HO3 := Lib.hid hO3
    have Hb9 := Lib.hid hb9
    have HGE := Lib.hid (HGL.out.e.below hb9)
    have hw45 := HB5.out.size
    have HM5 := Lib.hid (show ∀ k, (w4.heap.size ≤ k ∧ k < w5.heap.size) → k < w5.heap.size from fun k hk => hk.2)
    have hw459 : w4.heap.size ≤ w9.heap.size := Nat.le_trans Hb45.out.size hb9.size
    clear hO3 hb9 hTS HT8 HO8 HR8 Hb8 hw45
    go_upto_block 2 with (fail)
    go_cut [] (fun wx => Tch (fun k => w4.heap.size ≤ k ∧ k < w5.heap.size) w9 wx)
    case first =>
      go_wp2_with fail
      go_loopw [21] (fun i wr => ∃ (j : Nat), i = .int .i64 j ∧ j ≤ m ∧ GRe w4.heap.size wr (.slice Pl m cl) us ∧ Tch (fun k => w4.heap.size ≤ k ∧ k < w5.heap.size) w9 wr) (fun i _ => m - (intOf i).toNat)
      case atStart => exact ⟨0, rfl, Nat.zero_le _, HGE.out, Tch.refl _ _⟩
      case round =>
        obtain ⟨i, rfl, hi, hge, hto⟩ := hrel
        rename World => wr
        by_cases hlt : i < m
        · have i0 : (0 : Int) ≤ (i : Int) := by omega
          have i1 : (i : Int) < (m : Int) := by omega
          have d1 : decide ((i : Int) < (m : Int)) = true := decide_eq_true i1
          obtain ⟨g', rfl, -, -, -⟩ := hge.cells.2 (by omega)
          obtain ⟨u, hu⟩ : ∃ u, us[i]? = some u := ⟨_, List.getElem?_eq_getElem (by rw [hul]; exact hlt)⟩
          obtain ⟨x, hx⟩ : ∃ x, L[i]? = some x := ⟨_, List.getElem?_eq_getElem (by rw [HLm.out]; exact hlt)⟩
          have hux := HGL.out.2.2 i u x hu hx
          obtain ⟨Ak, ck, ek, -⟩ := hux.2.1.key.form
          obtain ⟨As, cs', es, -⟩ := hux.2.1.sum.form
          have bdk : ∀ b, (Value.slice Ak x.key.length ck).ownBlock = some b → w4.heap.size ≤ b ∧ b < w5.heap.size := fun b hb => (ek ▸ hux.2.1.key).1.lt b hb
          have bds : ∀ b, (Value.slice As x.sum.length cs').ownBlock = some b → w4.heap.size ≤ b ∧ b < w5.heap.size := fun b hb => (es ▸ hux.2.1.sum).1.lt b hb
          generalize x.key.length = lk at *
          generalize x.sum.length = ls at *
          obtain ⟨ua, ub, uc, ud, ue⟩ := u
          dsimp only at ek es
          subst ek es
          have HU := Lib.hid hu
          have BDK := Lib.hid bdk
          have BDS := Lib.hid bds
          have HG2 := Lib.hid hge
          have HTO := Lib.hid hto
          clear hu hx hux bdk bds hge hto
          go_upto_block 4 with (fail)
          go_cut [] (fun wx => GRe w4.heap.size wx (.slice (some ⟨g', 0, none⟩) m cl) us ∧ Tch (fun k => w4.heap.size ≤ k ∧ k < w5.heap.size) w9 wx)
          case first =>
            go_wp2_with fail
            go_loopw [22] (fun s wx => ∃ k : Nat, s = .int .i64 k ∧ k ≤ ls ∧ GRe w4.heap.size wx (.slice (some ⟨g', 0, none⟩) m cl) us ∧ Tch (fun k => w4.heap.size ≤ k ∧ k < w5.heap.size) w9 wx) (fun s _ => ls - (intOf s).toNat)
            case atStart => exact ⟨0, rfl, Nat.zero_le _, And.intro HG2.out HTO.out⟩
            case round =>
              rename World => wk
              obtain ⟨k, rfl, hk, hge, hb⟩ := hrel
              obtain ⟨hNe, hcl⟩ := hge.cells
              obtain ⟨g'', eg, -, -, hcl⟩ := hcl (by omega)
              injection eg with eg
              injection eg with eg
              subst eg
              have p2 := hcl _ _ (flatV_five HU.out).2.2.1
              by_cases hlt2 : k < ls
              · have d2 : decide ((k : Int) < (ls : Int)) = true := decide_eq_true (by omega)
                obtain ⟨x, hx⟩ := hge.2 _ (List.mem_of_getElem? HU.out)
                have ho := hx.2.1.sum
                dsimp only at ho
                have hxl : x.sum.length = ls := by
                  obtain ⟨P', c', e, -⟩ := ho.form
                  injection e with _ e2 _
                  exact e2.symm
                have hlm : ls ≤ 9223372036854775807 := by
                  obtain ⟨-, cc, -, h1, h2, -⟩ := ho.form
                  simp only [maxLen] at h2
                  omega
                obtain ⟨P', c', e, hof⟩ := own_form ho.1
                injection e with e1 _ e3
                subst e1 e3
                obtain ⟨h, e4, hB4, hc4⟩ := hof.2.2 (by omega)
                subst e4
                obtain ⟨z, hz⟩ : ∃ z, x.sum[k]? = some z := ⟨_, List.getElem?_eq_getElem (by omega)⟩
                have q2 := hc4 k (.int .i64 z) (by simp [ints, hz])
                have qf : wk.frozen? ⟨h, k, none⟩ = false := World.ownsRow.frozenAt (hxl ▸ ho.1) k
                have hw := And.intro (hge.write (g := h) (y := a5) k ho rfl h5) (hb.same (Tch.setCell (BDS.out h rfl) wk k (.int .i64 a5)))
                have HW := Lib.hid hw
                have j0 : (0 : Int) ≤ (k : Int) := by omega
                have j1 : (k : Int) < (ls : Int) := by omega
                clear hge hb hcl ho hx hxl hof hc4 hz hw hNe
                go_wp2
                go_roundw
                case rel => exact ⟨k + 1, by go_num, by omega, HW.out⟩
                case measure => simp [intOf]; omega
              · obtain rfl : k = ls := by omega
                have d2 : decide ((k : Int) < (k : Int)) = false := by simp
                have HF := Lib.hid (And.intro hge hb)
                clear hge hb hcl hNe
                go_wp2
                go_meet
                exact HF.out
          case rest =>
            rename World => wy
            have HY := Lib.hid hcut
            clear hcut
            go_wp2_with fail
            go_loopw [23] (fun s wx => ∃ k : Nat, s = .int .i64 k ∧ k ≤ lk ∧ GRe w4.heap.size wx (.slice (some ⟨g', 0, none⟩) m cl) us ∧ Tch (fun k => w4.heap.size ≤ k ∧ k < w5.heap.size) w9 wx) (fun s _ => lk - (intOf s).toNat)
            case atStart => exact ⟨0, rfl, Nat.zero_le _, HY.out⟩
            case round =>
              rename World => wk
              obtain ⟨k, rfl, hk, hge, hb⟩ := hrel
              obtain ⟨hNe, hcl⟩ := hge.cells
              obtain ⟨g'', eg, -, -, hcl⟩ := hcl (by omega)
              injection eg with eg
              injection eg with eg
              subst eg
              have p2 := hcl _ _ (flatV_five HU.out).1
              by_cases hlt2 : k < lk
              · have d2 : decide ((k : Int) < (lk : Int)) = true := decide_eq_true (by omega)
                obtain ⟨x, hx⟩ := hge.2 _ (List.mem_of_getElem? HU.out)
                have ho := hx.2.1.key
                dsimp only at ho
                have hxl : x.key.length = lk := by
                  obtain ⟨P', c', e, -⟩ := ho.form
                  injection e with _ e2 _
                  exact e2.symm
                have hlm : lk ≤ 9223372036854775807 := by
                  obtain ⟨-, cc, -, h1, h2, -⟩ := ho.form
                  simp only [maxLen] at h2
                  omega
                obtain ⟨P', c', e, hof⟩ := own_form ho.1
                injection e with e1 _ e3
                subst e1 e3
                obtain ⟨h, e4, hB4, hc4⟩ := hof.2.2 (by omega)
                subst e4
                obtain ⟨z, hz⟩ : ∃ z, x.key[k]? = some z := ⟨_, List.getElem?_eq_getElem (by omega)⟩
                have q2 := hc4 k (.int .i64 z) (by simp [ints, hz])
                have qf : wk.frozen? ⟨h, k, none⟩ = false := World.ownsRow.frozenAt (hxl ▸ ho.1) k
                have hw := And.intro (hge.write (g := h) (y := 0) k ho rfl ⟨by decide, by decide⟩) (hb.same (Tch.setCell (BDK.out h rfl) wk k (.int .i64 0)))
                have HW := Lib.hid hw
                have j0 : (0 : Int) ≤ (k : Int) := by omega
                have j1 : (k : Int) < (lk : Int) := by omega
                clear hge hb hcl ho hx hxl hof hc4 hz hw hNe
                go_wp2
                go_roundw
                case rel => exact ⟨k + 1, by go_num, by omega, HW.out⟩
                case measure => simp [intOf]; omega
              · obtain rfl : k = lk := by omega
                have d2 : decide ((k : Int) < (k : Int)) = false := by simp
                have HF := Lib.hid (And.intro hge hb)
                clear hge hb hcl hNe
                go_wp2
                go_roundw
                case rel => exact ⟨i + 1, by go_num, by omega, HF.out⟩
                case measure => simp [intOf]; omega
        · obtain rfl : i = m := by omega
          have d1 : decide ((i : Int) < (i : Int)) = false := by simp
          have Hb := Lib.hid hto
          clear hto hge
          go_wp2
          go_meet
          exact Hb.out
    case rest =>
      rename World => wA
      have hOA : Own3 w5.heap.size w6.heap.size w7.heap.size 50 T g To go T2 gC gI TS wA := HO3.out.tchF hcut HM5.out hz56 hz67
      have h9A : Below w4.heap.size w9 wA := hcut.below (fun k hk => hk.1) hw459
      have HOA := Lib.hid hOA
      have h49 : Below w4.heap.size w4 w9 := Hb45.out.trans (Hb9.out.mono Hb45.out.size)
      have HbA := Lib.hid (HB4.out.trans ((h49.trans h9A).mono HB4.out.size))
      clear h49
      obtain ⟨d, me, vs, vs2, hT, hO, hR⟩ := hOA
      have hC := hCells_any w5.heap.size T g d me vs TS wA hT (by rw [HS.out.len]; omega) (HS.out.few hdd4 k3)
      have HC := Lib.hid hC
      clear hcut h9A hT hO hR hC HO3
      go_wp2_with fail
      refine HC.out.mono ?_
      rintro e wB ⟨cv, uc, rfl, hgc, hbB⟩
      obtain ⟨Pc, cc, fc, -⟩ := hgc.form
      subst fc
      obtain ⟨NC, hNC⟩ : ∃ z, z = uc.length := ⟨_, rfl⟩
      have hNC5 : NC ≤ 50 := by rw [hNC, hgc.len, ← HS.out.len]; exact cells_le TS
      have hge0 := hgc.e
      rw [← hNC] at hge0 ⊢
      have HGC := Lib.hid hge0
      have HBB := Lib.hid hbB
      clear hgc hbB hNC hge0 HC
      go_upto_block 8 with (fail)
      go_cut [] (fun wx => Below wA.heap.size wA wx)
      case first =>
        go_wp2_with fail
        go_loopw [25] (fun s19 wr => ∃ (i : Nat) (ue : List V5), s19 = .int .i64 i ∧ i ≤ NC ∧ GRe wA.heap.size wr (.slice Pc NC cc) ue ∧ Below wA.heap.size wA wr) (fun s19 _ => NC - (intOf s19).toNat)
        case atStart => exact ⟨0, uc, rfl, Nat.zero_le _, HGC.out, HBB.out⟩
        case round =>
          rename World => wr
          obtain ⟨i, ue, rfl, hi, hge, hb⟩ := hrel
          by_cases hlt : i < NC
          · have d1 : decide ((i : Int) < (NC : Int)) = true := decide_eq_true (by omega)
            obtain ⟨hNe, hcl⟩ := hge.cells
            obtain ⟨g', rfl, hgB, hfz, hcl⟩ := hcl (by omega)
            obtain ⟨u, hu⟩ : ∃ u, ue[i]? = some u := ⟨_, List.getElem?_eq_getElem (by omega)⟩
            obtain ⟨x, hx⟩ := hge.2 u (List.mem_of_getElem? hu)
            have hge2 := hge
            rw [hNe] at hge2
            have hge3 := hge2.cnt hu h5
            rw [← hNe] at hge3
            obtain ⟨c0, c1, c2, c3, c4⟩ := flatV_five hu
            have p1 := hcl _ _ c1
            have hf1 := hfz (i * 5 + 1)
            obtain ⟨Ps, ls, cs', f2⟩ : ∃ P n c, u.d = .slice P n c := by obtain ⟨P, c, e, -⟩ := hx.2.1.mn.form; exact ⟨P, _, c, e⟩
            have hue : (ue.set i ⟨u.a, .int .i64 a5, u.c, u.d, u.e⟩)[i]? = some ⟨u.a, .int .i64 a5, u.c, .slice Ps ls cs', u.e⟩ := by
              rw [List.getElem?_set_self (by omega), f2]
            obtain ⟨uf, huf⟩ : ∃ uf, uf = ue.set i ⟨u.a, .int .i64 a5, u.c, u.d, u.e⟩ := ⟨_, rfl⟩
            rw [← huf] at hge3 hue
            have HGE3 := Lib.hid hge3
            have HUE := Lib.hid hue
            have HB3 := Lib.hid (hb.setCell (p := ⟨g', i * 5 + 1, none⟩) hgB (.int .i64 a5))
            have i0 : (0 : Int) ≤ (i : Int) := by omega
            have i1 : (i : Int) < (NC : Int) := by omega
            have HgB := Lib.hid hgB
            clear hge hge2 hge3 hNe hcl hfz hu hx c0 c1 c2 c3 c4 f2 hue huf hb hgB
            go_wp2_with fail
            go_loopw [26] (fun s wx => ∃ k : Nat, s = .int .i64 k ∧ k ≤ ls ∧ GRe wA.heap.size wx (.slice (some ⟨g', 0, none⟩) NC cc) uf ∧ Below wA.heap.size wA wx) (fun s _ => ls - (intOf s).toNat)
            case atStart => exact ⟨0, rfl, Nat.zero_le _, And.intro HGE3.out HB3.out⟩
            case round =>
              rename World => wk
              obtain ⟨k, rfl, hk, hge, hb⟩ := hrel
              obtain ⟨hNe, hcl⟩ := hge.cells
              obtain ⟨g'', eg, -, -, hcl⟩ := hcl (by omega)
              injection eg with eg
              injection eg with eg
              subst eg
              have p2 := hcl _ _ (flatV_five HUE.out).2.2.2.1
              by_cases hlt2 : k < ls
              · have d2 : decide ((k : Int) < (ls : Int)) = true := decide_eq_true (by omega)
                obtain ⟨x, hx⟩ := hge.2 _ (List.mem_of_getElem? HUE.out)
                have ho := hx.2.1.mn
                dsimp only at ho
                have hxl : x.mn.length = ls := by
                  obtain ⟨P', c', e, -⟩ := ho.form
                  injection e with _ e2 _
                  exact e2.symm
                have hlm : ls ≤ 9223372036854775807 := by
                  obtain ⟨-, cc, -, h1, h2, -⟩ := ho.form
                  simp only [maxLen] at h2
                  omega
                obtain ⟨P', c', e, hof⟩ := own_form ho.1
                injection e with e1 _ e3
                subst e1 e3
                obtain ⟨h, e4, hB4, hc4⟩ := hof.2.2 (by omega)
                subst e4
                obtain ⟨z, hz⟩ : ∃ z, x.mn[k]? = some z := ⟨_, List.getElem?_eq_getElem (by omega)⟩
                have q2 := hc4 k (.int .i64 z) (by simp [ints, hz])
                have qf : wk.frozen? ⟨h, k, none⟩ = false := World.ownsRow.frozenAt (hxl ▸ ho.1) k
                have hw := And.intro (hge.write (g := h) (y := a5) k ho rfl h5) (hb.setCell (p := ⟨h, k, none⟩) hB4 (.int .i64 a5))
                have HW := Lib.hid hw
                have j0 : (0 : Int) ≤ (k : Int) := by omega
                have j1 : (k : Int) < (ls : Int) := by omega
                clear hge hb hcl ho hx hxl hof hc4 hz hw hNe
                go_wp2
                go_roundw
                case rel => exact ⟨k + 1, by go_num, by omega, HW.out⟩
                case measure => simp [intOf]; omega
              · obtain rfl : k = ls := by omega
                have d2 : decide ((k : Int) < (k : Int)) = false := by simp
                have HF := Lib.hid (And.intro hge hb)
                clear hge hb hcl hNe
                go_wp2
                go_roundw
                case rel => exact ⟨i + 1, uf, by go_num, by omega, HF.out⟩
                case measure => simp [intOf]; omega
          · obtain rfl : i = NC := by omega
            have d1 : decide ((i : Int) < (i : Int)) = false := by simp
            have Hb := Lib.hid hb
            clear hb hge
            go_wp2
            go_meet
            exact Hb.out
      case rest =>
        rename World => wC
        have HOC := Lib.hid (HOA.out.below hcut)
        have HbC := Lib.hid (HbA.out.trans (hcut.mono HbA.out.size))
        clear hcut HOA HBB HGC
        go_wp2_with fail
        refine (rtNew_any 50 wC (by omega) (by omega)).mono ?_
        rintro e wD ⟨Ty, yC, yI, rfl, hRD, hbD⟩
        have hCD := hbD
        have HbD := Lib.hid (HbC.out.trans (hbD.mono HbC.out.size))
        have HRD := Lib.hid hRD
        clear hRD hbD
        go_wp2_with fail
        refine (HMK.out wD HbD.out).mono ?_
        rintro e wE ⟨mv, um, rfl, hgm, hbE⟩
        obtain ⟨Pm, cm, fm, -, -, -, hPm⟩ := hgm.form
        have huml := hgm.len
        rw [HLm.out] at huml
        rw [huml] at fm
        subst fm
        have RM := Lib.hid hgm.rowC.1
        have HCE := Lib.hid (hCD.trans (hbE.mono hCD.size))
        have HRE := Lib.hid (HRD.out.below hbE)
        have hzD : wC.heap.size ≤ wE.heap.size := HCE.out.size
        have HMy := Lib.hid (show ∀ q, (q = yC ∨ q = yI ∨ q = Ty) → wC.heap.size ≤ q from fun q hq => by
          have := HRD.out.hT; have := HRD.out.hC; have := HRD.out.hI
          rcases hq with h | h | h <;> omega)
        have HMe := Lib.hid (show ∀ q, (q = yC ∨ q = yI ∨ q = Ty) → q < wD.heap.size from fun q hq => by
          have := HRD.out.bx.lt; have := HRD.out.cs.lt; have := HRD.out.is.lt
          rcases hq with h | h | h <;> omega)
        have HGM := Lib.hid hgm
        clear hgm hbE huml hPm HRD hCD
        go_upto_block 12 with (fail)
        go_cut [] (fun wx => Own3 w5.heap.size w6.heap.size w7.heap.size 50 T g To go T2 gC gI TS wx ∧ (∃ vs, RT wC.heap.size wx Ty yC yI vs TS) ∧ Below w2.heap.size w2 wx)
        case first =>
          go_wp2_with fail
          go_loopw [29] (fun i wr => ∃ (j : Nat) (vs : List (Option V5)), i = .int .i64 j ∧ j ≤ m ∧ RT wC.heap.size wr Ty yC yI vs (foldT 50 (L.take j)) ∧ Below wC.heap.size wE wr ∧ Tch (fun q => q = yC ∨ q = yI ∨ q = Ty) wE wr) (fun i _ => m - (intOf i).toNat)
          case atStart => exact ⟨0, _, rfl, Nat.zero_le _, HRE.out, Below.refl _ _, Tch.refl _ _⟩
          case round =>
            obtain ⟨j, vs, rfl, hj, hR, hb, hto⟩ := hrel
            rename World => wr
            by_cases hlt : j < m
            · have i0 : (0 : Int) ≤ (j : Int) := by omega
              have i1 : (j : Int) < (m : Int) := by omega
              have d1 : decide ((j : Int) < (m : Int)) = true := decide_eq_true i1
              obtain ⟨x, hx⟩ : ∃ x, L[j]? = some x := ⟨_, List.getElem?_eq_getElem (by rw [HLm.out]; exact hlt)⟩
              obtain ⟨hxk, hok, hxe⟩ := HLo.out x (List.mem_of_getElem? hx)
              have hS : StR 50 dd mm (foldT 50 (L.take j)) := StR.foldk HLo.out
              have hnx := foldT_snoc (N := 50) hx
              have hgr := HGM.out.tchF hto HMe.out
              obtain ⟨x1, x2, x3⟩ := id hxe
              obtain ⟨ad, rfl, hcr⟩ := hgr.rowC.1 (by omega)
              obtain ⟨vk, vs5, vn, vm, p0, p1, p2, p3, p4, hcc, hxi⟩ := hcr j x hx
              obtain ⟨ts, hts⟩ : ∃ ts, ts = foldT 50 (L.take j) := ⟨_, rfl⟩
              rw [← hts] at hR hS hnx
              have hP2 := rtPut_st wC.heap.size Ty yC yI 50 dd mm vs ts vk vs5 vn vm x wr hR hS (by omega) (by omega) hcc hxi ⟨hxk, hok, hxe⟩ hdd4 k3 (Nat.le_trans hzD hb.size)
              rw [← hnx] at hP2
              obtain ⟨pb, hpb⟩ : ∃ z, z = (putT ts x).isSome := ⟨_, rfl⟩
              rw [← hpb] at hP2
              obtain ⟨⟨P1, q1, rfl, -⟩, ⟨P2, q2, rfl, -⟩, ⟨P3, q3, rfl, -⟩, ⟨P4, q4, rfl, -⟩⟩ := hcc
              rw [hxk] at p0 hP2
              rw [x1] at p2 hP2
              rw [x2] at p3 hP2
              rw [x3] at p4 hP2
              obtain ⟨xc, exc⟩ : ∃ z, z = x.cnt := ⟨_, rfl⟩
              rw [← exc] at p1 hP2
              have HP2 := Lib.hid hP2
              have Hb := Lib.hid hb
              have HTO := Lib.hid hto
              clear hx hxk hok hxe x1 x2 x3 hcr hxi hP2 exc hR hS hb hts hpb hnx hto hgr
              go_wp2_with fail
              refine HP2.out.mono ?_
              rintro e wF ⟨rfl, ⟨vs2', hRF⟩, htF⟩
              have HRF := Lib.hid hRF
              have HbF := Lib.hid (Hb.out.trans (htF.below HMy.out (Nat.le_trans hzD Hb.out.size)))
              have HTF := Lib.hid (HTO.out.same htF)
              clear hRF htF p0 p1 p2 p3 p4 HP2
              go_wp2
              go_roundw
              case rel => exact ⟨j + 1, _, by go_num, by omega, HRF.out, HbF.out, HTF.out⟩
              case measure => simp [intOf]; omega
            · obtain rfl : j = m := by omega
              have d1 : decide ((j : Int) < (j : Int)) = false := by simp
              have ht : L.take j = L := List.take_of_length_le (by rw [HLm.out]; exact Nat.le_refl _)
              rw [ht, ← HTS.out] at hR
              have HF := Lib.hid (show Own3 w5.heap.size w6.heap.size w7.heap.size 50 T g To go T2 gC gI TS wr ∧ (∃ vs, RT wC.heap.size wr Ty yC yI vs TS) ∧ Below w2.heap.size w2 wr from ⟨HOC.out.below (HCE.out.trans hb), ⟨vs, hR⟩, HbC.out.trans ((HCE.out.trans hb).mono HbC.out.size)⟩)
              clear hR hb ht hto
              go_wp2
              go_meet
              exact HF.out
        case rest =>
          rename World => wG
          obtain ⟨⟨d, me, vs, vs2, hT, hO, hR⟩, ⟨vsy, hY⟩, hbG⟩ := hcut
          have hNl := HS.out.len
          have hC1 := fun W (h1 : Below wG.heap.size wG W) => hCells_any w5.heap.size T g d me vs TS W (hT.below h1) (by rw [hNl]; omega) (HS.out.few hdd4 k3)
          have hC2 := fun W (h1 : Below wG.heap.size wG W) => rtCells_any wC.heap.size Ty yC yI vsy TS W (hY.below h1) (by rw [hNl]; omega) (fun i z hz => by have := HS.out.at_ hdd4 k3 i z hz; exact ⟨this.1, this.2.2⟩)
          have hL0 := fun W (h1 : Below wG.heap.size wG W) => hLen_any w6.heap.size To go 0 0 _ _ W (hO.below h1)
          rw [cells_new] at hL0
          have hL1 := fun W (h1 : Below wG.heap.size wG W) => hLen_any w5.heap.size T g d me vs TS W (hT.below h1)
          have hL2 := fun W (h1 : Below wG.heap.size wG W) => rtLen_any w7.heap.size T2 gC gI vs2 TS W (hR.below h1)
          have HFW := Lib.hid (HS.out.few hdd4 k3)
          obtain ⟨CL, hCL⟩ : ∃ z, z = cellsT TS := ⟨_, rfl⟩
          have hCLn : CL.length ≤ 50 := by rw [hCL, ← hNl]; exact cells_le TS
          rw [← hCL] at hC1 hC2 hL1 hL2 HFW
          obtain ⟨cn, hcn⟩ : ∃ z, z = CL.length := ⟨_, rfl⟩
          rw [← hcn] at hL1 hL2
          have HCLn := Lib.hid hCLn
          have HC1 := Lib.hid hC1
          have HC2 := Lib.hid hC2
          have HL0 := Lib.hid hL0
          have HL1 := Lib.hid hL1
          have HL2 := Lib.hid hL2
          have HbG := Lib.hid hbG
          have hcc : ((cn : Int) == (cn : Int)) = true := by simp
          clear hT hO hR hY hC1 hC2 hL0 hL1 hL2 hCL hCLn hcn hbG hNl
          go_wp2_with fail
          refine (HC1.out _ (Below.refl _ _)).mono ?_
          rintro e wH ⟨v1, us1, rfl, hg1, hbH⟩
          obtain ⟨A1, c1, fl1, -⟩ := hg1.form
          subst fl1
          have HR1 := Lib.hid hg1.rowC
          have HbH := Lib.hid hbH
          clear hg1 hbH HC1
          go_wp2_with fail
          refine (HC2.out _ HbH.out).mono ?_
          rintro e wI ⟨v2, us2, rfl, hg2, hbI⟩
          obtain ⟨A2, c2, fl2, -⟩ := hg2.form
          subst fl2
          have hr2 := hg2.rowC
          have hn12 : us2.length = us1.length := by rw [hr2.2, HR1.out.2]
          rw [hn12] at hr2 ⊢
          have hS2 := same_yes A1 A2 us1.length c1 c2 CL wI (HR1.out.1.keep (Keeps.of_below hbI)) hr2.1 HR1.out.2 HFW.out (by rw [HR1.out.2]; have := HCLn.out; omega)
          have HS2 := Lib.hid hS2
          have HbI := Lib.hid (HbH.out.trans (hbI.mono HbH.out.size))
          clear hg2 hbI hr2 hn12 hS2 HR1 HC2
          go_wp2_with fail
          refine HS2.out.mono ?_
          rintro e wJ ⟨rfl, hbJ⟩
          have HbJ := Lib.hid (HbI.out.trans (hbJ.mono HbI.out.size))
          clear hbJ HS2
          go_wp2_with fail
          refine (HL0.out _ HbJ.out).mono ?_
          rintro e w' ⟨rfl, hw'⟩
          rw [← hw']
          clear hw'
          clear w'
          go_wp2_with fail
          refine (HL2.out _ HbJ.out).mono ?_
          rintro e w' ⟨rfl, hw'⟩
          rw [← hw']
          clear hw'
          clear w'
          go_wp2_with fail
          refine (HL1.out _ HbJ.out).mono ?_
          rintro e w' ⟨rfl, hw'⟩
          rw [← hw']
          clear hw'
          clear w'
          go_wp2
          go_ret
          exact ⟨rfl, Hb2.out.trans ((HbG.out.trans (HbJ.out.mono HbG.out.size)).mono Hb2.out.size)⟩
end Go.Proofs.Ytioddfodajinlaa
