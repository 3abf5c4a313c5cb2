/- The law HashPlays. -/
import Derived.IntWalk
import Derived.Test.YtioddfodajinlaaHsho
import Derived.Test.YtioddfodajinlaaMake
import Derived.Test.YtioddfodajinlaaSet
import Derived.Test.YtioddfodajinlaaIsRow
import Derived.Test.YtioddfodajinlaaHsht
import Derived.Test.YtioddfodajinlaaHshr5
import Derived.Test.YtioddfodajinlaaHshr4
import Derived.Test.YtioddfodajinlaaHshr2
import Derived.Test.YtioddfodajinlaaRfacts
import Derived.Test.YtioddfodajinlaaCelg
namespace Go.Proofs.Ytioddfodajinlaa
open Go.RowKit
attribute [local go_sem] Oper.semAt_some
set_option maxRecDepth 100000 in
set_option maxHeartbeats 8000000 in
theorem hashPlays_walk (a0 : Int) (a1 : Option Addr) (len1 cap1 : Nat) (z1 : List Int) (a2 : Int) (a3 : Option Addr) (len3 cap3 : Nat) (z3 : List Int) (a4 : Int) (a5 : Int) (a6 : Option Addr) (len6 cap6 : Nat) (z6 : List Int) (w : World) (h0 : inK .i64 a0) (w1 : IsRow .i64 w a1 len1 cap1 z1) (h2 : inK .i64 a2) (w3 : IsRow .i64 w a3 len3 cap3 z3) (h4 : inK .i64 a4) (h5 : inK .i64 a5) (w6 : IsRow .i64 w a6 len6 cap6 z6) :
    Calls Try.prog 3 #[.int .i64 a0, .slice a1 len1 cap1, .int .i64 a2, .slice a3 len3 cap3, .int .i64 a4, .int .i64 a5, .slice a6 len6 cap6] w fun e w' => e = .returned (.bool true) ∧ Below w.heap.size w w' := by
  obtain ⟨n1, lc1, cm1⟩ := w1.nums
  obtain ⟨n3, lc3, cm3⟩ := w3.nums
  obtain ⟨n6, lc6, cm6⟩ := w6.nums
  have r6 := isrow_ri w6
  generalize z6.take len6 = raw at n6 r6
  have R6 := Lib.hid r6
  have hrl : raw.length = len6 := n6.1
  clear w6 n6 r6
  have N1 := Lib.hid n1
  have N3 := Lib.hid n3
  have HKn := Lib.hid (hknown_any w)
  clear w1 w3 n1 n3
  go_enter Try.func3, Try.ntmps3
  go_wp2_with fail
  refine HKn.out.mono ?_
  rintro e w1 ⟨rfl, hb1⟩
  have Hb1 := Lib.hid hb1
  clear hb1 HKn
  by_cases h20 : 20 < len6
  · have d20 : decide ((20 : Int) < (len6 : Int)) = true := decide_eq_true (by omega)
    go_wp2
    go_ret
    exact ⟨rfl, Hb1.out⟩
  have d20 : decide ((20 : Int) < (len6 : Int)) = false := decide_eq_false (by omega)
  have d21 : decide (20 < len6) = false := decide_eq_false h20
  go_wp2_with fail
  refine (Facts_res a0 a2 a1 a3 len1 cap1 len3 cap3 _ _ w1 (N1.out.keep (Keeps.of_below Hb1.out)) (N3.out.keep (Keeps.of_below Hb1.out)) (by omega) (by omega) h0 h2).mono ?_
  rintro e w2 ⟨A, c, D, d, C, q, mm, m, cs, l, rfl, hF⟩
  have F := Lib.hid hF
  obtain ⟨k1, k2, k3, k4⟩ : 1 ≤ q ∧ q ≤ 4 ∧ mm ≤ 2 ∧ m ≤ 40 := ⟨hF.q1, hF.q4, hF.m2, hF.m40⟩
  have hb2 : Below w.heap.size w w2 := Hb1.out.trans (hF.below.mono Hb1.out.size)
  have hb3 : Below w2.heap.size w2 (w2.alloc (.cells #[.slice A q c, .int .i64 mm] 25)) := (Below.refl _ _).alloc (Nat.le_refl _) _
  obtain ⟨s1, s2, s3⟩ := set_bd a4 q k1 k2
  have Hb2 := Lib.hid hb2
  have Hb3 := Lib.hid hb3
  clear hF hb2 hb3 N1 N3
  go_wp2_with fail
  refine (set_any A q c mm a4 _ k1 k2 h4).mono ?_
  rintro e w4 ⟨rfl, rfl⟩
  obtain ⟨sa, hsa⟩ : ∃ sa, sa = a4 % 2 ^ q := ⟨_, rfl⟩
  rw [← hsa] at s1 s2 s3 ⊢
  clear hsa
  have hb4 : Below w2.heap.size w2 ((w2.alloc (.cells #[.slice A q c, .int .i64 mm] 25)).alloc (.cells #[.slice A q c, .int .i64 mm] 25)) := Hb3.out.alloc Hb3.out.size _
  have HB4 := Lib.hid hb4
  clear hb4
  generalize (w2.alloc (.cells #[.slice A q c, .int .i64 mm] 25)).alloc (.cells #[.slice A q c, .int .i64 mm] 25) = w4 at HB4 ⊢
  have hl4 : ∀ r ∈ l, r.key.length = q ∧ r.m.length = mm := F.out.lens
  have HL4 := Lib.hid (fun r hr => (show r.key.length ≤ 4 ∧ r.m.length = mm from ⟨by rw [(hl4 r hr).1]; exact k2, (hl4 r hr).2⟩))
  have hmk := fun W (hW : Below w2.heap.size w2 W) => make_any D m d C sa l W (F.out.rows.below hW (Nat.le_refl _)) F.out.em k4 F.out.small (fun r hr => by have := hl4 r hr; omega) s1 s2
  obtain ⟨L, hL⟩ : ∃ L, L = l.map (ofC sa) := ⟨_, rfl⟩
  have hLm : L.length = m := by rw [hL, List.length_map, F.out.em]
  obtain ⟨dd, hdd⟩ : ∃ dd, dd = dimN sa q := ⟨_, rfl⟩
  have hdd4 : dd ≤ 4 := by rw [hdd]; exact Nat.le_trans (dimN_le sa q) k2
  have hLo : OkL dd mm L := by rw [hL, hdd]; exact ok_cells sa F.out.right hl4 F.out.c16
  rw [← hL] at hmk
  have HMK := Lib.hid hmk
  have HLo := Lib.hid hLo
  have HLm := Lib.hid hLm
  have HLL := Lib.hid hL
  have HFA := Lib.hid (fun (set : Int) (W : World) (hW : Below w2.heap.size w2 W) (e1 : 0 ≤ set) (e2 : set ≤ 15) => rFacts_any D m d C mm set l W (F.out.rows.below hW (Nat.le_refl _)) F.out.em k4 F.out.small HL4.out (by omega) e1 e2)
  have GRP := Lib.hid (fun (P : Option Addr) (c N slots : Nat) (K : List Cel) (W : World) (hK : RowC W P N K) (hN : N = K.length) (hP : P = none → c = 0) (he : OkL dd mm K) (hn : N ≤ 60) (g1 : 1 ≤ slots) (g2 : slots ≤ 10000) => hGroup_any P c N slots dd mm K W hK hN hP he (by omega) (by omega) hn g1 g2)
  have Hb24 := Lib.hid (Hb2.out.trans (HB4.out.mono Hb2.out.size))
  clear hl4 hL hLm hdd hLo hmk
  go_wp2_with fail
  refine (HMK.out w4 HB4.out).mono ?_
  rintro e w5 ⟨lv, us, rfl, hg, hb5⟩
  obtain ⟨Pl, cl, fl, -, -, -, hPl⟩ := hg.form
  have hul := hg.len
  rw [HLm.out] at hul
  rw [hul] at fl
  subst fl
  have RL := Lib.hid hg.rowC.1
  have HPL := Lib.hid hPl
  have HGL := Lib.hid hg
  have HB5 := Lib.hid (HB4.out.trans (hb5.mono HB4.out.size))
  have Hb5 := Lib.hid (Hb24.out.trans (hb5.mono Hb24.out.size))
  have Hb45 := Lib.hid hb5
  clear hul hg hb5 hPl
  have hrl' : raw.length ≤ 1000 := by omega
  obtain ⟨nn, hnn⟩ : ∃ nn : Nat, (nn : Int) = a5 % 30 := ⟨(a5 % 30).toNat, by omega⟩
  have hn30 : nn < 30 := by omega
  obtain ⟨N, hN⟩ : ∃ N, N = nn + 1 := ⟨_, rfl⟩
  have hNw : IntKind.i64.wrap (1 + (nn : Int)) = (N : Int) := by rw [IntWalk.i64_in _ (by omega), hN]; push_cast; omega
  have hN2 : 1 ≤ N ∧ N ≤ 30 := by omega
  have HNN := Lib.hid hnn
  have HRL := Lib.hid hrl'
  clear hnn hN hn30 hrl hrl' HMK HFA GRP
  go_wp2_with fail
  refine (lwithin7 a5 30 w5 h5 (by omega) (by omega)).mono ?_
  rintro e w' ⟨rfl, hw'⟩
  rw [← hw']
  clear hw'
  clear w'
  rw [← HNN.out]
  go_wp2_with fail
  refine (hNew_tb N w5 (by omega) (by omega)).mono ?_
  rintro e w6 ⟨T, g, rfl, hT6, hb6⟩
  go_wp2_with fail
  refine (rtNew_any N w6 (by omega) (by omega)).mono ?_
  rintro e w7 ⟨T2, gC, gI, rfl, hR7, hb7⟩
  have hT7 := hT6.below hb7
  have hTl : T < w6.heap.size := hT6.bx.lt
  have hgl : g < w6.heap.size := hT6.tab.blk.lt
  have hT2 := hR7.hT
  have hgC := hR7.hC
  have hgI := hR7.hI
  have hTB := hT6.hT
  have hgB := hT6.hg
  have hB56 := hb6.size
  have HT7 := Lib.hid hT7
  have HR7 := Lib.hid hR7
  have Hb7 := Lib.hid (hb6.trans (hb7.mono hb6.size))
  have hM1 : ∀ q, (q = g ∨ q = T) → q ≠ T2 ∧ q ≠ gC ∧ q ≠ gI := fun q hq => by rcases hq with h | h <;> omega
  have hM2 : ∀ q, (q = gC ∨ q = gI ∨ q = T2) → q ≠ T ∧ q ≠ g := fun q hq => by rcases hq with h | h | h <;> omega
  have hM3 : ∀ q, (q = g ∨ q = T) → w5.heap.size ≤ q := fun q hq => by rcases hq with h | h <;> omega
  have hM4 : ∀ q, (q = gC ∨ q = gI ∨ q = T2) → w5.heap.size ≤ q := fun q hq => by rcases hq with h | h | h <;> omega
  have HM1 := Lib.hid hM1
  have HM2 := Lib.hid hM2
  have HM3 := Lib.hid hM3
  have HM4 := Lib.hid hM4
  have hB6 : w6.heap.size ≤ w7.heap.size := hb7.size
  clear hT6 hb6 hR7 hb7 hT7 hM1 hM2 hM3 hM4 hT2 hgC hgI hTB hgB hTl hgl
  go_wp2_with fail
  go_loopw [21] (fun i wr => ∃ (j : Nat) (vs vs2 : List (Option V5)) (ts : List (Option Cel)) (d me : Int), i = .int .i64 j ∧ j ≤ m ∧ Tb w5.heap.size wr T g d me vs ts ∧ RT w6.heap.size wr T2 gC gI vs2 ts ∧ StR N dd mm ts ∧ ((cellsT ts).length = 0 ∨ d = dd ∧ me = mm) ∧ Below w5.heap.size w5 wr ∧ w6.heap.size ≤ wr.heap.size) (fun i _ => m - (intOf i).toNat)
  case atStart => exact ⟨0, _, _, _, _, _, rfl, Nat.zero_le _, HT7.out, HR7.out, StR.new, .inl (by rw [cells_new]; rfl), Hb7.out, hB6⟩
  case round =>
    obtain ⟨j, vs, vs2, ts, d, me, rfl, hj, hT, hR, hS, hd, hb, hz⟩ := hrel
    rename World => wr
    by_cases hlt : j < m
    · have i0 : (0 : Int) ≤ (j : Int) := by omega
      have i1 : (j : Int) < (m : Int) := by omega
      have d1 : decide ((j : Int) < (m : Int)) = true := decide_eq_true i1
      obtain ⟨x, hx⟩ : ∃ x, L[j]? = some x := ⟨_, List.getElem?_eq_getElem (by rw [HLm.out]; exact hlt)⟩
      obtain ⟨hxk, hok, hxe⟩ := HLo.out x (List.mem_of_getElem? hx)
      have HTd := Lib.hid (hT.below (below_drewN (Below.refl wr.heap.size wr) 1))
      obtain ⟨x1, x2, x3⟩ := id hxe
      obtain ⟨ad, rfl, hcr⟩ := RL.out (by omega)
      obtain ⟨vk, vs5, vn, vm, p0, p1, p2, p3, p4, hcc, hxi⟩ := hcr j x hx
      obtain ⟨ts', hts'⟩ : ∃ ts', ts' = stepT ts x := ⟨_, rfl⟩
      have kd := below_drewN (Below.refl wr.heap.size wr) 1
      have hbd : Below w5.heap.size w5 wr.drew := hb.trans (kd.mono hb.size)
      have hP1 := hPut_st w5.heap.size T g N dd mm d me vs ts vk vs5 vn vm x wr.drew (hT.below kd) hS (by omega) (by omega) hd (hcc.keep (Keeps.of_below hbd)) hxi ⟨hxk, hok, hxe⟩ hdd4 k3
      have hP2 := fun W h1 (h2 : Below w5.heap.size w5 W) h3 => rtPut_st w6.heap.size T2 gC gI N dd mm vs2 ts vk vs5 vn vm x W h1 hS (by omega) (by omega) (hcc.keep (Keeps.of_below h2)) hxi ⟨hxk, hok, hxe⟩ hdd4 k3 h3
      have hS' : StR N dd mm ts' := by rw [hts']; exact hS.step ⟨hxk, hok, hxe⟩
      obtain ⟨cl, hcl⟩ : ∃ z, z = (cellsT ts').length := ⟨_, rfl⟩
      have hL1 : ∀ W d' me' vs', Tb w5.heap.size W T g d' me' vs' ts' → Calls Try.prog 15 #[.pointer (some ⟨T, 0, none⟩)] W fun e w' => e = .returned (.int .i64 (cl : Int)) ∧ W = w' := fun W d' me' vs' h => by rw [hcl]; exact hLen_any _ _ _ _ _ _ _ W h
      have hL2 : ∀ W vs', RT w6.heap.size W T2 gC gI vs' ts' → Calls Try.prog 16 #[.pointer (some ⟨T2, 0, none⟩)] W fun e w' => e = .returned (.int .i64 (cl : Int)) ∧ W = w' := fun W vs' h => by rw [hcl]; exact rtLen_any _ _ _ _ _ _ W h
      obtain ⟨y, hy⟩ : ∃ y, y = gotT ts' x.key := ⟨_, rfl⟩
      obtain ⟨gb, hgb⟩ : ∃ z, z = (getT ts' x.key).isSome := ⟨_, rfl⟩
      have hG1 := fun W d' me' vs' h1 (h2 : Below w5.heap.size w5 W) => hGet_st w5.heap.size T g N dd mm d' me' vs' ts' vk x.key W h1 hS' (by omega) (by omega) hdd4 k3 (hcc.1.keep (Keeps.of_below h2)) (by omega)
      have hG2 := fun W vs' h1 (h2 : Below w5.heap.size w5 W) => rtGet_st w6.heap.size T2 gC gI N dd mm vs' ts' vk x.key W h1 hS' (by omega) hdd4 k3 (hcc.1.keep (Keeps.of_below h2)) (by omega)
      have hEQ := fun W k s n m k' s' n' m' h1 h2 => equal_yes k s n m k' s' n' m' y W h1 h2 (by rw [hy]; exact (hS'.got hdd4 k3 x.key).1) (by rw [hy]; exact (hS'.got hdd4 k3 x.key).2.1) (by rw [hy]; exact (hS'.got hdd4 k3 x.key).2.2.1) (by rw [hy]; exact (hS'.got hdd4 k3 x.key).2.2.2)
      rw [← hy, ← hgb] at hG1 hG2
      obtain ⟨pb, hpb⟩ : ∃ z, z = (putT ts x).isSome := ⟨_, rfl⟩
      rw [← hpb, ← hts'] at hP1 hP2
      obtain ⟨yc, hyc⟩ : ∃ z, z = y.cnt := ⟨_, rfl⟩
      obtain ⟨l1, hl1⟩ : ∃ z, z = y.key.length := ⟨_, rfl⟩
      obtain ⟨l2, hl2⟩ : ∃ z, z = y.sum.length := ⟨_, rfl⟩
      obtain ⟨l3, hl3⟩ : ∃ z, z = y.mn.length := ⟨_, rfl⟩
      obtain ⟨l4, hl4⟩ : ∃ z, z = y.mx.length := ⟨_, rfl⟩
      rw [← hyc] at hG1 hG2 hEQ
      obtain ⟨⟨P1, q1, rfl, -⟩, ⟨P2, q2, rfl, -⟩, ⟨P3, q3, rfl, -⟩, ⟨P4, q4, rfl, -⟩⟩ := hcc
      rw [hxk] at p0 hP1 hP2 hG1 hG2
      rw [x1] at p2 hP1 hP2
      rw [x2] at p3 hP1 hP2
      rw [x3] at p4 hP1 hP2
      obtain ⟨xc, exc⟩ : ∃ z, z = x.cnt := ⟨_, rfl⟩
      rw [← exc] at p1 hP1 hP2
      have HP1 := Lib.hid hP1
      have HP2 := Lib.hid hP2
      have HL1 := Lib.hid hL1
      have HL2 := Lib.hid hL2
      have HG1 := Lib.hid hG1
      have HG2 := Lib.hid hG2
      have HEQ := Lib.hid hEQ
      have HN := Lib.hid (show yc = y.cnt ∧ l1 = y.key.length ∧ l2 = y.sum.length ∧ l3 = y.mn.length ∧ l4 = y.mx.length from ⟨hyc, hl1, hl2, hl3, hl4⟩)
      have HPC := Lib.hid (fun (W : World) (h : Below w5.heap.size w5 W) => (show W.cell? (ad.add (j * 5)) = some (.slice P1 dd q1) ∧ W.cell? ⟨(ad.add (j * 5)).block, (ad.add (j * 5)).off + 1, none⟩ = some (.int .i64 xc) ∧ W.cell? ⟨(ad.add (j * 5)).block, (ad.add (j * 5)).off + 2, none⟩ = some (.slice P2 mm q2) ∧ W.cell? ⟨(ad.add (j * 5)).block, (ad.add (j * 5)).off + 3, none⟩ = some (.slice P3 mm q3) ∧ W.cell? ⟨(ad.add (j * 5)).block, (ad.add (j * 5)).off + 4, none⟩ = some (.slice P4 mm q4) from ⟨(Keeps.of_below h) _ _ p0, (Keeps.of_below h) _ _ p1, (Keeps.of_below h) _ _ p2, (Keeps.of_below h) _ _ p3, (Keeps.of_below h) _ _ p4⟩))
      have HRd := Lib.hid (hR.below kd)
      have HS' := Lib.hid hS'
      have HBD := Lib.hid hbd
      have hS0 := HPC.out _ hbd
      have hz1 : wr.heap.size ≤ wr.drew.heap.size := kd.size
      clear hx hxk hok hxe x1 x2 x3 hcr p0 p1 p2 p3 p4 hxi hts' kd hP1 hP2 hS' hL1 hL2 hG1 hG2 hEQ hy hgb hpb hyc hl1 hl2 hl3 hl4 exc hT hR hS hd hb hcl hbd
      go_upto_region 14 with (fail)
      refine wp_region_held_drew (S := fun W => W.cell? (ad.add (j * 5)) = some (.slice P1 dd q1) ∧ W.cell? ⟨(ad.add (j * 5)).block, (ad.add (j * 5)).off + 1, none⟩ = some (.int .i64 xc) ∧ W.cell? ⟨(ad.add (j * 5)).block, (ad.add (j * 5)).off + 2, none⟩ = some (.slice P2 mm q2) ∧ W.cell? ⟨(ad.add (j * 5)).block, (ad.add (j * 5)).off + 3, none⟩ = some (.slice P3 mm q3) ∧ W.cell? ⟨(ad.add (j * 5)).block, (ad.add (j * 5)).off + 4, none⟩ = some (.slice P4 mm q4)) (by kernel_rfl) hS0 (fun hHeld => ?_)
      clear hS0
      refine wpAnyH_take (i := 0) (v := ?vpa0) rfl (by kernel_rfl) (by kernel_rfl) (by kernel_rfl) (fun _ _ _ h => h) (Or.inl ⟨by rfl, ?ypa0⟩) hHeld ?rpa0
      case ypa0 => (intro W hW; obtain ⟨h0, h1, h2, h3, h4⟩ := hW; go_simp; first | done | with_reducible rfl)
      try simp only [List.getElem_toArray, List.getElem_cons_zero, Act.put, List.setIfInBounds_toArray, List.set_cons_zero, List.set_cons_succ]
      refine wpAnyH_take (i := 1) (v := ?vpa1) rfl (by kernel_rfl) (by kernel_rfl) (by kernel_rfl) (fun _ _ _ h => h) (Or.inl ⟨by rfl, ?ypa1⟩) hHeld ?rpa1
      case ypa1 => (intro W hW; obtain ⟨h0, h1, h2, h3, h4⟩ := hW; go_simp; first | done | with_reducible rfl)
      try simp only [List.getElem_toArray, List.getElem_cons_succ, List.getElem_cons_zero, Act.put, List.setIfInBounds_toArray, List.set_cons_zero, List.set_cons_succ]
      refine wpAnyH_take (i := 2) (v := ?vpa2) rfl (by kernel_rfl) (by kernel_rfl) (by kernel_rfl) (fun _ _ _ h => h) (Or.inl ⟨by rfl, ?ypa2⟩) hHeld ?rpa2
      case ypa2 => (intro W hW; obtain ⟨h0, h1, h2, h3, h4⟩ := hW; go_simp; first | done | with_reducible rfl)
      try simp only [List.getElem_toArray, List.getElem_cons_succ, List.getElem_cons_zero, Act.put, List.setIfInBounds_toArray, List.set_cons_zero, List.set_cons_succ]
      refine wpAnyH_take (i := 3) (v := ?vpa3) rfl (by kernel_rfl) (by kernel_rfl) (by kernel_rfl) (fun _ _ _ h => h) (Or.inl ⟨by rfl, ?ypa3⟩) hHeld ?rpa3
      case ypa3 => (intro W hW; obtain ⟨h0, h1, h2, h3, h4⟩ := hW; go_simp; first | done | with_reducible rfl)
      try simp only [List.getElem_toArray, List.getElem_cons_succ, List.getElem_cons_zero, Act.put, List.setIfInBounds_toArray, List.set_cons_zero, List.set_cons_succ]
      refine wpAnyH_take (i := 4) (v := ?vpa4) rfl (by kernel_rfl) (by kernel_rfl) (by kernel_rfl) (fun _ _ _ h => h) (Or.inl ⟨by rfl, ?ypa4⟩) hHeld ?rpa4
      case ypa4 => (intro W hW; obtain ⟨h0, h1, h2, h3, h4⟩ := hW; go_simp; first | done | with_reducible rfl)
      try simp only [List.getElem_toArray, List.getElem_cons_succ, List.getElem_cons_zero, Act.put, List.setIfInBounds_toArray, List.set_cons_zero, List.set_cons_succ]
      refine wpAnyH_take (i := 6) (v := ?vpa6) rfl (by kernel_rfl) (by kernel_rfl) (by kernel_rfl) (fun _ _ _ h => h) (Or.inl ⟨by rfl, ?ypa6⟩) hHeld ?rpa6
      case ypa6 => (intro W hW; obtain ⟨h0, h1, h2, h3, h4⟩ := hW; go_simp; first | done | with_reducible rfl)
      try simp only [List.getElem_toArray, List.getElem_cons_succ, List.getElem_cons_zero, Act.put, List.setIfInBounds_toArray, List.set_cons_zero, List.set_cons_succ]
      refine wpAnyH_take (i := 7) (v := ?vpa7) rfl (by kernel_rfl) (by kernel_rfl) (by kernel_rfl) (fun _ _ _ h => h) (Or.inl ⟨by rfl, ?ypa7⟩) hHeld ?rpa7
      case ypa7 => (intro W hW; obtain ⟨h0, h1, h2, h3, h4⟩ := hW; go_simp; first | done | with_reducible rfl)
      try simp only [List.getElem_toArray, List.getElem_cons_succ, List.getElem_cons_zero, Act.put, List.setIfInBounds_toArray, List.set_cons_zero, List.set_cons_succ]
      refine wpAnyH_take (i := 8) (v := ?vpa8) rfl (by kernel_rfl) (by kernel_rfl) (by kernel_rfl) (fun _ _ _ h => h) (Or.inl ⟨by rfl, ?ypa8⟩) hHeld ?rpa8
      case ypa8 => (intro W hW; obtain ⟨h0, h1, h2, h3, h4⟩ := hW; go_simp; first | done | with_reducible rfl)
      try simp only [List.getElem_toArray, List.getElem_cons_succ, List.getElem_cons_zero, Act.put, List.setIfInBounds_toArray, List.set_cons_zero, List.set_cons_succ]
      refine wpAnyH_take (i := 9) (v := ?vpa9) rfl (by kernel_rfl) (by kernel_rfl) (by kernel_rfl) (fun _ _ _ h => h) (Or.inl ⟨by rfl, ?ypa9⟩) hHeld ?rpa9
      case ypa9 => (intro W hW; obtain ⟨h0, h1, h2, h3, h4⟩ := hW; go_simp; first | done | with_reducible rfl)
      try simp only [List.getElem_toArray, List.getElem_cons_succ, List.getElem_cons_zero, Act.put, List.setIfInBounds_toArray, List.set_cons_zero, List.set_cons_succ]
      refine wpAnyH_take (i := 10) (v := ?vpa10) rfl (by kernel_rfl) (by kernel_rfl) (by kernel_rfl) (fun _ _ _ h => h) (Or.inl ⟨by rfl, ?ypa10⟩) hHeld ?rpa10
      case ypa10 => (intro W hW; obtain ⟨h0, h1, h2, h3, h4⟩ := hW; go_simp; first | done | with_reducible rfl)
      try simp only [List.getElem_toArray, List.getElem_cons_succ, List.getElem_cons_zero, Act.put, List.setIfInBounds_toArray, List.set_cons_zero, List.set_cons_succ]
      refine wpAnyH_ready (rs := [5]) (by kernel_rfl) (by simp) ?_
      refine AllReadyH.cons rfl (fun K hK => ?_) (AllReadyH.nil)
      go_simp
      refine HP1.out.mono ?_
      rintro e6 w8 ⟨rfl, ⟨d', me', vs', hT8, hd8⟩, ht8⟩
      have HT8 := Lib.hid hT8
      have HD8 := Lib.hid hd8
      have HR8 := Lib.hid (HRd.out.tchT ht8 fun q hq => ⟨(HM1.out q hq).1, (HM1.out q hq).2.1, (HM1.out q hq).2.2, HTd.out.ty q hq⟩)
      have Hb8 := Lib.hid (HBD.out.trans (ht8.below HM3.out HBD.out.size))
      have hz8 := ht8.size
      clear hT8 hd8 ht8
      refine hK.out _ _ (HPC.out _ Hb8.out) (fun hHeld => ?_)
      clear hK K
      try simp only [List.getElem_toArray, List.getElem_cons_succ, List.getElem_cons_zero, Act.put, List.setIfInBounds_toArray, List.set_cons_zero, List.set_cons_succ]
      refine wpAnyH_ready (rs := [11]) (by kernel_rfl) (by simp) ?_
      refine AllReadyH.cons rfl (fun K hK => ?_) (AllReadyH.nil)
      go_simp
      refine (HP2.out _ HR8.out Hb8.out (Nat.le_trans hz (Nat.le_trans hz1 hz8))).mono ?_
      rintro e6 w9 ⟨rfl, ⟨vs2', hR9⟩, ht9⟩
      have HR9 := Lib.hid hR9
      have HT9 := Lib.hid (HT8.out.tchT ht9 fun q hq => ⟨(HM2.out q hq).1, (HM2.out q hq).2, HR8.out.ty q hq⟩)
      have Hb9 := Lib.hid (Hb8.out.trans (ht9.below HM4.out Hb8.out.size))
      have hz9 := ht9.size
      clear hR9 ht9
      refine hK.out _ _ (HPC.out _ Hb9.out) (fun hHeld => ?_)
      clear hK K
      try simp only [List.getElem_toArray, List.getElem_cons_succ, List.getElem_cons_zero, Act.put, List.setIfInBounds_toArray, List.set_cons_zero, List.set_cons_succ]
      refine wpAnyH_take (i := 12) (v := ?vpa12) rfl (by kernel_rfl) (by kernel_rfl) (by kernel_rfl) (fun _ _ _ h => h) (Or.inl ⟨by rfl, ?ypa12⟩) hHeld ?rpa12
      case ypa12 => (intro W hW; obtain ⟨h0, h1, h2, h3, h4⟩ := hW; go_simp; first | done | with_reducible rfl)
      try simp only [List.getElem_toArray, List.getElem_cons_succ, List.getElem_cons_zero, Act.put, List.setIfInBounds_toArray, List.set_cons_zero, List.set_cons_succ]
      refine wpAnyH_take (i := 13) (v := ?vpa13) rfl (by kernel_rfl) (by kernel_rfl) (by kernel_rfl) (fun _ _ _ h => h) (Or.inl ⟨by rfl, ?ypa13⟩) hHeld ?rpa13
      case ypa13 => (intro W hW; obtain ⟨h0, h1, h2, h3, h4⟩ := hW; go_simp; first | done | with_reducible rfl)
      try simp only [List.getElem_toArray, List.getElem_cons_succ, List.getElem_cons_zero, Act.put, List.setIfInBounds_toArray, List.set_cons_zero, List.set_cons_succ]
      refine wpAnyH_take (i := 14) (v := ?vpa14) rfl (by kernel_rfl) (by kernel_rfl) (by kernel_rfl) (fun _ _ _ h => h) (Or.inl ⟨by rfl, ?ypa14⟩) hHeld ?rpa14
      case ypa14 => (intro W hW; obtain ⟨h0, h1, h2, h3, h4⟩ := hW; go_simp; first | done | with_reducible rfl)
      try simp only [List.getElem_toArray, List.getElem_cons_succ, List.getElem_cons_zero, Act.put, List.setIfInBounds_toArray, List.set_cons_zero, List.set_cons_succ]
      refine wpAnyH_take (i := 16) (v := ?vpa16) rfl (by kernel_rfl) (by kernel_rfl) (by kernel_rfl) (fun _ _ _ h => h) (Or.inl ⟨by rfl, ?ypa16⟩) hHeld ?rpa16
      case ypa16 => (intro W hW; obtain ⟨h0, h1, h2, h3, h4⟩ := hW; go_simp; first | done | with_reducible rfl)
      try simp only [List.getElem_toArray, List.getElem_cons_succ, List.getElem_cons_zero, Act.put, List.setIfInBounds_toArray, List.set_cons_zero, List.set_cons_succ]
      refine wpAnyH_ready (rs := [15]) (by kernel_rfl) (by simp) ?_
      refine AllReadyH.cons rfl (fun K hK => ?_) (AllReadyH.nil)
      go_simp
      refine (HL1.out _ _ _ _ HT9.out).mono ?_
      rintro e6 w' ⟨rfl, hw'⟩
      rw [← hw']
      clear hw'
      clear w'
      refine hK.out _ _ (hHeld) (fun hHeld => ?_)
      clear hK K
      try simp only [List.getElem_toArray, List.getElem_cons_succ, List.getElem_cons_zero, Act.put, List.setIfInBounds_toArray, List.set_cons_zero, List.set_cons_succ]
      refine wpAnyH_ready (rs := [17]) (by kernel_rfl) (by simp) ?_
      refine AllReadyH.cons rfl (fun K hK => ?_) (AllReadyH.nil)
      go_simp
      refine (HL2.out _ _ HR9.out).mono ?_
      rintro e6 w' ⟨rfl, hw'⟩
      rw [← hw']
      clear hw'
      clear w'
      refine hK.out _ _ (hHeld) (fun hHeld => ?_)
      clear hK K
      try simp only [List.getElem_toArray, List.getElem_cons_succ, List.getElem_cons_zero, Act.put, List.setIfInBounds_toArray, List.set_cons_zero, List.set_cons_succ]
      refine wpAnyH_take (i := 18) (v := ?vpa18) rfl (by kernel_rfl) (by kernel_rfl) (by kernel_rfl) (fun _ _ _ h => h) (Or.inl ⟨by rfl, ?ypa18⟩) hHeld ?rpa18
      case ypa18 => (intro W hW; obtain ⟨h0, h1, h2, h3, h4⟩ := hW; go_simp; first | done | with_reducible rfl)
      try simp only [List.getElem_toArray, List.getElem_cons_succ, List.getElem_cons_zero, Act.put, List.setIfInBounds_toArray, List.set_cons_zero, List.set_cons_succ]
      refine wpAnyH_take (i := 19) (v := ?vpa19) rfl (by kernel_rfl) (by kernel_rfl) (by kernel_rfl) (fun _ _ _ h => h) (Or.inl ⟨by rfl, ?ypa19⟩) hHeld ?rpa19
      case ypa19 => (intro W hW; obtain ⟨h0, h1, h2, h3, h4⟩ := hW; go_simp; first | done | with_reducible rfl)
      try simp only [List.getElem_toArray, List.getElem_cons_succ, List.getElem_cons_zero, Act.put, List.setIfInBounds_toArray, List.set_cons_zero, List.set_cons_succ]
      refine wpAnyH_done (by kernel_rfl) ?_ _
      obtain ⟨f0, -, -, -, -⟩ := hHeld
      have hz79 : w6.heap.size ≤ w9.heap.size := by omega
      clear HP1 HP2 HL1 HL2 HRd HR8 HT8 HBD hz1 hz8 hz9 Hb8
      go_wp2_with fail
      refine (HG1.out _ _ _ _ HT9.out Hb9.out).mono ?_
      rintro e w10 ⟨⟨k', s', n', m', rfl, hcr⟩, hb10⟩
      have HC1 := Lib.hid hcr
      obtain ⟨⟨Q1, e1, rfl, -⟩, ⟨Q2, e2, rfl, -⟩, ⟨Q3, e3, rfl, -⟩, ⟨Q4, e4, rfl, -⟩⟩ := hcr
      rw [← HN.out.2.1, ← HN.out.2.2.1, ← HN.out.2.2.2.1, ← HN.out.2.2.2.2] at HC1
      rw [← HN.out.2.1, ← HN.out.2.2.1, ← HN.out.2.2.2.1, ← HN.out.2.2.2.2]
      obtain ⟨w11, hw11⟩ : ∃ z, z = w10.alloc (.cells #[.slice Q1 l1 e1, .int .i64 yc, .slice Q2 l2 e2, .slice Q3 l3 e3, .slice Q4 l4 e4] 39) := ⟨_, rfl⟩
      have ow11 : Own 39 w11 w10.heap.size [.slice Q1 l1 e1, .int .i64 yc, .slice Q2 l2 e2, .slice Q3 l3 e3, .slice Q4 l4 e4] := by rw [hw11]; exact heap_alloc_new w10 _
      have hbw11 : Below w10.heap.size w10 w11 := by rw [hw11]; exact (Below.refl _ _).alloc (Nat.le_refl _) _
      obtain ⟨b1, eb1⟩ : ∃ z, z = w10.heap.size := ⟨_, rfl⟩
      rw [← eb1] at ow11
      have Hw11 := Lib.hid hw11
      have Ow11 := Lib.hid ow11
      have Eb1 := Lib.hid eb1
      have Lw11 := Lib.hid hbw11
      have Xw11 := Lib.hid (hb10.trans (hbw11.mono hb10.size))
      clear hw11 ow11 hbw11 eb1
      have HT11 := Lib.hid (HT9.out.below Xw11.out)
      have HR11 := Lib.hid (HR9.out.below Xw11.out)
      have Hb11 := Lib.hid (Hb9.out.trans (Xw11.out.mono Hb9.out.size))
      have f1 := (HPC.out _ Hb11.out).1
      have K11 := Lib.hid (HC1.out.keep (Keeps.of_below Lw11.out))
      clear HT9 HR9 f0 hb10 HC1
      go_upto_region 17 with (fail)
      rw [← Hw11.out, ← Eb1.out]
      clear Hw11 Eb1
      go_wp2_with fail
      refine (HG2.out _ _ HR11.out Hb11.out).mono ?_
      rintro e w12 ⟨⟨k', s', n', m', rfl, hcr⟩, hb12⟩
      clear f1
      have HC2 := Lib.hid hcr
      obtain ⟨⟨R1, u1, rfl, -⟩, ⟨R2, u2, rfl, -⟩, ⟨R3, u3, rfl, -⟩, ⟨R4, u4, rfl, -⟩⟩ := hcr
      rw [← HN.out.2.1, ← HN.out.2.2.1, ← HN.out.2.2.2.1, ← HN.out.2.2.2.2] at HC2
      rw [← HN.out.2.1, ← HN.out.2.2.1, ← HN.out.2.2.2.1, ← HN.out.2.2.2.2]
      obtain ⟨w13, hw13⟩ : ∃ z, z = w12.alloc (.cells #[.slice R1 l1 u1, .int .i64 yc, .slice R2 l2 u2, .slice R3 l3 u3, .slice R4 l4 u4] 39) := ⟨_, rfl⟩
      have ow13 : Own 39 w13 w12.heap.size [.slice R1 l1 u1, .int .i64 yc, .slice R2 l2 u2, .slice R3 l3 u3, .slice R4 l4 u4] := by rw [hw13]; exact heap_alloc_new w12 _
      have hbw13 : Below w12.heap.size w12 w13 := by rw [hw13]; exact (Below.refl _ _).alloc (Nat.le_refl _) _
      obtain ⟨b2, eb2⟩ : ∃ z, z = w12.heap.size := ⟨_, rfl⟩
      rw [← eb2] at ow13
      have Hw13 := Lib.hid hw13
      have Ow13 := Lib.hid ow13
      have Eb2 := Lib.hid eb2
      have Lw13 := Lib.hid hbw13
      have Xw13 := Lib.hid (hb12.trans (hbw13.mono hb12.size))
      clear hw13 ow13 hbw13 eb2
      have b13 : Below w11.heap.size w11 w13 := Xw13.out
      have HT13 := Lib.hid (HT11.out.below b13)
      have HR13 := Lib.hid (HR11.out.below b13)
      have Hb13 := Lib.hid (Hb11.out.trans (b13.mono Hb11.out.size))
      have K13 := Lib.hid (K11.out.keep (Keeps.of_below b13))
      have C13 := Lib.hid (HC2.out.keep (Keeps.of_below Lw13.out))
      have bx1 := (Ow11.out.below b13 Ow11.out.lt).bx
      have bx2 := Ow13.out.bx
      have HZ := Lib.hid (HEQ.out w13 _ _ _ _ _ _ _ _ K13.out C13.out)
      have hz13 : w6.heap.size ≤ w13.heap.size := by have := Xw11.out.size; have := b13.size; omega
      clear b13 hb12 HC2 K11 K13 C13 Ow11 Ow13 HT11 HR11 HG1 HG2 HEQ Xw11 Xw13 Hb11
      go_upto_region 18 with (fail)
      rw [← Hw13.out, ← Eb2.out]
      clear Hw13 Eb2
      obtain ⟨g0, g1, g2, g3, g4⟩ := bx1
      obtain ⟨r0, r1, r2, r3, r4⟩ := bx2
      go_wp2_with fail
      refine HZ.out.mono ?_
      rintro e w14 ⟨rfl, hb14⟩
      have Hb14 := Lib.hid hb14
      clear hb14 HZ g0 g1 g2 g3 g4 r0 r1 r2 r3 r4
      have hz14 : w6.heap.size ≤ w14.heap.size := Nat.le_trans hz13 Hb14.out.size
      go_wp2
      go_roundw
      case rel => exact ⟨j + 1, _, _, _, _, _, by go_num, by omega, HT13.out.below Hb14.out, HR13.out.below Hb14.out, HS'.out, HD8.out, Hb13.out.trans (Hb14.out.mono Hb13.out.size), hz14⟩
      case measure => simp [intOf]; omega
    · obtain rfl : j = m := by omega
      have d1 : decide ((j : Int) < (j : Int)) = false := by simp
      obtain ⟨y, hy⟩ : ∃ y, y = gotT ts raw := ⟨_, rfl⟩
      obtain ⟨gb, hgb⟩ : ∃ z, z = (getT ts raw).isSome := ⟨_, rfl⟩
      have hG1 := hGet_st w5.heap.size T g N dd mm d me vs ts (.slice a6 len6 cap6) raw wr hT hS (by omega) (by omega) hdd4 k3 (R6.out.keep (Keeps.of_below (Hb5.out.trans (hb.mono Hb5.out.size)))) HRL.out
      have hG2 := fun W (h1 : Below wr.heap.size wr W) => rtGet_st w6.heap.size T2 gC gI N dd mm vs2 ts (.slice a6 len6 cap6) raw W (hR.below h1) hS (by omega) hdd4 k3 (R6.out.keep (Keeps.of_below ((Hb5.out.trans (hb.mono Hb5.out.size)).trans (h1.mono (Hb5.out.trans (hb.mono Hb5.out.size)).size)))) HRL.out
      rw [← hy, ← hgb] at hG1 hG2
      have hC1 := fun W (h1 : Below wr.heap.size wr W) => hCells_any w5.heap.size T g d me vs ts W (hT.below h1) (by rw [hS.len]; omega) (hS.few hdd4 k3)
      have hC2 := fun W (h1 : Below wr.heap.size wr W) => rtCells_any w6.heap.size T2 gC gI vs2 ts W (hR.below h1) (by rw [hS.len]; omega) (fun i z hz => by have := hS.at_ hdd4 k3 i z hz; exact ⟨this.1, this.2.2⟩)
      have HG1 := Lib.hid hG1
      have HG2 := Lib.hid hG2
      have HC1 := Lib.hid hC1
      have HC2 := Lib.hid hC2
      have Hb := Lib.hid hb
      have HFW := Lib.hid (hS.few hdd4 k3)
      obtain ⟨CL, hCL⟩ : ∃ z, z = cellsT ts := ⟨_, rfl⟩
      have hCLn : CL.length ≤ N := by rw [hCL, ← hS.len]; exact cells_le ts
      have HCLn := Lib.hid hCLn
      rw [← hCL] at HC1 HC2 HFW
      clear hG1 hG2 hC1 hC2 hb hy hgb hT hR hS hd hCL hCLn
      go_wp2_with fail
      refine HG1.out.mono ?_
      rintro e w10 ⟨⟨k', s', n', m', rfl, ⟨⟨Q1, e1, rfl, -⟩, ⟨Q2, e2, rfl, -⟩, ⟨Q3, e3, rfl, -⟩, ⟨Q4, e4, rfl, -⟩⟩⟩, hb10⟩
      have hbA : ∀ vv T0, Below wr.heap.size wr (w10.alloc (.cells vv T0)) := fun vv T0 => hb10.alloc hb10.size _
      have HBA := Lib.hid hbA
      clear hbA hb10 HG1
      go_wp2_with fail
      refine (HG2.out _ (HBA.out _ _)).mono ?_
      rintro e w12 ⟨⟨k', s', n', m', rfl, ⟨⟨R1, u1, rfl, -⟩, ⟨R2, u2, rfl, -⟩, ⟨R3, u3, rfl, -⟩, ⟨R4, u4, rfl, -⟩⟩⟩, hb12⟩
      have h12 : Below wr.heap.size wr w12 := (HBA.out _ _).trans (hb12.mono (HBA.out _ _).size)
      have hbB : ∀ vv T0, Below wr.heap.size wr (w12.alloc (.cells vv T0)) := fun vv T0 => h12.alloc h12.size _
      have HBB := Lib.hid hbB
      clear h12 hbB hb12 HG2 HBA
      go_wp2_with fail
      refine (HC1.out _ (HBB.out _ _)).mono ?_
      rintro e w13 ⟨v1, us1, rfl, hg1, hb13⟩
      obtain ⟨A1, c1, fl1, -⟩ := hg1.form
      have hul1 := hg1.len
      subst fl1
      have hr1 := hg1.rowC
      have Hb13 := Lib.hid ((HBB.out _ _).trans (hb13.mono (HBB.out _ _).size))
      have HR1 := Lib.hid hr1
      clear hg1 hb13 hul1 hr1 HBB HC1
      go_wp2_with fail
      refine (HC2.out _ Hb13.out).mono ?_
      rintro e w14 ⟨v2, us2, rfl, hg2, hb14⟩
      obtain ⟨A2, c2, fl2, -⟩ := hg2.form
      subst fl2
      have hr2 := hg2.rowC
      have hn12 : us2.length = us1.length := by rw [hr2.2, HR1.out.2]
      rw [hn12] at hr2 ⊢
      have hS2 := same_yes A1 A2 us1.length c1 c2 CL w14 (HR1.out.1.keep (Keeps.of_below hb14)) hr2.1 HR1.out.2 HFW.out (by rw [HR1.out.2]; have := HCLn.out; omega)
      have HS2 := Lib.hid hS2
      have Hb14 := Lib.hid (Hb13.out.trans (hb14.mono Hb13.out.size))
      clear hg2 hb14 hr2 hn12 hS2 HR1 HC2
      go_wp2_with fail
      refine HS2.out.mono ?_
      rintro e w15 ⟨rfl, hb15⟩
      have Hb15 := Lib.hid (Hb14.out.trans (hb15.mono Hb14.out.size))
      clear hb15
      go_wp2
      go_ret
      exact ⟨rfl, Hb5.out.trans ((Hb.out.trans (Hb15.out.mono Hb.out.size)).mono Hb5.out.size)⟩
end Go.Proofs.Ytioddfodajinlaa
