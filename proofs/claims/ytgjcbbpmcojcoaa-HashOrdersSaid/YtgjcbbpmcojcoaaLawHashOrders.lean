/- The law HashOrders. -/
import Derived.IntWalk
import Derived.Test.YtgjcbbpmcojcoaaHsho
import Derived.Test.YtgjcbbpmcojcoaaMake
import Derived.Test.YtgjcbbpmcojcoaaSet
import Derived.Test.YtgjcbbpmcojcoaaIsRow
import Derived.Test.YtgjcbbpmcojcoaaHshR
namespace Go.Proofs.Ytgjcbbpmcojcoaa
open Go.RowKit
attribute [local go_sem] Oper.semAt_some
theorem swap_fin {L lk : List Cel} {B n : Nat} {W wx : World} {v : Value} {ul : List V5} (hp : lk.Perm L) (h : GRs B W v ul lk) (hb : Below n wx W) : ∃ ul lk, lk.Perm L ∧ GRs B W.drew.drew v ul lk ∧ Below n wx W.drew.drew :=
  ⟨ul, lk, hp, h.below ((Below.refl _ W).drew.drew), hb.drew.drew⟩
set_option maxRecDepth 100000 in
set_option maxHeartbeats 8000000 in
theorem hashOrders_walk (a0 : Int) (a1 : Option Addr) (len1 cap1 : Nat) (z1 : List Int) (a2 : Int) (a3 : Option Addr) (len3 cap3 : Nat) (z3 : List Int) (a4 : Int) (a5 : Int) (a6 : Option Addr) (len6 cap6 : Nat) (z6 : List Int) (w : World) (h0 : inK .i64 a0) (w1 : IsRow .i64 w a1 len1 cap1 z1) (h2 : inK .i64 a2) (w3 : IsRow .i64 w a3 len3 cap3 z3) (h4 : inK .i64 a4) (h5 : inK .i64 a5) (w6 : IsRow .i64 w a6 len6 cap6 z6) :
    Calls Try.prog 10 #[.int .i64 a0, .slice a1 len1 cap1, .int .i64 a2, .slice a3 len3 cap3, .int .i64 a4, .int .i64 a5, .slice a6 len6 cap6] w fun e w' => e = .returned (.bool true) ∧ Below w.heap.size w w' := by
  obtain ⟨n1, lc1, cm1⟩ := w1.nums
  obtain ⟨n3, lc3, cm3⟩ := w3.nums
  obtain ⟨n6, lc6, cm6⟩ := w6.nums
  generalize z6.take len6 = ys at n6
  have N6 := Lib.hid n6
  clear w6 n6
  have HW := Lib.hid (fun (x : Int) (n : Nat) (W : World) (h : inK .i64 x) (h1 : 1 ≤ n) (h2 : n ≤ 40) => lwithin7 x n W h (by omega) (by omega))
  have HWS := Lib.hid (fun (x n : Int) (W : World) (h : inK .i64 x) (e1 : 1 ≤ n) (e2 : n ≤ 100) => lwithin7 x n W h e1 (by omega))
  have N1 := Lib.hid n1
  have N3 := Lib.hid n3
  have HKn := Lib.hid (hknown_any w)
  clear w1 w3 n1 n3
  go_enter Try.func10, Try.ntmps10
  go_wp2_with fail
  refine HKn.out.mono ?_
  rintro e w1 ⟨rfl, hb1⟩
  have Hb1 := Lib.hid hb1
  clear hb1 HKn
  go_wp2_with fail
  refine (Facts_res a0 a2 a1 a3 len1 cap1 len3 cap3 _ _ w1 (N1.out.keep (Keeps.of_below Hb1.out)) (N3.out.keep (Keeps.of_below Hb1.out)) (by omega) (by omega) h0 h2).mono ?_
  rintro e w2 ⟨A, c, D, d, C, q, mm, m, cs, l, rfl, hF⟩
  have F := Lib.hid hF
  obtain ⟨k1, k2, k3, k4⟩ : 1 ≤ q ∧ q ≤ 4 ∧ mm ≤ 2 ∧ m ≤ 40 := ⟨hF.q1, hF.q4, hF.m2, hF.m40⟩
  have hb2 : Below w.heap.size w w2 := Hb1.out.trans (hF.below.mono Hb1.out.size)
  have hb3 : Below w2.heap.size w2 (w2.alloc (.cells #[.slice A q c, .int .i64 mm] 25)) := (Below.refl _ _).alloc (Nat.le_refl _) _
  obtain ⟨s1, s2, s3⟩ := set_bd a4 q k1 k2
  have Hb2 := Lib.hid hb2
  have Hb3 := Lib.hid hb3
  clear hF hb2 hb3 N1 N3
  go_wp2_with fail
  refine (set_any A q c mm a4 _ k1 k2 h4).mono ?_
  rintro e w4 ⟨rfl, rfl⟩
  obtain ⟨sa, hsa⟩ : ∃ sa, sa = a4 % 2 ^ q := ⟨_, rfl⟩
  rw [← hsa] at s1 s2 s3 ⊢
  clear hsa
  have hb4 : Below w2.heap.size w2 ((w2.alloc (.cells #[.slice A q c, .int .i64 mm] 25)).alloc (.cells #[.slice A q c, .int .i64 mm] 25)) := Hb3.out.alloc Hb3.out.size _
  have HB4 := Lib.hid hb4
  clear hb4
  generalize (w2.alloc (.cells #[.slice A q c, .int .i64 mm] 25)).alloc (.cells #[.slice A q c, .int .i64 mm] 25) = w4 at HB4 ⊢
  have hl4 : ∀ r ∈ l, r.key.length = q ∧ r.m.length = mm := F.out.lens
  have HL4 := Lib.hid (fun r hr => (show r.key.length ≤ 4 ∧ r.m.length = mm from ⟨by rw [(hl4 r hr).1]; exact k2, (hl4 r hr).2⟩))
  have hmk := fun W (hW : Below w2.heap.size w2 W) => make_any D m d C sa l W (F.out.rows.below hW (Nat.le_refl _)) F.out.em k4 F.out.small (fun r hr => by have := hl4 r hr; omega) s1 s2
  obtain ⟨L, hL⟩ : ∃ L, L = l.map (ofC sa) := ⟨_, rfl⟩
  have hLm : L.length = m := by rw [hL, List.length_map, F.out.em]
  obtain ⟨dd, hdd⟩ : ∃ dd, dd = dimN sa q := ⟨_, rfl⟩
  have hdd4 : dd ≤ 4 := by rw [hdd]; exact Nat.le_trans (dimN_le sa q) k2
  have hLo : OkL dd mm L := by rw [hL, hdd]; exact ok_cells sa F.out.right hl4 F.out.c16
  rw [← hL] at hmk
  have HMK := Lib.hid hmk
  have HLo := Lib.hid hLo
  have HLm := Lib.hid hLm
  have HLL := Lib.hid hL
  have GRP := Lib.hid (fun (P : Option Addr) (c N slots : Nat) (K : List Cel) (W : World) (hK : RowC W P N K) (hN : N = K.length) (hP : P = none → c = 0) (he : OkL dd mm K) (hn : N ≤ 60) (g1 : 1 ≤ slots) (g2 : slots ≤ 10000) => hGroup_any P c N slots dd mm K W hK hN hP he (by omega) (by omega) hn g1 g2)
  have Hb24 := Lib.hid (Hb2.out.trans (HB4.out.mono Hb2.out.size))
  clear hl4 hL hLm hdd hLo hmk
  go_wp2_with fail
  refine (HMK.out w4 HB4.out).mono ?_
  rintro e w5 ⟨lv, us, rfl, hg, hb5⟩
  obtain ⟨Pl, cl, fl, -, -, -, hPl⟩ := hg.form
  have hul := hg.len
  rw [HLm.out] at hul
  rw [hul] at fl
  subst fl
  have RL := Lib.hid hg.rowC.1
  have HPL := Lib.hid hPl
  have HGL := Lib.hid hg
  have HB5 := Lib.hid (HB4.out.trans (hb5.mono HB4.out.size))
  have Hb5 := Lib.hid (Hb24.out.trans (hb5.mono Hb24.out.size))
  have Hb45 := Lib.hid hb5
  clear hul hg hb5 hPl
  obtain ⟨kk, hkk⟩ : ∃ kk : Nat, (kk : Int) = a5 % 20 := ⟨(a5 % 20).toNat, by omega⟩
  have hk20 : kk < 20 := by omega
  obtain ⟨K1, hK1⟩ : ∃ K1, K1 = kk + 1 := ⟨_, rfl⟩
  have hw1 : IntKind.i64.wrap (1 + (kk : Int)) = (K1 : Int) := by rw [IntWalk.i64_in _ (by omega), hK1]; push_cast; omega
  have hKb : 1 ≤ K1 ∧ K1 ≤ 40 := by omega
  have HKK := Lib.hid hkk
  clear hkk hk20 hK1
  obtain ⟨gm, cm, X3, hrun, hgB, hgm, hbm⟩ := lit_cells HGL.out (by omega) Hb45.out.size
  have Hrun := Lib.hid hrun
  have HGM := Lib.hid hgm
  have Hbm := Lib.hid hbm
  clear hrun hgm hbm
  go_upto_block 0 with (at_builtin; have _t := Hrun; refine wpList_append_eq rfl (.tmp 42) (.tmp 43) 29 rfl _ _ _ _ rfl rfl Hrun.out ?_; clear _t Hrun)
  go_cut [] (fun wy => ∃ ul lk, lk.Perm L ∧ GRs w4.heap.size wy (.slice (some ⟨gm, 0, none⟩) m cm) ul lk ∧ Below w5.heap.size w5 wy)
  case first =>
    go_wp2_with fail
    go_loopw [19] (fun i wk => ∃ j : Nat, j ≤ 40 ∧ j ≤ len6 ∧ i = .int .i64 j ∧ ∃ ul lk, lk.Perm L ∧ GRs w4.heap.size wk (.slice (some ⟨gm, 0, none⟩) m cm) ul lk ∧ Below w5.heap.size w5 wk) (fun i _ => 40 - (intOf i).toNat)
    case atStart => exact ⟨0, by omega, by omega, rfl, us, L, List.Perm.refl _, HGM.out, Hbm.out⟩
    case round =>
      rename World => wk
      obtain ⟨j, hj6, hj1, rfl, ul, lk, hp, hRk, hbk⟩ := hrel
      have Hp := Lib.hid hp
      have HRk := Lib.hid hRk
      have Hbk := Lib.hid hbk
      clear hp hRk hbk HGM Hbm
      by_cases hlt : j < len6 ∧ j < 40 ∧ 0 < m
      · obtain ⟨hl1, hl6, hkp⟩ := hlt
        obtain ⟨yd, y, rfl, hy, ⟨hy1, hy2⟩, hyc⟩ := (N6.out.keep (Keeps.of_below (Hb5.out.trans (Hbk.out.mono Hb5.out.size)))).at_ hl1
        obtain ⟨na, hna⟩ : ∃ na, na = j % m := ⟨_, rfl⟩
        have hna2 : (j : Int).tmod (m : Int) = (na : Int) := by rw [hna]; rfl
        have hnk : na < m := by rw [hna]; exact Nat.mod_lt _ hkp
        obtain ⟨nb, hnb⟩ : ∃ nb : Nat, y % (m : Int) = nb := Int.eq_ofNat_of_zero_le (Int.emod_nonneg y (by omega))
        have hnbk : nb < m := by have := Int.emod_lt_of_pos y (show (0 : Int) < m by omega); omega
        have wb := fun W => HW.out y m W ⟨hy1, hy2⟩ hkp (by omega)
        rw [hnb] at wb
        have Wb := Lib.hid wb
        have hlkl : lk.length = m := by rw [Hp.out.length_eq, HLm.out]
        have hull : m = ul.length := by rw [HRk.out.len, hlkl]
        obtain ⟨x, hx⟩ : ∃ x, lk[na]? = some x := ⟨_, List.getElem?_eq_getElem (by omega)⟩
        obtain ⟨z, hz2⟩ : ∃ z, lk[nb]? = some z := ⟨_, List.getElem?_eq_getElem (by omega)⟩
        have Hx := Lib.hid hx
        have Hz2 := Lib.hid hz2
        have Hull := Lib.hid hull
        have i1 : (0 : Int) ≤ (na : Int) := by omega
        have i2 : (na : Int) < (m : Int) := by omega
        have i3 : (0 : Int) ≤ (nb : Int) := by omega
        have i4 : (nb : Int) < (m : Int) := by omega
        have i5 : (0 : Int) ≤ (j : Int) := by omega
        have i6 : (j : Int) < (len6 : Int) := by omega
        have Hna := Lib.hid hna2
        have hk00 : ¬ m = 0 := by omega
        clear hx hz2 hull hlkl wb hna hnb hy hna2
        go_upto_region 9 with (fail)
        refine wp_region_held_drew (S := fun W => Keeps wk W) (by kernel_rfl) ((Keeps.refl wk).drewN 1) (fun hHeld => ?_)
        refine wpAnyH_take (i := 0) (v := ?vb0) rfl (by kernel_rfl) (by kernel_rfl) (by kernel_rfl) (fun _ _ _ h => h) (Or.inl ⟨by rfl, ?yb0⟩) hHeld ?rb0
        case yb0 => (intro W hW; go_simp; first | done | with_reducible rfl)
        try simp only [List.getElem_toArray, List.getElem_cons_zero, Act.put, List.setIfInBounds_toArray, List.set_cons_zero, List.set_cons_succ]
        refine wpAnyH_take (i := 1) (v := ?vb1) rfl (by kernel_rfl) (by kernel_rfl) (by kernel_rfl) (fun _ _ _ h => h) (Or.inl ⟨by rfl, ?yb1⟩) hHeld ?rb1
        case yb1 => (intro W hW; go_simp; first | done | with_reducible rfl)
        try simp only [List.getElem_toArray, List.getElem_cons_succ, List.getElem_cons_zero, Act.put, List.setIfInBounds_toArray, List.set_cons_zero, List.set_cons_succ]
        refine wpAnyH_take (i := 2) (v := ?vb2) rfl (by kernel_rfl) (by kernel_rfl) (by kernel_rfl) (fun _ _ _ h => h) (Or.inl ⟨by rfl, ?yb2⟩) hHeld ?rb2
        case yb2 => (intro W hW; go_simp; first | done | with_reducible rfl)
        try simp only [List.getElem_toArray, List.getElem_cons_succ, List.getElem_cons_zero, Act.put, List.setIfInBounds_toArray, List.set_cons_zero, List.set_cons_succ]
        refine wpAnyH_take (i := 3) (v := ?vb3) rfl (by kernel_rfl) (by kernel_rfl) (by kernel_rfl) (fun _ _ _ h => h) (Or.inl ⟨by rfl, ?yb3⟩) hHeld ?rb3
        case yb3 => (intro W hW; go_simp; first | done | with_reducible rfl)
        try simp only [List.getElem_toArray, List.getElem_cons_succ, List.getElem_cons_zero, Act.put, List.setIfInBounds_toArray, List.set_cons_zero, List.set_cons_succ]
        refine wpAnyH_take (i := 4) (v := ?vb4) rfl (by kernel_rfl) (by kernel_rfl) (by kernel_rfl) (fun _ _ _ h => h) (Or.inl ⟨by rfl, ?yb4⟩) hHeld ?rb4
        case yb4 => (intro W hW; go_simp; first | done | with_reducible rfl)
        try simp only [List.getElem_toArray, List.getElem_cons_succ, List.getElem_cons_zero, Act.put, List.setIfInBounds_toArray, List.set_cons_zero, List.set_cons_succ]
        refine wpAnyH_take (i := 5) (v := ?vb5) rfl (by kernel_rfl) (by kernel_rfl) (by kernel_rfl) (fun _ _ _ h => h) (Or.inl ⟨by rfl, ?yb5⟩) hHeld ?rb5
        case yb5 => (intro W hW; go_simp; first | done | with_reducible rfl)
        try simp only [List.getElem_toArray, List.getElem_cons_succ, List.getElem_cons_zero, Act.put, List.setIfInBounds_toArray, List.set_cons_zero, List.set_cons_succ]
        refine wpAnyH_take (i := 6) (v := ?vb6) rfl (by kernel_rfl) (by kernel_rfl) (by kernel_rfl) (fun _ _ _ h => h) (Or.inl ⟨by rfl, ?yb6⟩) hHeld ?rb6
        case yb6 => (intro W hW; go_simp; first | done | with_reducible rfl)
        try simp only [List.getElem_toArray, List.getElem_cons_succ, List.getElem_cons_zero, Act.put, List.setIfInBounds_toArray, List.set_cons_zero, List.set_cons_succ]
        refine wpAnyH_take (i := 7) (v := ?vb7) rfl (by kernel_rfl) (by kernel_rfl) (by kernel_rfl) (fun _ _ _ h => h) (Or.inl ⟨by rfl, ?yb7⟩) hHeld ?rb7
        case yb7 => (intro W hW; have h0 := hW _ _ hyc; go_simp; first | done | with_reducible rfl)
        try simp only [List.getElem_toArray, List.getElem_cons_succ, List.getElem_cons_zero, Act.put, List.setIfInBounds_toArray, List.set_cons_zero, List.set_cons_succ]
        refine wpAnyH_take (i := 8) (v := ?vb8) rfl (by kernel_rfl) (by kernel_rfl) (by kernel_rfl) (fun _ _ _ h => h) (Or.inl ⟨by rfl, ?yb8⟩) hHeld ?rb8
        case yb8 => (intro W hW; go_simp; first | done | with_reducible rfl)
        try simp only [List.getElem_toArray, List.getElem_cons_succ, List.getElem_cons_zero, Act.put, List.setIfInBounds_toArray, List.set_cons_zero, List.set_cons_succ]
        refine wpAnyH_take (i := 9) (v := ?vb9) rfl (by kernel_rfl) (by kernel_rfl) (by kernel_rfl) (fun _ _ _ h => h) (Or.inl ⟨by rfl, ?yb9⟩) hHeld ?rb9
        case yb9 => (intro W hW; go_simp; first | done | with_reducible rfl)
        try simp only [List.getElem_toArray, List.getElem_cons_succ, List.getElem_cons_zero, Act.put, List.setIfInBounds_toArray, List.set_cons_zero, List.set_cons_succ]
        refine wpAnyH_ready (rs := [10]) (by kernel_rfl) (by simp) ?_
        refine AllReadyH.cons rfl (fun K hK => ?_) (AllReadyH.nil)
        go_simp
        refine (Wb.out _).mono ?_
        rintro e w8 ⟨rfl, rfl⟩
        refine hK.out _ _ ((Keeps.refl wk).drewN 1) (fun hHeld => ?_)
        clear hK K
        try simp only [List.getElem_toArray, List.getElem_cons_succ, List.getElem_cons_zero, Act.put, List.setIfInBounds_toArray, List.set_cons_zero, List.set_cons_succ]
        refine wpAnyH_take (i := 11) (v := ?vb11) rfl (by kernel_rfl) (by kernel_rfl) (by kernel_rfl) (fun _ _ _ h => h) (Or.inl ⟨by rfl, ?yb11⟩) hHeld ?rb11
        case yb11 => (intro W hW; go_simp; first | done | with_reducible rfl)
        try simp only [List.getElem_toArray, List.getElem_cons_succ, List.getElem_cons_zero, Act.put, List.setIfInBounds_toArray, List.set_cons_zero, List.set_cons_succ]
        refine wpAnyH_take (i := 12) (v := ?vb12) rfl (by kernel_rfl) (by kernel_rfl) (by kernel_rfl) (fun _ _ _ h => h) (Or.inl ⟨by rfl, ?yb12⟩) hHeld ?rb12
        case yb12 => (intro W hW; go_simp; first | done | with_reducible rfl)
        try simp only [List.getElem_toArray, List.getElem_cons_succ, List.getElem_cons_zero, Act.put, List.setIfInBounds_toArray, List.set_cons_zero, List.set_cons_succ]
        refine wpAnyH_done (by kernel_rfl) ?_ _
        rw [Hna.out]
        have hx := Hx.out
        have hz2 := Hz2.out
        have hull := Hull.out
        have hRk := HRk.out
        rw [hull] at hRk
        obtain ⟨⟨pa, pb, pc, pd, pe⟩, ⟨qa, qb, qc, qd, qe⟩, hpo, hqo, ⟨q0, q1, q2, q3, q4⟩, ⟨r0, r1, r2, r3, r4⟩, hf, hu, hsw⟩ := hRk.swap hx hz2
        rw [← hull] at hsw
        obtain ⟨e1, hpc, -⟩ := hpo
        obtain ⟨e2, hqc, -⟩ := hqo
        dsimp only at e1 e2 q0 q1 q2 q3 q4 r0 r1 r2 r3 r4 hpc hqc
        obtain ⟨xc, hxc⟩ : ∃ xc, xc = x.cnt := ⟨_, rfl⟩
        obtain ⟨zc, hzc⟩ : ∃ zc, zc = z.cnt := ⟨_, rfl⟩
        rw [← hxc] at e1
        rw [← hzc] at e2
        subst e1 e2
        obtain ⟨A1, d1, f1, -⟩ := hpc.key.form
        obtain ⟨A2, d2, f2, -⟩ := hpc.sum.form
        obtain ⟨A3, d3, f3, -⟩ := hpc.mn.form
        obtain ⟨A4, d4, f4, -⟩ := hpc.mx.form
        obtain ⟨A5, d5, f5, -⟩ := hqc.key.form
        obtain ⟨A6, d6, f6, -⟩ := hqc.sum.form
        obtain ⟨A7, d7, f7, -⟩ := hqc.mn.form
        obtain ⟨A8, d8, f8, -⟩ := hqc.mx.form
        obtain ⟨n1, hn1⟩ : ∃ n, n = x.key.length := ⟨_, rfl⟩
        obtain ⟨n2, hn2⟩ : ∃ n, n = x.sum.length := ⟨_, rfl⟩
        obtain ⟨n3, hn3⟩ : ∃ n, n = x.mn.length := ⟨_, rfl⟩
        obtain ⟨n4, hn4⟩ : ∃ n, n = x.mx.length := ⟨_, rfl⟩
        obtain ⟨n5, hn5⟩ : ∃ n, n = z.key.length := ⟨_, rfl⟩
        obtain ⟨n6, hn6⟩ : ∃ n, n = z.sum.length := ⟨_, rfl⟩
        obtain ⟨n7, hn7⟩ : ∃ n, n = z.mn.length := ⟨_, rfl⟩
        obtain ⟨n8, hn8⟩ : ∃ n, n = z.mx.length := ⟨_, rfl⟩
        rw [← hn1] at f1
        rw [← hn2] at f2
        rw [← hn3] at f3
        rw [← hn4] at f4
        rw [← hn5] at f5
        rw [← hn6] at f6
        rw [← hn7] at f7
        rw [← hn8] at f8
        subst f1 f2 f3 f4 f5 f6 f7 f8
        have hp2 := (swap_perm hx hz2).trans Hp.out
        have Hp2 := Lib.hid hp2
        have hb4 := setF_bel (a := nb) (q := ⟨.slice A1 n1 d1, .int .i64 xc, .slice A2 n2 d2, .slice A3 n3 d3, .slice A4 n4 d4⟩) (setF_bel (a := na) (q := ⟨.slice A5 n5 d5, .int .i64 zc, .slice A6 n6 d6, .slice A7 n7 d7, .slice A8 n8 d8⟩) Hbk.out hgB) hgB
        simp only [setF] at hsw hb4
        have hfin := swap_fin hp2 hsw hb4
        have Hfin := Lib.hid hfin
        have Hu := Lib.hid hu
        have hf0 := hf (na * 5)
        have hf1 := hf (na * 5 + 1)
        have hf2 := hf (na * 5 + 2)
        have hf3 := hf (na * 5 + 3)
        have hf4 := hf (na * 5 + 4)
        have hf5 := hf (nb * 5)
        have hf6 := hf (nb * 5 + 1)
        have hf7 := hf (nb * 5 + 2)
        have hf8 := hf (nb * 5 + 3)
        have hf9 := hf (nb * 5 + 4)
        clear hfin Hp2 hb4 hu hsw hp2 hf hn1 hn2 hn3 hn4 hn5 hn6 hn7 hn8 hxc hzc hpc hqc hx hz2 hRk hull
        clear Hx Hz2 N6 HW Wb Hna hyc
        go_upto_region 10 with (fail)
        refine wp_region_held_drew (S := fun _ => True) (by kernel_rfl) trivial (fun hHeld => ?_)
        refine wpAnyH_take (i := 0) (v := ?vc0) rfl (by kernel_rfl) (by kernel_rfl) (by kernel_rfl) (fun _ _ _ h => h) (Or.inl ⟨by rfl, ?yc0⟩) hHeld ?rc0
        case yc0 => (intro W hW; go_simp; first | done | with_reducible rfl)
        try simp only [List.getElem_toArray, List.getElem_cons_zero, Act.put, List.setIfInBounds_toArray, List.set_cons_zero, List.set_cons_succ]
        refine wpAnyH_take (i := 1) (v := ?vc1) rfl (by kernel_rfl) (by kernel_rfl) (by kernel_rfl) (fun _ _ _ h => h) (Or.inl ⟨by rfl, ?yc1⟩) hHeld ?rc1
        case yc1 => (intro W hW; go_simp; first | done | with_reducible rfl)
        try simp only [List.getElem_toArray, List.getElem_cons_succ, List.getElem_cons_zero, Act.put, List.setIfInBounds_toArray, List.set_cons_zero, List.set_cons_succ]
        refine wpAnyH_take (i := 2) (v := ?vc2) rfl (by kernel_rfl) (by kernel_rfl) (by kernel_rfl) (fun _ _ _ h => h) (Or.inl ⟨by rfl, ?yc2⟩) hHeld ?rc2
        case yc2 => (intro W hW; go_simp; first | done | with_reducible rfl)
        try simp only [List.getElem_toArray, List.getElem_cons_succ, List.getElem_cons_zero, Act.put, List.setIfInBounds_toArray, List.set_cons_zero, List.set_cons_succ]
        refine wpAnyH_take (i := 3) (v := ?vc3) rfl (by kernel_rfl) (by kernel_rfl) (by kernel_rfl) (fun _ _ _ h => h) (Or.inl ⟨by rfl, ?yc3⟩) hHeld ?rc3
        case yc3 => (intro W hW; go_simp; first | done | with_reducible rfl)
        try simp only [List.getElem_toArray, List.getElem_cons_succ, List.getElem_cons_zero, Act.put, List.setIfInBounds_toArray, List.set_cons_zero, List.set_cons_succ]
        refine wpAnyH_take (i := 4) (v := ?vc4) rfl (by kernel_rfl) (by kernel_rfl) (by kernel_rfl) (fun _ _ _ h => h) (Or.inl ⟨by rfl, ?yc4⟩) hHeld ?rc4
        case yc4 => (intro W hW; go_simp; first | done | with_reducible rfl)
        try simp only [List.getElem_toArray, List.getElem_cons_succ, List.getElem_cons_zero, Act.put, List.setIfInBounds_toArray, List.set_cons_zero, List.set_cons_succ]
        refine wpAnyH_take (i := 5) (v := ?vc5) rfl (by kernel_rfl) (by kernel_rfl) (by kernel_rfl) (fun _ _ _ h => h) (Or.inl ⟨by rfl, ?yc5⟩) hHeld ?rc5
        case yc5 => (intro W hW; go_simp; first | done | with_reducible rfl)
        try simp only [List.getElem_toArray, List.getElem_cons_succ, List.getElem_cons_zero, Act.put, List.setIfInBounds_toArray, List.set_cons_zero, List.set_cons_succ]
        refine wpAnyH_take (i := 6) (v := ?vc6) rfl (by kernel_rfl) (by kernel_rfl) (by kernel_rfl) (fun _ _ _ h => h) (Or.inl ⟨by rfl, ?yc6⟩) hHeld ?rc6
        case yc6 => (intro W hW; go_simp; first | done | with_reducible rfl)
        try simp only [List.getElem_toArray, List.getElem_cons_succ, List.getElem_cons_zero, Act.put, List.setIfInBounds_toArray, List.set_cons_zero, List.set_cons_succ]
        refine wpAnyH_take (i := 8) (v := ?vc8) rfl (by kernel_rfl) (by kernel_rfl) (by kernel_rfl) (fun _ _ _ h => h) (Or.inl ⟨by rfl, ?yc8⟩) hHeld ?rc8
        case yc8 => (intro W hW; go_simp; first | done | with_reducible rfl)
        try simp only [List.getElem_toArray, List.getElem_cons_succ, List.getElem_cons_zero, Act.put, List.setIfInBounds_toArray, List.set_cons_zero, List.set_cons_succ]
        refine wpAnyH_take (i := 9) (v := ?vc9) rfl (by kernel_rfl) (by kernel_rfl) (by kernel_rfl) (fun _ _ _ h => h) (Or.inl ⟨by rfl, ?yc9⟩) hHeld ?rc9
        case yc9 => (intro W hW; go_simp; first | done | with_reducible rfl)
        try simp only [List.getElem_toArray, List.getElem_cons_succ, List.getElem_cons_zero, Act.put, List.setIfInBounds_toArray, List.set_cons_zero, List.set_cons_succ]
        refine wpAnyH_take (i := 10) (v := ?vc10) rfl (by kernel_rfl) (by kernel_rfl) (by kernel_rfl) (fun _ _ _ h => h) (Or.inl ⟨by rfl, ?yc10⟩) hHeld ?rc10
        case yc10 => (intro W hW; go_simp; first | done | with_reducible rfl)
        try simp only [List.getElem_toArray, List.getElem_cons_succ, List.getElem_cons_zero, Act.put, List.setIfInBounds_toArray, List.set_cons_zero, List.set_cons_succ]
        refine wpAnyH_ready (rs := [7, 11]) (by kernel_rfl) (by simp) ?_
        refine AllReadyH.cons rfl (fun K hK => ?_) (AllReadyH.cons rfl (fun K hK => ?_) AllReadyH.nil)
        · go_simp
          refine hK.out _ _ trivial (fun hHeld => ?_)
          clear hK K
          try simp only [List.getElem_toArray, List.getElem_cons_succ, List.getElem_cons_zero, Act.put, List.setIfInBounds_toArray, List.set_cons_zero, List.set_cons_succ]
          refine wpAnyH_ready (rs := [11]) (by kernel_rfl) (by simp) ?_
          refine AllReadyH.cons rfl (fun K hK => ?_) AllReadyH.nil
          go_simp
          refine hK.out _ _ trivial (fun hHeld => ?_)
          clear hK K
          try simp only [List.getElem_toArray, List.getElem_cons_succ, List.getElem_cons_zero, Act.put, List.setIfInBounds_toArray, List.set_cons_zero, List.set_cons_succ]
          refine wpAnyH_take (i := 12) (v := ?vd12) rfl (by kernel_rfl) (by kernel_rfl) (by kernel_rfl) (fun _ _ _ h => h) (Or.inl ⟨by rfl, ?yd12⟩) hHeld ?rd12
          case yd12 => (intro W hW; go_simp; first | done | with_reducible rfl)
          try simp only [List.getElem_toArray, List.getElem_cons_succ, List.getElem_cons_zero, Act.put, List.setIfInBounds_toArray, List.set_cons_zero, List.set_cons_succ]
          refine wpAnyH_ready (rs := [13]) (by kernel_rfl) (by simp) ?_
          refine AllReadyH.cons rfl (fun K hK => ?_) AllReadyH.nil
          go_simp
          refine hK.out _ _ trivial (fun hHeld => ?_)
          clear hK K
          try simp only [List.getElem_toArray, List.getElem_cons_succ, List.getElem_cons_zero, Act.put, List.setIfInBounds_toArray, List.set_cons_zero, List.set_cons_succ]
          refine wpAnyH_take (i := 14) (v := ?vd14) rfl (by kernel_rfl) (by kernel_rfl) (by kernel_rfl) (fun _ _ _ h => h) (Or.inl ⟨by rfl, ?yd14⟩) hHeld ?rd14
          case yd14 => (intro W hW; go_simp; first | done | with_reducible rfl)
          try simp only [List.getElem_toArray, List.getElem_cons_succ, List.getElem_cons_zero, Act.put, List.setIfInBounds_toArray, List.set_cons_zero, List.set_cons_succ]
          obtain ⟨⟨u0, hu0⟩, ⟨u1, hu1⟩, ⟨u2, hu2⟩, ⟨u3, hu3⟩, ⟨u4, hu4⟩⟩ := Hu.out
          dsimp only at hu0 hu1 hu2 hu3 hu4
          refine wpAnyH_ready (rs := [15]) (by kernel_rfl) (by simp) ?_
          refine AllReadyH.cons rfl (fun K hK => ?_) AllReadyH.nil
          go_simp
          refine hK.out _ _ trivial (fun hHeld => ?_)
          clear hK K
          try simp only [List.getElem_toArray, List.getElem_cons_succ, List.getElem_cons_zero, Act.put, List.setIfInBounds_toArray, List.set_cons_zero, List.set_cons_succ]
          refine wpAnyH_done (by kernel_rfl) ?_ _
          go_wp2
          clear hu0 hu1 hu2 hu3 hu4 hf0 hf1 hf2 hf3 hf4 hf5 hf6 hf7 hf8 hf9 q0 q1 q2 q3 q4 r0 r1 r2 r3 r4
          refine ⟨⟨j + 1, ?_, ?_, ?_, Hfin.out⟩, ?_⟩
          · omega
          · omega
          · go_num
          · simp [intOf]; omega
        · go_simp
          refine hK.out _ _ trivial (fun hHeld => ?_)
          clear hK K
          try simp only [List.getElem_toArray, List.getElem_cons_succ, List.getElem_cons_zero, Act.put, List.setIfInBounds_toArray, List.set_cons_zero, List.set_cons_succ]
          refine wpAnyH_ready (rs := [7]) (by kernel_rfl) (by simp) ?_
          refine AllReadyH.cons rfl (fun K hK => ?_) AllReadyH.nil
          go_simp
          refine hK.out _ _ trivial (fun hHeld => ?_)
          clear hK K
          try simp only [List.getElem_toArray, List.getElem_cons_succ, List.getElem_cons_zero, Act.put, List.setIfInBounds_toArray, List.set_cons_zero, List.set_cons_succ]
          refine wpAnyH_take (i := 12) (v := ?ve12) rfl (by kernel_rfl) (by kernel_rfl) (by kernel_rfl) (fun _ _ _ h => h) (Or.inl ⟨by rfl, ?ye12⟩) hHeld ?re12
          case ye12 => (intro W hW; go_simp; first | done | with_reducible rfl)
          try simp only [List.getElem_toArray, List.getElem_cons_succ, List.getElem_cons_zero, Act.put, List.setIfInBounds_toArray, List.set_cons_zero, List.set_cons_succ]
          refine wpAnyH_ready (rs := [13]) (by kernel_rfl) (by simp) ?_
          refine AllReadyH.cons rfl (fun K hK => ?_) AllReadyH.nil
          go_simp
          refine hK.out _ _ trivial (fun hHeld => ?_)
          clear hK K
          try simp only [List.getElem_toArray, List.getElem_cons_succ, List.getElem_cons_zero, Act.put, List.setIfInBounds_toArray, List.set_cons_zero, List.set_cons_succ]
          refine wpAnyH_take (i := 14) (v := ?ve14) rfl (by kernel_rfl) (by kernel_rfl) (by kernel_rfl) (fun _ _ _ h => h) (Or.inl ⟨by rfl, ?ye14⟩) hHeld ?re14
          case ye14 => (intro W hW; go_simp; first | done | with_reducible rfl)
          try simp only [List.getElem_toArray, List.getElem_cons_succ, List.getElem_cons_zero, Act.put, List.setIfInBounds_toArray, List.set_cons_zero, List.set_cons_succ]
          obtain ⟨⟨u0, hu0⟩, ⟨u1, hu1⟩, ⟨u2, hu2⟩, ⟨u3, hu3⟩, ⟨u4, hu4⟩⟩ := Hu.out
          dsimp only at hu0 hu1 hu2 hu3 hu4
          refine wpAnyH_ready (rs := [15]) (by kernel_rfl) (by simp) ?_
          refine AllReadyH.cons rfl (fun K hK => ?_) AllReadyH.nil
          go_simp
          refine hK.out _ _ trivial (fun hHeld => ?_)
          clear hK K
          try simp only [List.getElem_toArray, List.getElem_cons_succ, List.getElem_cons_zero, Act.put, List.setIfInBounds_toArray, List.set_cons_zero, List.set_cons_succ]
          refine wpAnyH_done (by kernel_rfl) ?_ _
          go_wp2
          clear hu0 hu1 hu2 hu3 hu4 hf0 hf1 hf2 hf3 hf4 hf5 hf6 hf7 hf8 hf9 q0 q1 q2 q3 q4 r0 r1 r2 r3 r4
          refine ⟨⟨j + 1, ?_, ?_, ?_, Hfin.out⟩, ?_⟩
          · omega
          · omega
          · go_num
          · simp [intOf]; omega
      · have fin : ∃ ul lk, lk.Perm L ∧ GRs w4.heap.size wk (.slice (some ⟨gm, 0, none⟩) m cm) ul lk ∧ Below w5.heap.size w5 wk := ⟨ul, lk, Hp.out, HRk.out, Hbk.out⟩
        have Fin := Lib.hid fin
        have hout : ¬ j < len6 ∨ (j < len6 ∧ ¬ j < 40) ∨ (j < len6 ∧ j < 40 ∧ ¬ 0 < m) := by omega
        clear fin hlt
        rcases hout with h | ⟨h, h'⟩ | ⟨h, h', h''⟩
        all_goals
          go_wp2
          go_meet
          exact Fin.out
  case rest =>
    obtain ⟨ul, lk, hp, hRk, hbk⟩ := hcut
    rename World => wy
    have hlkl : m = lk.length := by rw [hp.length_eq, HLm.out]
    have rm := hRk.rowC.1
    have hok : OkL dd mm lk := fun x hx => HLo.out x (hp.mem_iff.1 hx)
    have hpe : (partsP K1 dd 0 lk).length = (partsP K1 dd 0 L).length := by rw [parts_perm K1 dd 0 lk L hp]
    have hge : grpR lk = grpR L := grpR_perm hp
    obtain ⟨NP, hNP⟩ : ∃ NP, NP = (partsP K1 dd 0 L).length := ⟨_, rfl⟩
    obtain ⟨NG, hNG⟩ : ∃ NG, NG = (grpR L).length := ⟨_, rfl⟩
    have hNm : NG ≤ 40 := by have := grp_len_le L; have := HLm.out; omega
    have hpp : ((NP : Int) == (NP : Int)) = true := by simp
    have HNP := Lib.hid hNP
    have HNG := Lib.hid hNG
    have RM := Lib.hid rm
    have HLKL := Lib.hid hlkl
    have HOK := Lib.hid hok
    have HPE := Lib.hid hpe
    have HGE := Lib.hid hge
    have Hbk := Lib.hid hbk
    have H5k := Lib.hid (Hb5.out.trans (hbk.mono Hb5.out.size))
    clear hp hRk hbk hlkl rm hok hpe hge hNP hNG HGM Hbm N6
    go_wp2_with fail
    refine (HWS.out a5 20 wy h5 (by omega) (by omega)).mono ?_
    rintro e w' ⟨rfl, rfl⟩
    rename World => wy
    rw [← HKK.out]
    have hg1 := GRP.out Pl cl m K1 L wy (RL.out.keep (Keeps.of_below Hbk.out)) HLm.out.symm HPL.out HLo.out (by omega) hKb.1 (by omega)
    rw [← HNP.out] at hg1
    have HG1 := Lib.hid hg1
    clear hg1
    go_wp2_with fail
    refine HG1.out.mono ?_
    rintro e w7 ⟨v1, u1, rfl, g1, b1⟩
    obtain ⟨P1, c1, f1, -⟩ := g1.form
    have l1 : u1.length = NG := by rw [g1.len, HNG.out]
    rw [l1] at f1
    subst f1
    have R1 := Lib.hid g1.rowC.1
    have B1 := Lib.hid b1
    have hg2 := GRP.out (some ⟨gm, 0, none⟩) cm m K1 lk w7 (RM.out.keep (Keeps.of_below b1)) HLKL.out (fun h => by cases h) HOK.out (by omega) hKb.1 (by omega)
    rw [HPE.out, HGE.out, ← HNP.out] at hg2
    have HG2 := Lib.hid hg2
    clear hg2 g1 b1 l1 HG1
    go_wp2_with fail
    refine HG2.out.mono ?_
    rintro e w8 ⟨v2, u2, rfl, g2, b2⟩
    obtain ⟨P2, c2, f2, -⟩ := g2.form
    have l2 : u2.length = NG := by rw [g2.len, HNG.out]
    rw [l2] at f2
    subst f2
    have R2 := Lib.hid g2.rowC.1
    have hfew : FewC (grpR L) := by
      have ho : OkL dd mm (grpR L) := grp_okL HLo.out
      exact ho.few (by omega) (by omega)
    have HSM := Lib.hid (same_yes P1 P2 NG c1 c2 (grpR L) w8 (R1.out.keep (Keeps.of_below b2)) R2.out HNG.out hfew (by omega))
    have B2 := Lib.hid (H5k.out.trans ((B1.out.trans (b2.mono B1.out.size)).mono H5k.out.size))
    clear g2 b2 l2 HG2 hfew
    go_wp2_with fail
    refine HSM.out.mono ?_
    rintro e w9 ⟨rfl, b9⟩
    have B9 := Lib.hid (B2.out.trans (b9.mono B2.out.size))
    clear b9 HSM
    go_wp2
    go_ret
    exact ⟨rfl, B9.out⟩
end Go.Proofs.Ytgjcbbpmcojcoaa
