/- The walk of the law RecApart: the Go text returns true, and writes nothing that was there. -/
import Derived.Test.YtbjlbambheogbaaGood
import Derived.Test.YtbjlbambheogbaaApartPure
import Derived.Test.YtbjlbambheogbaaRefEncode
import Derived.Test.YtbjlbambheogbaaRegion
import Derived.Deep.CutRange
import Derived.Deep.DeepCutAuto
import Derived.IntWalk
namespace Go.Proofs.Ytbjlbambheogbaa
open Go.RowKit
/-- A schema's box, its cards, its rows as they read. -/
structure Lie (W : World) (S : Nat) (A : Option Addr) (q c mm : Nat) (cs : List Int) (D : Option Addr) (m : Nat) (l : List Fact) : Prop where
  box : Box2 24 W S (.slice A q c) (.int .i64 mm)
  nums : Nums .i64 W A q cs
  facts : Facts W D m l
theorem Lie.below {W W' : World} {S : Nat} {A : Option Addr} {q c mm : Nat} {cs : List Int} {D : Option Addr} {m : Nat} {l : List Fact} (h : Lie W S A q c mm cs D m l) (hb : Below W.heap.size W W') : Lie W' S A q c mm cs D m l :=
  ⟨h.box.below hb h.box.lt, h.nums.keep (Keeps.of_below hb), h.facts.keep (Keeps.of_below hb)⟩
theorem FR.lie {dims : Int} {cards : List Int} {me : Int} {ns : List Int} {w w' : World} {A : Option Addr} {c : Nat} {D : Option Addr} {d C q mm m : Nat} {cs : List Int} {l : List Fact} (h : FR dims cards me ns w w' A c D d C q mm m cs l) :
    Lie (w'.alloc (.cells #[.slice A q c, .int .i64 mm] 24)) w'.heap.size A q c mm cs D m l := by
  have hb := (Below.refl w'.heap.size w').alloc (Nat.le_refl _) (.cells #[.slice A q c, .int .i64 mm] 24)
  exact ⟨Box2.new _ _ _ _, h.nums.keep (Keeps.of_below hb), h.facts.keep (Keeps.of_below hb)⟩
theorem lie_of {W : World} {T b C q c mm d m : Nat} {A D : Option Addr} {cs : List Int} {l : List Fact} (hb : Box2 24 W T (.slice A q c) (.int .i64 mm)) (ho : W.ownsRow b 3 1 (.slice A q c) q (ints cs)) (hc : cs.length = q)
    (hR : RowsX W C (.slice D m d) l) (hm : l.length = m) (hG : Good cs mm l) : Lie W T A q c mm cs D m l := by
  obtain ⟨h1, h2⟩ := allRightB_spec hG.right
  have k5 := (checkB_spec h1).2.2.2.2
  subst hc hm
  obtain ⟨A', c', e1, _, _, n⟩ := own_nums ho (fun x hx => by have := k5 x hx; simp only [inK]; omega)
  injection e1 with e1
  subst e1
  obtain ⟨D', d', e2, _, _, f⟩ := hR.rows.facts hG.small
  injection e2 with e2
  subst e2
  exact ⟨hb, n, f⟩
theorem tdiv50_bd {k : Int} (h : inK .i64 k) : inK .i64 (k.tdiv 50) := by
  simp only [inK] at h ⊢
  rw [Int.tdiv_eq_ediv, show Int.sign 50 = 1 from rfl]
  split <;> omega
set_option maxRecDepth 100000 in
set_option maxHeartbeats 8000000 in
theorem apart_walk (a0 : Int) (a1 : Option Addr) (len1 cap1 : Nat) (z1 : List Int) (a2 : Int) (a3 : Option Addr) (len3 cap3 : Nat) (z3 : List Int) (a4 : Option Addr) (len4 cap4 : Nat) (z4 : List Int) (a5 : Bool) (a6 : Int) (w : World) (h0 : inK .i64 a0) (w1 : IsRow .i64 w a1 len1 cap1 z1) (h2 : inK .i64 a2) (w3 : IsRow .i64 w a3 len3 cap3 z3) (w4 : IsRow .i64 w a4 len4 cap4 z4) (h6 : inK .i64 a6) :
    Calls Try.prog 10 #[.int .i64 a0, .slice a1 len1 cap1, .int .i64 a2, .slice a3 len3 cap3, .slice a4 len4 cap4, .bool a5, .int .i64 a6] w fun e w' => e = .returned (.bool true) ∧ Below w.heap.size w w' := by
  obtain ⟨n1, lc1, cm1⟩ := w1.nums
  obtain ⟨n3, lc3, cm3⟩ := w3.nums
  obtain ⟨n4, lc4, cm4⟩ := w4.nums
  have N1 := Lib.hid n1
  have N3 := Lib.hid n3
  have N4 := Lib.hid n4
  clear w1 w3 w4 n1 n3 n4
  go_enter Try.func10, Try.ntmps10
  go_wp2_with fail
  refine (known_any w).mono ?_
  rintro e w1 ⟨rfl, hb1⟩
  have Hb1 := Lib.hid hb1
  clear hb1
  go_wp2_with fail
  refine (Facts_res a0 a2 a1 a3 len1 cap1 len3 cap3 _ _ w1 (N1.out.keep (Keeps.of_below Hb1.out)) (N3.out.keep (Keeps.of_below Hb1.out)) (by omega) (by omega) h0 h2).mono ?_
  rintro e w2 ⟨A, c, D, d, C, q, mm, m, cs, l, rfl, hF⟩
  have F := Lib.hid hF
  obtain ⟨k1, k2, k3, k4⟩ : 1 ≤ q ∧ q ≤ 4 ∧ mm ≤ 2 ∧ m ≤ 40 := ⟨hF.q1, hF.q4, hF.m2, hF.m40⟩
  have L1 := Lib.hid hF.lie
  have hx : Below w.heap.size w (w2.alloc (.cells #[.slice A q c, .int .i64 mm] 24)) := by
    have h1 := Hb1.out.trans (hF.below.mono Hb1.out.size)
    exact h1.alloc h1.size _
  have HX := Lib.hid hx
  obtain ⟨S, hS⟩ : ∃ S, S = w2.heap.size := ⟨_, rfl⟩
  have HS := Lib.hid hS
  clear hF hx hS
  go_wp2_with fail
  rw [← HS.out] at L1 ⊢
  generalize w2.alloc _ = w3 at L1 HX ⊢
  clear HS
  refine (Facts_res a0 a2 a1 a4 len1 cap1 len4 cap4 _ _ w3 (N1.out.keep (Keeps.of_below HX.out)) (N4.out.keep (Keeps.of_below HX.out)) (by omega) (by omega) h0 h2).mono ?_
  rintro e w4 ⟨A2, c2, D2, d2, C2, q2, mm2, m2, cs2, l2, rfl, hF⟩
  have F2 := Lib.hid hF
  obtain ⟨j1, j2, j3, j4⟩ : 1 ≤ q2 ∧ q2 ≤ 4 ∧ mm2 ≤ 2 ∧ m2 ≤ 40 := ⟨hF.q1, hF.q4, hF.m2, hF.m40⟩
  have L2 := Lib.hid hF.lie
  have hx : Below w3.heap.size w3 (w4.alloc (.cells #[.slice A2 q2 c2, .int .i64 mm2] 24)) := hF.below.alloc hF.below.size _
  have HY := Lib.hid hx
  obtain ⟨T, hT⟩ : ∃ T, T = w4.heap.size := ⟨_, rfl⟩
  have hTl : w3.heap.size ≤ T := by rw [hT]; exact hF.below.size
  have hTz : T < (w4.alloc (.cells #[.slice A2 q2 c2, .int .i64 mm2] 24)).heap.size := by simp [hT]
  have HT := Lib.hid hT
  clear hF hx hT
  go_upto_if 38 with (fail)
  rw [← HT.out] at L2 ⊢
  generalize w4.alloc _ = w5 at L2 HY hTz ⊢
  clear HT
  go_cut [18] from 39 to 66 (fun s wx => ∃ A2 q2 c2 mm2 cs2 D2 m2 d2 l2, s = .slice D2 m2 d2 ∧ m2 ≤ 40 ∧ l2.length = m2 ∧ cs2.length = q2 ∧ Good cs2 mm2 l2 ∧ Lie wx T A2 q2 c2 mm2 cs2 D2 m2 l2 ∧ Below w3.heap.size w3 wx)
  case first =>
    cases a5 with
    | false =>
      have fin : ∃ A' q' c' mm' cs' D' m' d' l', (Value.slice D2 m2 d2) = .slice D' m' d' ∧ m' ≤ 40 ∧ l'.length = m' ∧ cs'.length = q' ∧ Good cs' mm' l' ∧ Lie w5 T A' q' c' mm' cs' D' m' l' ∧ Below w3.heap.size w3 w5 := ⟨_, _, _, _, _, _, _, _, _, rfl, j4, F2.out.em, F2.out.eq, F2.out.good, L2.out, HY.out⟩
      have Fin := Lib.hid fin
      clear fin
      go_wp2
      go_meet
      exact Fin.out
    | true =>
      go_wp2_with fail
      refine (Facts_res a0 a2 a1 a3 len1 cap1 len3 cap3 _ _ w5 (N1.out.keep (Keeps.of_below (HX.out.trans (HY.out.mono HX.out.size)))) (N3.out.keep (Keeps.of_below (HX.out.trans (HY.out.mono HX.out.size)))) (by omega) (by omega) h0 h2).mono ?_
      rintro e w6 ⟨A3, c3, D3, d3, C3, q3, mm3, m3, cs3, l3, rfl, hF⟩
      obtain ⟨i1, i2, i3, i4⟩ : 1 ≤ q3 ∧ q3 ≤ 4 ∧ mm3 ≤ 2 ∧ m3 ≤ 40 := ⟨hF.q1, hF.q4, hF.m2, hF.m40⟩
      have b6 := L2.out.box.below hF.below hTz
      have hTC : T < C3 := Nat.lt_of_lt_of_le hTz hF.wC
      have t0 := b6.cell0
      have t1 := b6.cell1
      have f0 := b6.frozen 0
      have f1 := b6.frozen 1
      have hon : Only T w6 ((w6.setCell ⟨T, 0, none⟩ (.slice A3 q3 c3)).setCell ⟨T, 1, none⟩ (.int .i64 mm3)) := ((Only.refl T w6).setCell 0 _).setCell 1 _
      have b7 : Box2 24 ((w6.setCell ⟨T, 0, none⟩ (.slice A3 q3 c3)).setCell ⟨T, 1, none⟩ (.int .i64 mm3)) T (.slice A3 q3 c3) (.int .i64 mm3) := (b6.set0 _).set1 _
      have o7 := own_only hF.own hon hTz
      have r7 := hF.rows.only hon hTC
      have z7 : Below w3.heap.size w3 ((w6.setCell ⟨T, 0, none⟩ (.slice A3 q3 c3)).setCell ⟨T, 1, none⟩ (.int .i64 mm3)) := (HY.out.trans (hF.below.mono HY.out.size)).trans (hon.below hTl (Nat.le_trans HY.out.size hF.below.size))
      have F3 := Lib.hid hF
      have Hb7 := Lib.hid b7
      have O7 := Lib.hid o7
      have R7 := Lib.hid r7
      have Z7 := Lib.hid z7
      have hw3C : w3.heap.size ≤ C3 := Nat.le_trans HY.out.size hF.wC
      clear hF b6 hon b7 o7 r7 z7 F F2
      by_cases hm3 : 0 < m3
      · go_upto_region 8 with (fail)
        generalize (w6.setCell _ _).setCell _ _ = w7 at Hb7 O7 R7 Z7 ⊢
        obtain ⟨j, hj⟩ : ∃ j : Nat, a6 % (m3 : Int) = j := Int.eq_ofNat_of_zero_le (Int.emod_nonneg a6 (by omega))
        have hjm : j < m3 := by have := Int.emod_lt_of_pos a6 (show (0 : Int) < m3 by omega); omega
        have wj := fun W => lwithin a6 m3 W h6 (by omega) (by omega)
        rw [hj] at wj
        have Wj := Lib.hid wj
        obtain ⟨r, hr⟩ : ∃ r, l3[j]? = some r := ⟨_, List.getElem?_eq_getElem (by rw [F3.out.em]; exact hjm)⟩
        have hrl := F3.out.lens r (List.mem_of_getElem? hr)
        obtain ⟨gl, cl, kv, mv, hv, hglC, hck, hcm, hok, hom⟩ := R7.out.at_ hr
        rw [F3.out.em] at hv
        injection hv with hv1 _ hv3
        subst hv1
        subst hv3
        have hj0 : (0 : Int) ≤ (j : Int) := by omega
        have hj1 : (j : Int) < (m3 : Int) := by omega
        have hck2 : w7.cell? ⟨gl, j * 2, none⟩ = some kv := hck
        obtain ⟨Ak, ck, ek, _, _, gk⟩ := own_form hok
        obtain ⟨Am, cm, em, -⟩ := own_form hom
        obtain ⟨g, rfl, hgC, hgc⟩ := gk (by omega)
        rw [hrl.1] at ek
        rw [hrl.2] at em
        subst ek
        subst em
        obtain ⟨Ac, cc, ec, _, _, gc⟩ := own_form O7.out
        obtain ⟨gq, hgq, hgqB, hgqc⟩ := gc (by omega)
        injection ec with ec
        subst ec
        subst hgq
        obtain ⟨x0, hx0⟩ : ∃ x0, cs3[0]? = some x0 := ⟨_, List.getElem?_eq_getElem (by rw [F3.out.eq]; omega)⟩
        have hx16 := F3.out.c16 x0 (List.mem_of_getElem? hx0)
        have hcq := hgqc 0 (.int .i64 x0) (by simp [ints, hx0])
        have hgqC : gq < C3 := F3.out.cC gq (by simp [blk, Value.ownBlock])
        obtain ⟨y, hy⟩ : ∃ y, y = a6.tdiv 50 := ⟨_, rfl⟩
        have hy2 : inK .i64 y := by rw [hy]; exact tdiv50_bd h6
        have hyv : 0 ≤ y % x0 ∧ y % x0 < x0 := ⟨Int.emod_nonneg _ (by omega), Int.emod_lt_of_pos _ (by omega)⟩
        have wy := fun W => lwithin y x0 W hy2 (by omega) (by omega)
        have wy2 : ∀ W, Calls Try.prog 21 #[.int .i64 (IntKind.i64.wrap (a6.tdiv 50)), .int .i64 x0] W fun e w' => e = .returned (.int .i64 (y % x0)) ∧ W = w' := by rw [← hy, show IntKind.i64.wrap y = y from IntWalk.i64_in _ hy2]; exact wy
        have Wy := Lib.hid wy2
        obtain ⟨hq1, hq2⟩ : -9223372036854775808 ≤ a6.tdiv 50 ∧ a6.tdiv 50 ≤ 9223372036854775807 := by rw [← hy]; exact hy2
        have Hy2 := Lib.hid hy2
        have Hr := Lib.hid hr
        have Hrl := Lib.hid hrl
        have Hx0 := Lib.hid hx0
        have Hyv := Lib.hid hyv
        have hg7 : g < w7.heap.size := (own_blk hok g (by simp [blk, Value.ownBlock])).2
        clear hy hy2 wy wy2 wj hj hr hrl hok hom gk gc hgqc hgc hx0 hyv
        go_wp2_with (go_at_call 21; refine (Wj.out _).mono ?_; rintro e w2 ⟨rfl, rfl⟩)
        obtain ⟨R, hR⟩ : ∃ R, R = w7.heap.size := ⟨_, rfl⟩
        have b8 : Box2 33 (w7.alloc (.cells #[.slice (some ⟨g, 0, none⟩) q3 ck, .slice Am mm3 cm] 33)) R (.slice (some ⟨g, 0, none⟩) q3 ck) (.slice Am mm3 cm) := heap_new _ _ R hR
        have hb8 := (Below.refl w7.heap.size w7).alloc (Nat.le_refl _) (.cells #[.slice (some ⟨g, 0, none⟩) q3 ck, .slice Am mm3 cm] 33)
        rw [← hR]
        have gl7 : gq < w7.heap.size ∧ T < w7.heap.size := ⟨(own_blk O7.out gq (by simp [blk, Value.ownBlock])).2, Hb7.out.lt⟩
        have B8 := Lib.hid b8
        have O8 := Lib.hid (own_below O7.out hb8 (Nat.le_refl _))
        have R8 := Lib.hid (R7.out.below hb8 (Nat.le_refl _))
        have T8 := Lib.hid (Hb7.out.below hb8 gl7.2)
        have q8 := hb8.cell (p := ⟨gq, 0, none⟩) gl7.1
        have Z8 := Lib.hid (Z7.out.trans (hb8.mono Z7.out.size))
        rw [hcq] at q8
        have k8 := hb8.cell (p := ⟨gl, j * 2, none⟩) (block_lt hck)
        rw [hck] at k8
        have hgR : g < R := by rw [hR]; exact hg7
        clear b8 hb8 hck hcm hck2 hcq hR
        generalize w7.alloc _ = w8 at B8 O8 R8 T8 q8 k8 Z8 ⊢
        obtain ⟨gl2, cl2, g2, dd2, hv, hc2, hf, ⟨yy, hyy⟩, hgC2, hX'⟩ := R8.out.set_key Hr.out (j := 0) (by rw [Hrl.out.1]; omega) (y % x0)
        injection hv with hv1 hv2 hv3
        clear hv2 hv3
        injection hv1 with hv1
        injection hv1 with hv1
        subst hv1
        rw [k8] at hc2
        injection hc2 with hc2
        injection hc2 with hc2 hc3 hc4
        clear hc3 hc4
        injection hc2 with hc2
        injection hc2 with hc2
        subst hc2
        have hq30 : 0 < q3 := by omega
        have e1 := B8.out.cell0
        have e2 := T8.out.cell0
        have hgw3 : w3.heap.size ≤ g := by omega
        have hgT : g ≠ T := by omega
        have hgq : g ≠ gq := by omega
        have hgr : g ≠ R := by omega
        have hon := only_setCell g w8 0 (.int .i64 (y % x0))
        have e1' := (B8.out.only hon (Ne.symm hgr)).cell0
        have e2' := (T8.out.only hon (Ne.symm hgT)).cell0
        have e3' : (w8.setCell ⟨g, 0, none⟩ (.int .i64 (y % x0))).cell? ⟨gq, 0, none⟩ = some (.int .i64 x0) := by
          have h := own_far O8.out (g := g) (fun hx => by simp [blk, Value.ownBlock] at hx; omega) 0 (.int .i64 (y % x0))
          rw [World.ownsRow.cellAt h 0 (by omega)]
          simp [ints, Hx0.out]
        have fin : ∃ A' q' c' mm' cs' D' m' d' l', (Value.slice (some ⟨gl, 0, none⟩) m3 d3) = .slice D' m' d' ∧ m' ≤ 40 ∧ l'.length = m' ∧ cs'.length = q' ∧ Good cs' mm' l' ∧ Lie (w8.setCell ⟨g, 0, none⟩ (.int .i64 (y % x0))).drew T A' q' c' mm' cs' D' m' l' ∧ Below w3.heap.size w3 (w8.setCell ⟨g, 0, none⟩ (.int .i64 (y % x0))).drew := by
          have hG := F3.out.good.set_key Hr.out Hx0.out Hyv.out
          refine ⟨some ⟨gq, 0, none⟩, q3, c3, mm3, cs3, _, _, _, _, rfl, i4, by rw [List.length_set]; exact F3.out.em, F3.out.eq, hG, ?_, below_drewN (Z8.out.setCell (by exact hgw3) _) 1⟩
          have hb0 := T8.out.only hon (Ne.symm hgT)
          exact lie_of (W := (w8.setCell ⟨g, 0, none⟩ (.int .i64 (y % x0))).drew) hb0 (show (w8.setCell ⟨g, 0, none⟩ (.int .i64 (y % x0))).drew.ownsRow _ _ _ _ _ _ from own_far O8.out (g := g) (fun hx => by simp [blk, Value.ownBlock] at hx; omega) 0 _) F3.out.eq hX' (by rw [List.length_set]; exact F3.out.em) hG
        have Fin := Lib.hid fin
        clear fin hX' hon hgT hgq hgr hgR k8
        refine wp_region_held_drew (S := fun W => W.cell? ⟨R, 0, none⟩ = some (.slice (some ⟨g, 0, none⟩) q3 ck) ∧ W.cell? ⟨T, 0, none⟩ = some (.slice (some ⟨gq, 0, none⟩) q3 c3) ∧ W.cell? ⟨gq, 0, none⟩ = some (.int .i64 x0)) (by kernel_rfl) ⟨e1, e2, q8⟩ (fun hHeld => ?_)
        refine wpAnyH_take (i := 0) (v := ?v0) rfl (by kernel_rfl) (by kernel_rfl) (by kernel_rfl) (fun _ _ _ h => h) (Or.inl ⟨by rfl, ?y0⟩) hHeld ?r0
        case y0 => (intro W hW; go_simp; first | done | with_reducible rfl)
        try simp only [List.getElem_toArray, List.getElem_cons_zero, Act.put, List.setIfInBounds_toArray, List.set_cons_zero, List.set_cons_succ]
        refine wpAnyH_take (i := 2) (v := ?v2) rfl (by kernel_rfl) (by kernel_rfl) (by kernel_rfl) (fun _ _ _ h => h) (Or.inl ⟨by rfl, ?y2⟩) hHeld ?r2
        case y2 => (intro W hW; go_simp; first | done | with_reducible rfl)
        try simp only [List.getElem_toArray, List.getElem_cons_succ, List.getElem_cons_zero, Act.put, List.setIfInBounds_toArray, List.set_cons_zero, List.set_cons_succ]
        refine wpAnyH_take (i := 4) (v := ?v4) rfl (by kernel_rfl) (by kernel_rfl) (by kernel_rfl) (fun _ _ _ h => h) (Or.inl ⟨by rfl, ?y4⟩) hHeld ?r4
        case y4 => (intro W hW; go_simp; first | done | with_reducible rfl)
        try simp only [List.getElem_toArray, List.getElem_cons_succ, List.getElem_cons_zero, Act.put, List.setIfInBounds_toArray, List.set_cons_zero, List.set_cons_succ]
        refine wpAnyH_take (i := 1) (v := ?v1) rfl (by kernel_rfl) (by kernel_rfl) (by kernel_rfl) (fun _ _ _ h => h) (Or.inl ⟨by rfl, ?y1⟩) hHeld ?r1
        case y1 => (intro W hW; obtain ⟨x1, x2, x3⟩ := hW; go_simp; first | done | with_reducible rfl)
        try simp only [List.getElem_toArray, List.getElem_cons_succ, List.getElem_cons_zero, Act.put, List.setIfInBounds_toArray, List.set_cons_zero, List.set_cons_succ]
        refine wpAnyH_take (i := 5) (v := ?v5) rfl (by kernel_rfl) (by kernel_rfl) (by kernel_rfl) (fun _ _ _ h => h) (Or.inl ⟨by rfl, ?y5⟩) hHeld ?r5
        case y5 => (intro W hW; obtain ⟨x1, x2, x3⟩ := hW; go_simp; first | done | with_reducible rfl)
        try simp only [List.getElem_toArray, List.getElem_cons_succ, List.getElem_cons_zero, Act.put, List.setIfInBounds_toArray, List.set_cons_zero, List.set_cons_succ]
        refine wpAnyH_take (i := 3) (v := ?v3) rfl (by kernel_rfl) (by kernel_rfl) (by kernel_rfl) (fun _ _ _ h => h) (Or.inl ⟨by rfl, ?y3⟩) hHeld ?r3
        case y3 => (intro W hW; go_simp; first | done | with_reducible rfl)
        try simp only [List.getElem_toArray, List.getElem_cons_succ, List.getElem_cons_zero, Act.put, List.setIfInBounds_toArray, List.set_cons_zero, List.set_cons_succ]
        refine wpAnyH_take (i := 6) (v := ?v6) rfl (by kernel_rfl) (by kernel_rfl) (by kernel_rfl) (fun _ _ _ h => h) (Or.inl ⟨by rfl, ?y6⟩) hHeld ?r6
        case y6 => (intro W hW; go_simp; first | done | with_reducible rfl)
        try simp only [List.getElem_toArray, List.getElem_cons_succ, List.getElem_cons_zero, Act.put, List.setIfInBounds_toArray, List.set_cons_zero, List.set_cons_succ]
        refine wpAnyH_take (i := 7) (v := ?v7) rfl (by kernel_rfl) (by kernel_rfl) (by kernel_rfl) (fun _ _ _ h => h) (Or.inl ⟨by rfl, ?y7⟩) hHeld ?r7
        case y7 => (intro W hW; obtain ⟨x1, x2, x3⟩ := hW; go_simp; first | done | with_reducible rfl)
        try simp only [List.getElem_toArray, List.getElem_cons_succ, List.getElem_cons_zero, Act.put, List.setIfInBounds_toArray, List.set_cons_zero, List.set_cons_succ]
        refine wpAnyH_ready (rs := [8]) (by kernel_rfl) (by simp) ?_
        refine AllReadyH.cons rfl (fun K hK => ?_) AllReadyH.nil
        go_simp
        refine (Wy.out _).mono ?_
        rintro e w2 ⟨rfl, rfl⟩
        go_wp2_with fail
        refine hK.out _ _ ?_ (fun hHeld => ?_)
        · exact ⟨e1, e2, q8⟩
        clear hK K
        try simp only [List.getElem_toArray, List.getElem_cons_succ, List.getElem_cons_zero, Act.put, List.setIfInBounds_toArray, List.set_cons_zero, List.set_cons_succ]
        refine wpAnyH_take (i := 9) (v := ?v9) rfl (by kernel_rfl) (by kernel_rfl) (by kernel_rfl) (fun _ _ _ h => h) (Or.inl ⟨by rfl, ?y9⟩) hHeld ?r9
        case y9 => (intro W hW; go_simp; first | done | with_reducible rfl)
        try simp only [List.getElem_toArray, List.getElem_cons_succ, List.getElem_cons_zero, Act.put, List.setIfInBounds_toArray, List.set_cons_zero, List.set_cons_succ]
        refine wpAnyH_ready (rs := [10]) (by kernel_rfl) (by simp) ?_
        refine AllReadyH.cons rfl (fun K hK => ?_) AllReadyH.nil
        go_simp
        refine hK.out _ _ ?_ (fun hHeld => ?_)
        · exact ⟨e1', e2', e3'⟩
        clear hK K
        try simp only [List.getElem_toArray, List.getElem_cons_succ, List.getElem_cons_zero, Act.put, List.setIfInBounds_toArray, List.set_cons_zero, List.set_cons_succ]
        refine wpAnyH_done (by kernel_rfl) ?_ _
        go_wp2_with fail
        go_meet
        exact Fin.out
      · have fin : ∃ A' q' c' mm' cs' D' m' d' l', (Value.slice D3 m3 d3) = .slice D' m' d' ∧ m' ≤ 40 ∧ l'.length = m' ∧ cs'.length = q' ∧ Good cs' mm' l' ∧ Lie ((w6.setCell ⟨T, 0, none⟩ (.slice A3 q3 c3)).setCell ⟨T, 1, none⟩ (.int .i64 mm3)) T A' q' c' mm' cs' D' m' l' ∧ Below w3.heap.size w3 ((w6.setCell ⟨T, 0, none⟩ (.slice A3 q3 c3)).setCell ⟨T, 1, none⟩ (.int .i64 mm3)) :=
          ⟨_, _, _, _, _, _, _, _, _, rfl, i4, F3.out.em, F3.out.eq, F3.out.good, lie_of Hb7.out O7.out F3.out.eq R7.out F3.out.em F3.out.good, Z7.out⟩
        have Fin := Lib.hid fin
        clear fin
        go_wp2
        go_meet
        exact Fin.out
  case rest =>
    obtain ⟨A3, q3, c3, mm3, cs3, D3, m3, d3, l3, rfl, hm3, hl3, hc3, hG3, hL3, hb3⟩ := hcut
    rename World => wc
    have hl1 := F.out.em
    have hc1 := F.out.eq
    have hL := L1.out.below hb3
    have hB := HX.out.trans (hb3.mono HX.out.size)
    obtain ⟨p1, p2, p3⟩ := F.out.good.lens
    obtain ⟨r1, r2, r3⟩ := hG3.lens
    have hE := Encode_any A D q c m d cs mm l wc.drew hL.nums hL.facts (by omega) F.out.good.right
    obtain ⟨xs, hxs⟩ : ∃ xs, xs = encB cs (mm : Int) l := ⟨_, rfl⟩
    obtain ⟨ys, hys⟩ : ∃ ys, ys = encB cs3 (mm3 : Int) l3 := ⟨_, rfl⟩
    have hxb : Bytes xs := by rw [hxs]; exact encB_bytes _ _ _
    have hyb : Bytes ys := by rw [hys]; exact encB_bytes _ _ _
    obtain ⟨bb, hbb⟩ : ∃ bb, bb = sameB cs mm l cs3 mm3 l3 := ⟨_, rfl⟩
    have hsame : ((strOf xs).toList == (strOf ys).toList) = bb := by
      rw [hxs, hys, hbb]
      exact apart_same F.out.good.right hG3.right (by omega) (by omega) (fun r hr => (F.out.good.small r hr).2) (fun r hr => (hG3.small r hr).2)
    obtain ⟨L, hLe⟩ : ∃ L, L = xs.length := ⟨_, rfl⟩
    obtain ⟨M, hMe⟩ : ∃ M, M = ys.length := ⟨_, rfl⟩
    unfold NewBytes at hE
    rw [← hxs, ← hLe] at hE
    have HE := Lib.hid hE
    have HL := Lib.hid hL
    have HL3 := Lib.hid hL3
    have HG3 := Lib.hid hG3
    have HB := Lib.hid hB
    have Hxs := Lib.hid hxs
    have Hys := Lib.hid hys
    have Hxb := Lib.hid hxb
    have Hyb := Lib.hid hyb
    have HLe := Lib.hid hLe
    have HMe := Lib.hid hMe
    have Hbb := Lib.hid hbb
    have Hsame := Lib.hid hsame
    have P3 := Lib.hid p3
    have s0 := hL.box.cell0
    have s1 := hL.box.cell1
    have t0 := hL3.box.cell0
    have t1 := hL3.box.cell1
    clear hE hL hL3 hG3 hB hxs hys hxb hyb hLe hMe hbb hsame hb3 L1 L2 HX HY N1 N3 N4 hl1 hc1 hl3 hc3 r3 p3 Hb1 hTz
    go_wp2_with fail
    refine wp_region_held_drew (S := fun W => Keeps wc W) (by kernel_rfl) ((Keeps.refl wc).drewN 1) (fun hHeld => ?_)
    refine wpAnyH_take (i := 0) (v := ?vb0) rfl (by kernel_rfl) (by kernel_rfl) (by kernel_rfl) (fun _ _ _ h => h) (Or.inl ⟨by rfl, ?yb0⟩) hHeld ?rb0
    case yb0 => (intro W hW; have h0 := hW _ _ s0; have h1 := hW _ _ s1; go_simp; first | done | with_reducible rfl)
    try simp only [List.getElem_toArray, List.getElem_cons_zero, Act.put, List.setIfInBounds_toArray, List.set_cons_zero, List.set_cons_succ]
    refine wpAnyH_take (i := 1) (v := ?vb1) rfl (by kernel_rfl) (by kernel_rfl) (by kernel_rfl) (fun _ _ _ h => h) (Or.inl ⟨by rfl, ?yb1⟩) hHeld ?rb1
    case yb1 => (intro W hW; go_simp; first | done | with_reducible rfl)
    try simp only [List.getElem_toArray, List.getElem_cons_succ, List.getElem_cons_zero, Act.put, List.setIfInBounds_toArray, List.set_cons_zero, List.set_cons_succ]
    refine wpAnyH_take (i := 4) (v := ?vb4) rfl (by kernel_rfl) (by kernel_rfl) (by kernel_rfl) (fun _ _ _ h => h) (Or.inl ⟨by rfl, ?yb4⟩) hHeld ?rb4
    case yb4 => (intro W hW; have h0 := hW _ _ t0; have h1 := hW _ _ t1; go_simp; first | done | with_reducible rfl)
    try simp only [List.getElem_toArray, List.getElem_cons_succ, List.getElem_cons_zero, Act.put, List.setIfInBounds_toArray, List.set_cons_zero, List.set_cons_succ]
    refine wpAnyH_take (i := 5) (v := ?vb5) rfl (by kernel_rfl) (by kernel_rfl) (by kernel_rfl) (fun _ _ _ h => h) (Or.inl ⟨by rfl, ?yb5⟩) hHeld ?rb5
    case yb5 => (intro W hW; go_simp; first | done | with_reducible rfl)
    try simp only [List.getElem_toArray, List.getElem_cons_succ, List.getElem_cons_zero, Act.put, List.setIfInBounds_toArray, List.set_cons_zero, List.set_cons_succ]
    refine wpAnyH_take (i := 9) (v := ?vb9) rfl (by kernel_rfl) (by kernel_rfl) (by kernel_rfl) (fun _ _ _ h => h) (Or.inl ⟨by rfl, ?yb9⟩) hHeld ?rb9
    case yb9 => (intro W hW; have h0 := hW _ _ s0; have h1 := hW _ _ s1; go_simp; first | done | with_reducible rfl)
    try simp only [List.getElem_toArray, List.getElem_cons_succ, List.getElem_cons_zero, Act.put, List.setIfInBounds_toArray, List.set_cons_zero, List.set_cons_succ]
    refine wpAnyH_take (i := 10) (v := ?vb10) rfl (by kernel_rfl) (by kernel_rfl) (by kernel_rfl) (fun _ _ _ h => h) (Or.inl ⟨by rfl, ?yb10⟩) hHeld ?rb10
    case yb10 => (intro W hW; go_simp; first | done | with_reducible rfl)
    try simp only [List.getElem_toArray, List.getElem_cons_succ, List.getElem_cons_zero, Act.put, List.setIfInBounds_toArray, List.set_cons_zero, List.set_cons_succ]
    refine wpAnyH_take (i := 11) (v := ?vb11) rfl (by kernel_rfl) (by kernel_rfl) (by kernel_rfl) (fun _ _ _ h => h) (Or.inl ⟨by rfl, ?yb11⟩) hHeld ?rb11
    case yb11 => (intro W hW; have h0 := hW _ _ t0; have h1 := hW _ _ t1; go_simp; first | done | with_reducible rfl)
    try simp only [List.getElem_toArray, List.getElem_cons_succ, List.getElem_cons_zero, Act.put, List.setIfInBounds_toArray, List.set_cons_zero, List.set_cons_succ]
    refine wpAnyH_take (i := 12) (v := ?vb12) rfl (by kernel_rfl) (by kernel_rfl) (by kernel_rfl) (fun _ _ _ h => h) (Or.inl ⟨by rfl, ?yb12⟩) hHeld ?rb12
    case yb12 => (intro W hW; go_simp; first | done | with_reducible rfl)
    try simp only [List.getElem_toArray, List.getElem_cons_succ, List.getElem_cons_zero, Act.put, List.setIfInBounds_toArray, List.set_cons_zero, List.set_cons_succ]
    refine wpAnyH_ready (rs := [2]) (by kernel_rfl) (by simp) ?_
    refine AllReadyH.cons rfl (fun K hK => ?_) AllReadyH.nil
    go_simp
    refine HE.out.mono ?_
    rintro e w9 ⟨g1, rfl, hbuf1, hb9, -⟩
    go_wp2_with fail
    refine hK.out _ _ ?_ (fun hHeld => ?_)
    · exact (Keeps.of_below (show Below wc.heap.size wc w9 from ⟨hb9.os, hb9.tape, hb9.output, hb9.size, hb9.block⟩))
    clear hK K
    try simp only [List.getElem_toArray, List.getElem_cons_succ, List.getElem_cons_zero, Act.put, List.setIfInBounds_toArray, List.set_cons_zero, List.set_cons_succ]
    have hb9' : Below wc.heap.size wc w9 := ⟨hb9.os, hb9.tape, hb9.output, hb9.size, hb9.block⟩
    have hn9 : Nums .u8 w9 (some ⟨g1, 0, none⟩) L xs := by rw [HLe.out]; exact Arr.nums (T := 5) hbuf1 Hxb.out
    have Hn9 := Lib.hid hn9
    have HL9 := Lib.hid (HL.out.below hb9')
    have HL39 := Lib.hid (HL3.out.below hb9')
    have HB9 := Lib.hid (HB.out.trans (hb9'.mono HB.out.size))
    have hE2 := Encode_any A3 D3 q3 c3 m3 d3 cs3 mm3 l3 w9 HL39.out.nums HL39.out.facts (by omega) HG3.out.right
    unfold NewBytes at hE2
    rw [← Hys.out, ← HMe.out] at hE2
    have HE2 := Lib.hid hE2
    clear hE2 hn9
    refine held_grow (S' := fun W => Keeps w9 W) (fun W hW => (Keeps.of_below hb9').trans hW) _ _ _ _ ?_
    have hHeld : Keeps w9 w9 := Keeps.refl _
    clear hbuf1
    refine wpAnyH_take (i := 3) (v := ?vb3) rfl (by kernel_rfl) (by kernel_rfl) (by kernel_rfl) (fun _ _ _ h => h) (Or.inl ⟨by rfl, ?yb3⟩) hHeld ?rb3
    case yb3 => (intro W hW; have hk : (convert 36 9 (.slice (some ⟨g1, 0, none⟩) L L)).run Try.prog W = .ok (.string (strOf xs)) W := conv_str _ _ _ Try.underlying36 Try.underlying5 Try.underlying9 _ _ _ _ _ (Hn9.out.keep hW); go_simp; first | done | with_reducible rfl)
    try simp only [List.getElem_toArray, List.getElem_cons_succ, List.getElem_cons_zero, Act.put, List.setIfInBounds_toArray, List.set_cons_zero, List.set_cons_succ]
    refine wpAnyH_ready (rs := [6]) (by kernel_rfl) (by simp) ?_
    refine AllReadyH.cons rfl (fun K hK => ?_) AllReadyH.nil
    go_simp
    refine HE2.out.mono ?_
    rintro e w10 ⟨g2, rfl, hbuf2, hb10, -⟩
    go_wp2_with fail
    refine hK.out _ _ ?_ (fun hHeld => ?_)
    · exact (Keeps.of_below hb10)
    clear hK K
    try simp only [List.getElem_toArray, List.getElem_cons_succ, List.getElem_cons_zero, Act.put, List.setIfInBounds_toArray, List.set_cons_zero, List.set_cons_succ]
    have hn10 : Nums .u8 w10 (some ⟨g2, 0, none⟩) M ys := by rw [HMe.out]; exact Arr.nums (T := 5) hbuf2 Hyb.out
    have Hn10 := Lib.hid hn10
    have HL10 := Lib.hid (HL9.out.below hb10)
    have HL310 := Lib.hid (HL39.out.below hb10)
    have HB10 := Lib.hid (HB9.out.trans (hb10.mono HB9.out.size))
    have hS := Same_any A D A3 D3 q c m d q3 c3 m3 d3 cs cs3 mm mm3 l l3 w10 HL10.out.nums HL10.out.facts HL310.out.nums HL310.out.facts (by omega) (by omega) (fun r hr => by have := P3.out r hr; omega)
    rw [← Hbb.out] at hS
    have HSm := Lib.hid hS
    have hsm := Hsame.out
    clear hS hn10 hbuf2
    refine held_grow (S' := fun W => Keeps w10 W) (fun W hW => (Keeps.of_below hb10).trans hW) _ _ _ _ ?_
    have hHeld : Keeps w10 w10 := Keeps.refl _
    refine wpAnyH_take (i := 7) (v := ?vb7) rfl (by kernel_rfl) (by kernel_rfl) (by kernel_rfl) (fun _ _ _ h => h) (Or.inl ⟨by rfl, ?yb7⟩) hHeld ?rb7
    case yb7 => (intro W hW; have hk : (convert 36 9 (.slice (some ⟨g2, 0, none⟩) M M)).run Try.prog W = .ok (.string (strOf ys)) W := conv_str _ _ _ Try.underlying36 Try.underlying5 Try.underlying9 _ _ _ _ _ (Hn10.out.keep hW); go_simp; first | done | with_reducible rfl)
    try simp only [List.getElem_toArray, List.getElem_cons_succ, List.getElem_cons_zero, Act.put, List.setIfInBounds_toArray, List.set_cons_zero, List.set_cons_succ]
    refine wpAnyH_take (i := 8) (v := ?vb8) rfl (by kernel_rfl) (by kernel_rfl) (by kernel_rfl) (fun _ _ _ h => h) (Or.inl ⟨by rfl, ?yb8⟩) hHeld ?rb8
    case yb8 => (intro W hW; go_simp; first | done | with_reducible rfl)
    try simp only [List.getElem_toArray, List.getElem_cons_succ, List.getElem_cons_zero, Act.put, List.setIfInBounds_toArray, List.set_cons_zero, List.set_cons_succ]
    refine wpAnyH_ready (rs := [13]) (by kernel_rfl) (by simp) ?_
    refine AllReadyH.cons rfl (fun K hK => ?_) AllReadyH.nil
    go_simp
    refine HSm.out.mono ?_
    rintro e w11 ⟨rfl, hb11⟩
    go_wp2_with fail
    refine hK.out _ _ ?_ (fun hHeld => ?_)
    · exact (Keeps.of_below hb11)
    clear hK K
    try simp only [List.getElem_toArray, List.getElem_cons_succ, List.getElem_cons_zero, Act.put, List.setIfInBounds_toArray, List.set_cons_zero, List.set_cons_succ]
    refine wpAnyH_take (i := 14) (v := ?vb14) rfl (by kernel_rfl) (by kernel_rfl) (by kernel_rfl) (fun _ _ _ h => h) (Or.inl ⟨by rfl, ?yb14⟩) hHeld ?rb14
    case yb14 => (intro W hW; go_simp; first | done | with_reducible rfl)
    try simp only [List.getElem_toArray, List.getElem_cons_succ, List.getElem_cons_zero, Act.put, List.setIfInBounds_toArray, List.set_cons_zero, List.set_cons_succ]
    refine wpAnyH_take (i := 15) (v := ?vb15) rfl (by kernel_rfl) (by kernel_rfl) (by kernel_rfl) (fun _ _ _ h => h) (Or.inl ⟨by rfl, ?yb15⟩) hHeld ?rb15
    case yb15 => (intro W hW; go_simp; first | done | with_reducible rfl)
    try simp only [List.getElem_toArray, List.getElem_cons_succ, List.getElem_cons_zero, Act.put, List.setIfInBounds_toArray, List.set_cons_zero, List.set_cons_succ]
    refine wpAnyH_done (by kernel_rfl) ?_ _
    have HB11 := Lib.hid (HB10.out.trans (hb11.mono HB10.out.size))
    clear hHeld hb11 hb10 hb9 hb9' hsm
    go_wp2
    go_ret
    exact ⟨rfl, HB11.out⟩
end Go.Proofs.Ytbjlbambheogbaa
