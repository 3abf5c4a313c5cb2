/- The law CellGroups. -/
import Derived.Test.YtpejdafijeagnaaDoorGrpP
namespace Go.Proofs.YtpejdafijeagnaaDoor
open Go.RowKit Go.Shelf
theorem swap_fin {L lk : List Cel} {B n : Nat} {W wx : World} {v : Value} {ul : List V5} (hp : lk.Perm L) (h : GRs B W v ul lk) (hb : Below n wx W) : ∃ ul lk, lk.Perm L ∧ GRs B W.drew.drew v ul lk ∧ Below n wx W.drew.drew :=
  ⟨ul, lk, hp, h.below ((Below.refl _ W).drew.drew), hb.drew.drew⟩
set_option maxRecDepth 100000 in
set_option maxHeartbeats 8000000 in
theorem cellGroups_walk (a0 : Int) (a1 : Option Addr) (len1 cap1 : Nat) (z1 : List Int) (a2 : Int) (a3 : Option Addr) (len3 cap3 : Nat) (z3 : List Int) (a4 : Int) (a5 : Option Addr) (len5 cap5 : Nat) (z5 : List Int) (w : World) (h0 : inK .i64 a0) (w1 : IsRow .i64 w a1 len1 cap1 z1) (h2 : inK .i64 a2) (w3 : IsRow .i64 w a3 len3 cap3 z3) (h4 : inK .i64 a4) (w5 : IsRow .i64 w a5 len5 cap5 z5) (hT : Tab w) (hw1 : 1 < w.heap.size) :
    Calls Tryd.prog 6 #[.int .i64 a0, .slice a1 len1 cap1, .int .i64 a2, .slice a3 len3 cap3, .int .i64 a4, .slice a5 len5 cap5] w fun e w' => e = .returned (.bool true) ∧ Below w.heap.size w w' := by
  obtain ⟨n1, lc1, cm1⟩ := w1.nums
  obtain ⟨n3, lc3, cm3⟩ := w3.nums
  obtain ⟨n5, lc5, cm5⟩ := w5.nums
  generalize z5.take len5 = ys at n5
  have N1 := Lib.hid n1
  have N3 := Lib.hid n3
  have N5 := Lib.hid n5
  have HKn := Lib.hid (known_any w hT hw1)
  have HW := Lib.hid (fun (x : Int) (n : Nat) (W : World) (h : inK .i64 x) (h1 : 1 ≤ n) (h2 : n ≤ 40) => lwithin2 x n W h (by omega) (by omega))
  clear w1 w3 w5 n1 n3 n5 hT
  go_enter Tryd.func6, Tryd.ntmps6
  go_wp2_with fail
  refine HKn.out.mono ?_
  rintro e w1 ⟨rfl, hb1⟩
  have Hb1 := Lib.hid hb1
  clear hb1 HKn
  go_wp2_with fail
  refine (Facts_res a0 a2 a1 a3 len1 cap1 len3 cap3 _ _ w1 (N1.out.keep (Keeps.of_below Hb1.out)) (N3.out.keep (Keeps.of_below Hb1.out)) (by omega) (by omega) h0 h2).mono ?_
  rintro e w2 ⟨A, c, D, d, C, q, mm, m, cs, l, rfl, hF⟩
  have F := Lib.hid hF
  obtain ⟨k1, k2, k3, k4⟩ : 1 ≤ q ∧ q ≤ 4 ∧ mm ≤ 2 ∧ m ≤ 40 := ⟨hF.q1, hF.q4, hF.m2, hF.m40⟩
  have hb2 : Below w.heap.size w w2 := Hb1.out.trans (hF.below.mono Hb1.out.size)
  have hb3 : Below w2.heap.size w2 (w2.alloc (.cells #[.slice A q c, .int .i64 mm] 25)) := (Below.refl _ _).alloc (Nat.le_refl _) _
  obtain ⟨s1, s2, s3⟩ := set_bd a4 q k1 k2
  have Hb2 := Lib.hid hb2
  have Hb3 := Lib.hid hb3
  clear hF hb2 hb3 N1 N3
  go_wp2_with fail
  refine (set_any A q c mm a4 _ k1 k2 h4).mono ?_
  rintro e w4 ⟨rfl, rfl⟩
  obtain ⟨sa, hsa⟩ : ∃ sa, sa = a4 % 2 ^ q := ⟨_, rfl⟩
  rw [← hsa] at s1 s2 s3 ⊢
  clear hsa
  have hb4 : Below w2.heap.size w2 ((w2.alloc (.cells #[.slice A q c, .int .i64 mm] 25)).alloc (.cells #[.slice A q c, .int .i64 mm] 25)) := Hb3.out.alloc Hb3.out.size _
  have HB4 := Lib.hid hb4
  clear hb4
  generalize (w2.alloc (.cells #[.slice A q c, .int .i64 mm] 25)).alloc (.cells #[.slice A q c, .int .i64 mm] 25) = w4 at HB4 ⊢
  have hR4 := F.out.rows.below HB4.out (Nat.le_refl _)
  have hl4 : ∀ r ∈ l, r.key.length = q ∧ r.m.length = mm := F.out.lens
  have hmk := make_any D m d C sa l w4 hR4 F.out.em k4 F.out.small (fun r hr => by have := hl4 r hr; omega) s1 s2
  have Hmk := Lib.hid hmk
  obtain ⟨L, hL⟩ : ∃ L, L = l.map (ofC sa) := ⟨_, rfl⟩
  have hLm : L.length = m := by rw [hL, List.length_map, F.out.em]
  have hLe : ∀ x ∈ L, EvenC mm x := fun x hx => by
    rw [hL] at hx
    obtain ⟨r, hr, rfl⟩ := List.mem_map.1 hx
    have := (hl4 r hr).2
    exact ⟨this, this, this⟩
  have hLk : ∀ x ∈ L, x.key.length ≤ 1000000 := fun x hx => by
    rw [hL] at hx
    obtain ⟨r, hr, rfl⟩ := List.mem_map.1 hx
    have h := (hl4 r hr).1
    have := pk_len r.key sa r.key.length
    show (pk r.key sa r.key.length).length ≤ 1000000
    omega
  have hL1 : ∀ x ∈ L, x.cnt = 1 := fun x hx => by
    rw [hL] at hx
    obtain ⟨r, _, rfl⟩ := List.mem_map.1 hx
    rfl
  have hGr := grpR_rise L
  have hGG := grpR_again L
  have hGe : ∀ x ∈ grpR L, EvenC mm x := grp_even L [] (fun x h => by cases h) hLe
  have hGl : (grpR L).length ≤ m := by have := grp_lt L []; rw [hLm] at this; simpa [grpR] using this
  have hGk : ∀ x ∈ grpR L, x.key.length ≤ 1000000 := fun x hx => by
    rcases grp_keys L [] x hx with ⟨z, hz, _⟩ | ⟨z, hz, e⟩
    · cases hz
    · rw [← e]; exact hLk z hz
  have hc1 := cnts_one hL1
  obtain ⟨hGp, hGc⟩ := grp_cnts L [] (fun x h => by cases h) (fun x hx => by rw [hL1 x hx]; omega) (by rw [hc1, hLm]; simp [cnts]; omega)
  replace hGc : cnts (grpR L) = m := by show cnts (L.foldl putC []) = m; rw [hGc, hc1, hLm]; simp [cnts]
  replace hGp : PosC (grpR L) := hGp
  have GRP := Lib.hid (fun (P : Option Addr) (c N : Nat) (K : List Cel) (W : World) (hK : RowC W P N K) (he : ∀ x ∈ K, EvenC mm x) (hk : ∀ x ∈ K, x.key.length ≤ 1000000) (hN : N = K.length) (hn : N ≤ m) => groupR_any P c N K mm W hK he hk (by omega) hN (by omega))
  obtain ⟨G, hG⟩ : ∃ G, G = grpR L := ⟨_, rfl⟩
  rw [← hG] at hGr hGG hGe hGl hGk hGc hGp
  have HLe := Lib.hid hLe
  have HLk := Lib.hid hLk
  have HLm := Lib.hid hLm
  have HG := Lib.hid hG
  have HGr := Lib.hid hGr
  have HGG := Lib.hid hGG
  have HGe := Lib.hid hGe
  have HGk := Lib.hid hGk
  have HGc := Lib.hid hGc
  have HGp := Lib.hid hGp
  rw [← hL] at Hmk
  have Hb24 := Lib.hid (Hb2.out.trans (HB4.out.mono Hb2.out.size))
  clear hmk hl4 hR4 hLe hLk hLm hG hGr hGG hGe hGk hGc hGp hL1 hc1 hL F Hb2 Hb3 HB4
  go_wp2_with fail
  refine Hmk.out.mono ?_
  rintro e w5 ⟨lv, us, rfl, hg, hb5⟩
  obtain ⟨Pl, cl, fl, -⟩ := hg.form
  have hul := hg.len
  rw [HLm.out] at hul
  rw [hul] at fl
  subst fl
  obtain ⟨rl, -⟩ := hg.rowC
  have HGl := Lib.hid hg
  have HB5 := Lib.hid hb5
  have H45 := Lib.hid (Hb24.out.trans (hb5.mono Hb24.out.size))
  have Hul := Lib.hid hul
  have hgrp := GRP.out Pl cl m L w5 rl HLe.out HLk.out HLm.out.symm (Nat.le_refl _)
  have Hgrp := Lib.hid hgrp
  clear hgrp rl hg hb5 hul Hmk
  go_wp2_with fail
  refine Hgrp.out.mono ?_
  rintro e w6 ⟨gv, ug, rfl, hg, hb6⟩
  rw [← HG.out] at hg
  obtain ⟨Pg, cg, fg, -, -, hfl, -⟩ := hg.form
  have hgN := hg.len
  rw [hgN] at fg hfl
  obtain ⟨N, hN⟩ : ∃ N, N = G.length := ⟨_, rfl⟩
  rw [← hN] at fg hfl hGl
  subst fg
  have rg : RowC w6 Pg N G := fun h => by
    obtain ⟨g, e, -, -, hc, -⟩ := hfl h
    exact ⟨_, e, hc⟩
  have HFL := Lib.hid (fun (h : 0 < N) => by
    obtain ⟨g, e, -, -, hc, -⟩ := hfl h
    exact (⟨g, e, hc⟩ : ∃ g, Pg = some ⟨g, 0, none⟩ ∧ CellsR w6 ⟨g, 0, none⟩ G))
  have HN := Lib.hid hN
  have HRG := Lib.hid rg
  have H56 := Lib.hid (H45.out.trans (hb6.mono H45.out.size))
  have HGL6 := Lib.hid (HGl.out.below hb6)
  have HB6 := Lib.hid hb6
  clear hg hb6 hgN hN rg hfl Hgrp
  go_upto_block 0 with (fail)
  go_cut [17] (fun s wx => s = .int .i64 m ∧ Below w6.heap.size w6 wx)
  case first =>
   go_wp2_with fail
   go_loopw [17, 18] (fun s17 s18 wr => ∃ i : Nat, s18 = .int .i64 i ∧ s17 = .int .i64 (cnts (G.take i)) ∧ i ≤ N ∧ Below w6.heap.size w6 wr) (fun _ s18 _ => N - (intOf s18).toNat)
   case atStart => exact ⟨0, rfl, by simp [cnts], Nat.zero_le _, Below.refl _ _⟩
   case round =>
    obtain ⟨i, rfl, rfl, hi, hb⟩ := hrel
    rename World => wr
    obtain ⟨t1, t2⟩ := cnts_take G i HGp.out
    rw [HGc.out] at t2
    obtain ⟨S, hS⟩ : ∃ S, S = cnts (G.take i) := ⟨_, rfl⟩
    rw [← hS] at t1 t2 ⊢
    by_cases hlt : i < N
    · have d1 : decide ((i : Int) < (N : Int)) = true := decide_eq_true (by omega)
      obtain ⟨g, rfl, hgc⟩ := HFL.out (by omega)
      have hk := hgc.keep (Keeps.of_below hb)
      obtain ⟨x, hx⟩ : ∃ x, G[i]? = some x := ⟨_, List.getElem?_eq_getElem (by rw [← HN.out]; exact hlt)⟩
      have hxk := HGk.out x (List.mem_of_getElem? hx)
      obtain ⟨vk, vs, vn, vm, a0', a1', a2', a3', a4', hcx, hck⟩ := hk i x hx
      rw [add0] at a0' a1' a2' a3' a4'
      obtain ⟨t3, t4⟩ := cnts_take G (i + 1) HGp.out
      rw [HGc.out] at t4
      rw [List.take_add_one, hx, Option.toList_some, cnts_snoc, ← hS] at t3 t4
      have hS2 : cnts (G.take (i + 1)) = S + x.cnt := by rw [List.take_add_one, hx, Option.toList_some, cnts_snoc, ← hS]
      obtain ⟨xc, hxc⟩ : ∃ xc, xc = x.cnt := ⟨_, rfl⟩
      rw [← hxc] at a1' t3 t4 hS2
      have r1 : IntKind.i64.wrap (S + xc) = S + xc := IntWalk.i64_in _ (by omega)
      obtain ⟨Pk, ck, f1, nk, -⟩ := hcx.key
      obtain ⟨lx, hlx⟩ : ∃ lx, lx = x.key.length := ⟨_, rfl⟩
      rw [← hlx] at f1 nk hxk
      subst f1
      have HS2 := Lib.hid hS2
      have Hb := Lib.hid hb
      have i0 : (0 : Int) ≤ (i : Int) := by omega
      have i1 : (i : Int) < (N : Int) := by omega
      by_cases hz : i = 0
      · subst hz
        clear hxc hS2 hb hk hgc hx nk hlx hcx hck hS
        go_wp2_with fail
        go_quiet (fail)
        go_wp2
        go_roundw
        case rel => exact ⟨0 + 1, by go_num, by rw [HS2.out], by omega, below_drewN Hb.out _⟩
        case measure => simp [intOf]; omega
      · obtain ⟨j, hj⟩ : ∃ j, i = j + 1 := ⟨i - 1, by omega⟩
        obtain ⟨y, hy⟩ : ∃ y, G[j]? = some y := ⟨_, List.getElem?_eq_getElem (by rw [← HN.out]; omega)⟩
        have hyk := HGk.out y (List.mem_of_getElem? hy)
        obtain ⟨wk, ws, wn, wm, b0', b1', b2', b3', b4', hcy, hcky⟩ := hk j y hy
        rw [add0] at b0'
        have hlt1 : cmpL y.key x.key = -1 := by
          have h1 := HGr.out.at_ hy (by rw [← hj]; exact hx)
          have h2 := cmpL_in y.key x.key
          omega
        obtain ⟨Py, cy, f2, ny, -⟩ := hcy.key
        obtain ⟨ly, hly⟩ : ∃ ly, ly = y.key.length := ⟨_, rfl⟩
        rw [← hly] at f2 ny hyk
        subst f2
        have hls := fun (W : World) (hW : Keeps wr W) => rLess Py Pk ly cy lx ck y.key x.key W (ny.keep hW) (nk.keep hW) (by omega) (by omega)
        rw [hlt1] at hls
        have Hls := Lib.hid hls
        have HJ := Lib.hid hj
        have rj : IntKind.i64.wrap ((i : Int) - 1) = (j : Int) := by rw [IntWalk.i64_in _ (by omega)]; omega
        have j0 : (0 : Int) ≤ (j : Int) := by omega
        have j1 : (j : Int) < (N : Int) := by omega
        have j2 : 0 < i := by omega
        have dn : decide (0 < i) = true := decide_eq_true j2
        have kw : Keeps wr wr.drew := (Keeps.refl wr).drewN 1
        clear hxc hS2 hb hk hgc hx nk hlx hcx hck hS hz hy ny hly hcy hcky hlt1 hls hj b1' b2' b3' b4' a2' a3' a4'
        go_wp2_with fail
        refine wp_region_held_drew (S := fun W => Keeps wr W) (by kernel_rfl) kw (fun hHeld => ?_)
        refine wpAnyH_take (i := 0) (v := ?va0) rfl (by kernel_rfl) (by kernel_rfl) (by kernel_rfl) (fun _ _ _ h => h) (Or.inl ⟨by rfl, ?ya0⟩) hHeld ?ra0
        case ya0 => (intro W hW; go_simp; first | done | with_reducible rfl)
        try simp only [List.getElem_toArray, List.getElem_cons_zero, Act.put, List.setIfInBounds_toArray, List.set_cons_zero, List.set_cons_succ]
        refine wpAnyH_take (i := 1) (v := ?va1) rfl (by kernel_rfl) (by kernel_rfl) (by kernel_rfl) (fun _ _ _ h => h) (Or.inl ⟨by rfl, ?ya1⟩) hHeld ?ra1
        case ya1 => (intro W hW; go_simp; first | done | with_reducible rfl)
        try simp only [List.getElem_toArray, List.getElem_cons_succ, List.getElem_cons_zero, Act.put, List.setIfInBounds_toArray, List.set_cons_zero, List.set_cons_succ]
        refine wpAnyH_take (i := 2) (v := ?va2) rfl (by kernel_rfl) (by kernel_rfl) (by kernel_rfl) (fun _ _ _ h => h) (Or.inl ⟨by rfl, ?ya2⟩) hHeld ?ra2
        case ya2 => (intro W hW; go_simp; first | done | with_reducible rfl)
        try simp only [List.getElem_toArray, List.getElem_cons_succ, List.getElem_cons_zero, Act.put, List.setIfInBounds_toArray, List.set_cons_zero, List.set_cons_succ]
        refine wpAnyH_take (i := 3) (v := ?va3) rfl (by kernel_rfl) (by kernel_rfl) (by kernel_rfl) (fun _ _ _ h => h) (Or.inl ⟨by rfl, ?ya3⟩) hHeld ?ra3
        case ya3 => (intro W hW; go_simp; first | done | with_reducible rfl)
        try simp only [List.getElem_toArray, List.getElem_cons_succ, List.getElem_cons_zero, Act.put, List.setIfInBounds_toArray, List.set_cons_zero, List.set_cons_succ]
        refine wpAnyH_take (i := 4) (v := ?va4) rfl (by kernel_rfl) (by kernel_rfl) (by kernel_rfl) (fun _ _ _ h => h) (Or.inl ⟨by rfl, ?ya4⟩) hHeld ?ra4
        case ya4 => (intro W hW; go_simp; first | done | with_reducible rfl)
        try simp only [List.getElem_toArray, List.getElem_cons_succ, List.getElem_cons_zero, Act.put, List.setIfInBounds_toArray, List.set_cons_zero, List.set_cons_succ]
        refine wpAnyH_take (i := 5) (v := ?va5) rfl (by kernel_rfl) (by kernel_rfl) (by kernel_rfl) (fun _ _ _ h => h) (Or.inl ⟨by rfl, ?ya5⟩) hHeld ?ra5
        case ya5 => (intro W hW; go_simp; first | done | with_reducible rfl)
        try simp only [List.getElem_toArray, List.getElem_cons_succ, List.getElem_cons_zero, Act.put, List.setIfInBounds_toArray, List.set_cons_zero, List.set_cons_succ]
        refine wpAnyH_take (i := 6) (v := ?va6) rfl (by kernel_rfl) (by kernel_rfl) (by kernel_rfl) (fun _ _ _ h => h) (Or.inl ⟨by rfl, ?ya6⟩) hHeld ?ra6
        case ya6 => (intro W hW; go_simp; first | done | with_reducible rfl)
        try simp only [List.getElem_toArray, List.getElem_cons_succ, List.getElem_cons_zero, Act.put, List.setIfInBounds_toArray, List.set_cons_zero, List.set_cons_succ]
        refine wpAnyH_take (i := 7) (v := ?va7) rfl (by kernel_rfl) (by kernel_rfl) (by kernel_rfl) (fun _ _ _ h => h) (Or.inl ⟨by rfl, ?ya7⟩) hHeld ?ra7
        case ya7 => (intro W hW; go_simp; first | done | with_reducible rfl)
        try simp only [List.getElem_toArray, List.getElem_cons_succ, List.getElem_cons_zero, Act.put, List.setIfInBounds_toArray, List.set_cons_zero, List.set_cons_succ]
        refine wpAnyH_take (i := 8) (v := ?va8) rfl (by kernel_rfl) (by kernel_rfl) (by kernel_rfl) (fun _ _ _ h => h) (Or.inl ⟨by rfl, ?ya8⟩) hHeld ?ra8
        case ya8 => (intro W hW; have g0 := hW _ _ a0'; have g1 := hW _ _ b0'; clear hW; go_simp; first | done | with_reducible rfl)
        try simp only [List.getElem_toArray, List.getElem_cons_succ, List.getElem_cons_zero, Act.put, List.setIfInBounds_toArray, List.set_cons_zero, List.set_cons_succ]
        refine wpAnyH_take (i := 9) (v := ?va9) rfl (by kernel_rfl) (by kernel_rfl) (by kernel_rfl) (fun _ _ _ h => h) (Or.inl ⟨by rfl, ?ya9⟩) hHeld ?ra9
        case ya9 => (intro W hW; go_simp; first | done | with_reducible rfl)
        try simp only [List.getElem_toArray, List.getElem_cons_succ, List.getElem_cons_zero, Act.put, List.setIfInBounds_toArray, List.set_cons_zero, List.set_cons_succ]
        refine wpAnyH_take (i := 10) (v := ?va10) rfl (by kernel_rfl) (by kernel_rfl) (by kernel_rfl) (fun _ _ _ h => h) (Or.inl ⟨by rfl, ?ya10⟩) hHeld ?ra10
        case ya10 => (intro W hW; go_simp; first | done | with_reducible rfl)
        try simp only [List.getElem_toArray, List.getElem_cons_succ, List.getElem_cons_zero, Act.put, List.setIfInBounds_toArray, List.set_cons_zero, List.set_cons_succ]
        refine wpAnyH_take (i := 11) (v := ?va11) rfl (by kernel_rfl) (by kernel_rfl) (by kernel_rfl) (fun _ _ _ h => h) (Or.inl ⟨by rfl, ?ya11⟩) hHeld ?ra11
        case ya11 => (intro W hW; go_simp; first | done | with_reducible rfl)
        try simp only [List.getElem_toArray, List.getElem_cons_succ, List.getElem_cons_zero, Act.put, List.setIfInBounds_toArray, List.set_cons_zero, List.set_cons_succ]
        refine wpAnyH_take (i := 12) (v := ?va12) rfl (by kernel_rfl) (by kernel_rfl) (by kernel_rfl) (fun _ _ _ h => h) (Or.inl ⟨by rfl, ?ya12⟩) hHeld ?ra12
        case ya12 => (intro W hW; go_simp; first | done | with_reducible rfl)
        try simp only [List.getElem_toArray, List.getElem_cons_succ, List.getElem_cons_zero, Act.put, List.setIfInBounds_toArray, List.set_cons_zero, List.set_cons_succ]
        refine wpAnyH_take (i := 13) (v := ?va13) rfl (by kernel_rfl) (by kernel_rfl) (by kernel_rfl) (fun _ _ _ h => h) (Or.inl ⟨by rfl, ?ya13⟩) hHeld ?ra13
        case ya13 => (intro W hW; have g0 := hW _ _ a0'; have g1 := hW _ _ b0'; clear hW; go_simp; first | done | with_reducible rfl)
        try simp only [List.getElem_toArray, List.getElem_cons_succ, List.getElem_cons_zero, Act.put, List.setIfInBounds_toArray, List.set_cons_zero, List.set_cons_succ]
        refine wpAnyH_ready (rs := [14]) (by kernel_rfl) (by simp) ?_
        refine AllReadyH.cons rfl (fun K hK => ?_) (AllReadyH.nil)
        go_simp
        refine (Hls.out _ kw).mono ?_
        rintro e w7 ⟨rfl, nq, rfl⟩
        refine hK.out _ _ (kw.trans ((Keeps.refl _).drewN nq)) (fun hHeld => ?_)
        clear hK K
        try simp only [List.getElem_toArray, List.getElem_cons_succ, List.getElem_cons_zero, Act.put, List.setIfInBounds_toArray, List.set_cons_zero, List.set_cons_succ]
        refine wpAnyH_take (i := 15) (v := ?va15) rfl (by kernel_rfl) (by kernel_rfl) (by kernel_rfl) (fun _ _ _ h => h) (Or.inl ⟨by rfl, ?ya15⟩) hHeld ?ra15
        case ya15 => (intro W hW; go_simp; first | done | with_reducible rfl)
        try simp only [List.getElem_toArray, List.getElem_cons_succ, List.getElem_cons_zero, Act.put, List.setIfInBounds_toArray, List.set_cons_zero, List.set_cons_succ]
        refine wpAnyH_take (i := 16) (v := ?va16) rfl (by kernel_rfl) (by kernel_rfl) (by kernel_rfl) (fun _ _ _ h => h) (Or.inl ⟨by rfl, ?ya16⟩) hHeld ?ra16
        case ya16 => (intro W hW; go_simp; first | done | with_reducible rfl)
        try simp only [List.getElem_toArray, List.getElem_cons_succ, List.getElem_cons_zero, Act.put, List.setIfInBounds_toArray, List.set_cons_zero, List.set_cons_succ]
        refine wpAnyH_done (by kernel_rfl) ?_ _
        go_wp2
        go_roundw
        case rel => exact ⟨i + 1, by go_num, by rw [HS2.out], by omega, below_drewN Hb.out _⟩
        case measure => simp [intOf]; omega
    · obtain rfl : i = N := by omega
      have d1 : decide ((i : Int) < (i : Int)) = false := by simp
      have hSm : S = m := by
        have h := HGc.out
        rw [hS, HN.out, List.take_length, h]
      have Hb := Lib.hid hb
      clear hS hb
      subst hSm
      go_wp2
      go_meet
      exact ⟨rfl, Hb.out⟩
  case rest =>
    obtain ⟨rfl, hb⟩ := hcut
    rename World => wx
    have hgx := HGL6.out.below (hb.mono (Nat.le_refl _))
    have hzx : w4.heap.size ≤ wx.heap.size := Nat.le_trans HB5.out.size (Nat.le_trans HB6.out.size hb.size)
    obtain ⟨gm, cm, X3, hrun, hgB, hgm, hbm⟩ := lit_cells hgx (by omega) hzx
    have Hrun := Lib.hid hrun
    have HGM := Lib.hid hgm
    have Hbm := Lib.hid hbm
    have Hbx := Lib.hid hb
    have H6x := Lib.hid (H56.out.trans (hb.mono H56.out.size))
    clear hgx hzx hrun hgm hbm hb
    go_upto_block 2 with (at_builtin; have _t := Hrun; refine wpList_append_eq rfl (.tmp 70) (.tmp 71) 31 rfl _ _ _ _ rfl rfl Hrun.out ?_; clear _t Hrun)
    go_cut [] (fun wy => ∃ ul lk, lk.Perm L ∧ GRs w4.heap.size wy (.slice (some ⟨gm, 0, none⟩) m cm) ul lk ∧ Below wx.heap.size wx wy)
    case first =>
      go_wp2_with fail
      go_loopw [20] (fun i wk => ∃ j : Nat, j ≤ 40 ∧ j ≤ len5 ∧ i = .int .i64 j ∧ ∃ ul lk, lk.Perm L ∧ GRs w4.heap.size wk (.slice (some ⟨gm, 0, none⟩) m cm) ul lk ∧ Below wx.heap.size wx wk) (fun i _ => 40 - (intOf i).toNat)
      case atStart => exact ⟨0, by omega, by omega, rfl, us, L, List.Perm.refl _, HGM.out, Hbm.out⟩
      case round =>
        rename World => wk
        obtain ⟨j, hj6, hj1, rfl, ul, lk, hp, hRk, hbk⟩ := hrel
        have Hp := Lib.hid hp
        have HRk := Lib.hid hRk
        have Hbk := Lib.hid hbk
        clear hp hRk hbk HGM Hbm
        by_cases hlt : j < len5 ∧ j < 40 ∧ 0 < m
        · obtain ⟨hl1, hl6, hkp⟩ := hlt
          obtain ⟨yd, y, rfl, hy, ⟨hy1, hy2⟩, hyc⟩ := (N5.out.keep (Keeps.of_below (H6x.out.trans (Hbk.out.mono H6x.out.size)))).at_ hl1
          obtain ⟨na, hna⟩ : ∃ na, na = j % m := ⟨_, rfl⟩
          have hna2 : (j : Int).tmod (m : Int) = (na : Int) := by rw [hna]; rfl
          have hnk : na < m := by rw [hna]; exact Nat.mod_lt _ hkp
          obtain ⟨nb, hnb⟩ : ∃ nb : Nat, y % (m : Int) = nb := Int.eq_ofNat_of_zero_le (Int.emod_nonneg y (by omega))
          have hnbk : nb < m := by have := Int.emod_lt_of_pos y (show (0 : Int) < m by omega); omega
          have wb := fun W => HW.out y m W ⟨hy1, hy2⟩ hkp (by omega)
          rw [hnb] at wb
          have Wb := Lib.hid wb
          have hlkl : lk.length = m := by rw [Hp.out.length_eq, HLm.out]
          have hull : m = ul.length := by rw [HRk.out.len, hlkl]
          obtain ⟨x, hx⟩ : ∃ x, lk[na]? = some x := ⟨_, List.getElem?_eq_getElem (by omega)⟩
          obtain ⟨z, hz2⟩ : ∃ z, lk[nb]? = some z := ⟨_, List.getElem?_eq_getElem (by omega)⟩
          have Hx := Lib.hid hx
          have Hz2 := Lib.hid hz2
          have Hull := Lib.hid hull
          have i1 : (0 : Int) ≤ (na : Int) := by omega
          have i2 : (na : Int) < (m : Int) := by omega
          have i3 : (0 : Int) ≤ (nb : Int) := by omega
          have i4 : (nb : Int) < (m : Int) := by omega
          have i5 : (0 : Int) ≤ (j : Int) := by omega
          have i6 : (j : Int) < (len5 : Int) := by omega
          have Hna := Lib.hid hna2
          have hk00 : ¬ m = 0 := by omega
          clear hx hz2 hull hlkl wb hna hnb hy hna2
          go_upto_region 17 with (fail)
          refine wp_region_held_drew (S := fun W => Keeps wk W) (by kernel_rfl) ((Keeps.refl wk).drewN 1) (fun hHeld => ?_)
          refine wpAnyH_take (i := 0) (v := ?vb0) rfl (by kernel_rfl) (by kernel_rfl) (by kernel_rfl) (fun _ _ _ h => h) (Or.inl ⟨by rfl, ?yb0⟩) hHeld ?rb0
          case yb0 => (intro W hW; go_simp; first | done | with_reducible rfl)
          try simp only [List.getElem_toArray, List.getElem_cons_zero, Act.put, List.setIfInBounds_toArray, List.set_cons_zero, List.set_cons_succ]
          refine wpAnyH_take (i := 1) (v := ?vb1) rfl (by kernel_rfl) (by kernel_rfl) (by kernel_rfl) (fun _ _ _ h => h) (Or.inl ⟨by rfl, ?yb1⟩) hHeld ?rb1
          case yb1 => (intro W hW; go_simp; first | done | with_reducible rfl)
          try simp only [List.getElem_toArray, List.getElem_cons_succ, List.getElem_cons_zero, Act.put, List.setIfInBounds_toArray, List.set_cons_zero, List.set_cons_succ]
          refine wpAnyH_take (i := 2) (v := ?vb2) rfl (by kernel_rfl) (by kernel_rfl) (by kernel_rfl) (fun _ _ _ h => h) (Or.inl ⟨by rfl, ?yb2⟩) hHeld ?rb2
          case yb2 => (intro W hW; go_simp; first | done | with_reducible rfl)
          try simp only [List.getElem_toArray, List.getElem_cons_succ, List.getElem_cons_zero, Act.put, List.setIfInBounds_toArray, List.set_cons_zero, List.set_cons_succ]
          refine wpAnyH_take (i := 3) (v := ?vb3) rfl (by kernel_rfl) (by kernel_rfl) (by kernel_rfl) (fun _ _ _ h => h) (Or.inl ⟨by rfl, ?yb3⟩) hHeld ?rb3
          case yb3 => (intro W hW; go_simp; first | done | with_reducible rfl)
          try simp only [List.getElem_toArray, List.getElem_cons_succ, List.getElem_cons_zero, Act.put, List.setIfInBounds_toArray, List.set_cons_zero, List.set_cons_succ]
          refine wpAnyH_take (i := 4) (v := ?vb4) rfl (by kernel_rfl) (by kernel_rfl) (by kernel_rfl) (fun _ _ _ h => h) (Or.inl ⟨by rfl, ?yb4⟩) hHeld ?rb4
          case yb4 => (intro W hW; go_simp; first | done | with_reducible rfl)
          try simp only [List.getElem_toArray, List.getElem_cons_succ, List.getElem_cons_zero, Act.put, List.setIfInBounds_toArray, List.set_cons_zero, List.set_cons_succ]
          refine wpAnyH_take (i := 5) (v := ?vb5) rfl (by kernel_rfl) (by kernel_rfl) (by kernel_rfl) (fun _ _ _ h => h) (Or.inl ⟨by rfl, ?yb5⟩) hHeld ?rb5
          case yb5 => (intro W hW; go_simp; first | done | with_reducible rfl)
          try simp only [List.getElem_toArray, List.getElem_cons_succ, List.getElem_cons_zero, Act.put, List.setIfInBounds_toArray, List.set_cons_zero, List.set_cons_succ]
          refine wpAnyH_take (i := 6) (v := ?vb6) rfl (by kernel_rfl) (by kernel_rfl) (by kernel_rfl) (fun _ _ _ h => h) (Or.inl ⟨by rfl, ?yb6⟩) hHeld ?rb6
          case yb6 => (intro W hW; go_simp; first | done | with_reducible rfl)
          try simp only [List.getElem_toArray, List.getElem_cons_succ, List.getElem_cons_zero, Act.put, List.setIfInBounds_toArray, List.set_cons_zero, List.set_cons_succ]
          refine wpAnyH_take (i := 7) (v := ?vb7) rfl (by kernel_rfl) (by kernel_rfl) (by kernel_rfl) (fun _ _ _ h => h) (Or.inl ⟨by rfl, ?yb7⟩) hHeld ?rb7
          case yb7 => (intro W hW; have h0 := hW _ _ hyc; go_simp; first | done | with_reducible rfl)
          try simp only [List.getElem_toArray, List.getElem_cons_succ, List.getElem_cons_zero, Act.put, List.setIfInBounds_toArray, List.set_cons_zero, List.set_cons_succ]
          refine wpAnyH_take (i := 8) (v := ?vb8) rfl (by kernel_rfl) (by kernel_rfl) (by kernel_rfl) (fun _ _ _ h => h) (Or.inl ⟨by rfl, ?yb8⟩) hHeld ?rb8
          case yb8 => (intro W hW; go_simp; first | done | with_reducible rfl)
          try simp only [List.getElem_toArray, List.getElem_cons_succ, List.getElem_cons_zero, Act.put, List.setIfInBounds_toArray, List.set_cons_zero, List.set_cons_succ]
          refine wpAnyH_take (i := 9) (v := ?vb9) rfl (by kernel_rfl) (by kernel_rfl) (by kernel_rfl) (fun _ _ _ h => h) (Or.inl ⟨by rfl, ?yb9⟩) hHeld ?rb9
          case yb9 => (intro W hW; go_simp; first | done | with_reducible rfl)
          try simp only [List.getElem_toArray, List.getElem_cons_succ, List.getElem_cons_zero, Act.put, List.setIfInBounds_toArray, List.set_cons_zero, List.set_cons_succ]
          refine wpAnyH_ready (rs := [10]) (by kernel_rfl) (by simp) ?_
          refine AllReadyH.cons rfl (fun K hK => ?_) (AllReadyH.nil)
          go_simp
          refine (Wb.out _).mono ?_
          rintro e w8 ⟨rfl, rfl⟩
          refine hK.out _ _ ((Keeps.refl wk).drewN 1) (fun hHeld => ?_)
          clear hK K
          try simp only [List.getElem_toArray, List.getElem_cons_succ, List.getElem_cons_zero, Act.put, List.setIfInBounds_toArray, List.set_cons_zero, List.set_cons_succ]
          refine wpAnyH_take (i := 11) (v := ?vb11) rfl (by kernel_rfl) (by kernel_rfl) (by kernel_rfl) (fun _ _ _ h => h) (Or.inl ⟨by rfl, ?yb11⟩) hHeld ?rb11
          case yb11 => (intro W hW; go_simp; first | done | with_reducible rfl)
          try simp only [List.getElem_toArray, List.getElem_cons_succ, List.getElem_cons_zero, Act.put, List.setIfInBounds_toArray, List.set_cons_zero, List.set_cons_succ]
          refine wpAnyH_take (i := 12) (v := ?vb12) rfl (by kernel_rfl) (by kernel_rfl) (by kernel_rfl) (fun _ _ _ h => h) (Or.inl ⟨by rfl, ?yb12⟩) hHeld ?rb12
          case yb12 => (intro W hW; go_simp; first | done | with_reducible rfl)
          try simp only [List.getElem_toArray, List.getElem_cons_succ, List.getElem_cons_zero, Act.put, List.setIfInBounds_toArray, List.set_cons_zero, List.set_cons_succ]
          refine wpAnyH_done (by kernel_rfl) ?_ _
          rw [Hna.out]
          have hx := Hx.out
          have hz2 := Hz2.out
          have hull := Hull.out
          have hRk := HRk.out
          rw [hull] at hRk
          obtain ⟨⟨pa, pb, pc, pd, pe⟩, ⟨qa, qb, qc, qd, qe⟩, hpo, hqo, ⟨q0, q1, q2, q3, q4⟩, ⟨r0, r1, r2, r3, r4⟩, hf, hu, hsw⟩ := hRk.swap hx hz2
          rw [← hull] at hsw
          obtain ⟨e1, hpc, -⟩ := hpo
          obtain ⟨e2, hqc, -⟩ := hqo
          dsimp only at e1 e2 q0 q1 q2 q3 q4 r0 r1 r2 r3 r4 hpc hqc
          obtain ⟨xc, hxc⟩ : ∃ xc, xc = x.cnt := ⟨_, rfl⟩
          obtain ⟨zc, hzc⟩ : ∃ zc, zc = z.cnt := ⟨_, rfl⟩
          rw [← hxc] at e1
          rw [← hzc] at e2
          subst e1 e2
          obtain ⟨A1, d1, f1, -⟩ := hpc.key.form
          obtain ⟨A2, d2, f2, -⟩ := hpc.sum.form
          obtain ⟨A3, d3, f3, -⟩ := hpc.mn.form
          obtain ⟨A4, d4, f4, -⟩ := hpc.mx.form
          obtain ⟨A5, d5, f5, -⟩ := hqc.key.form
          obtain ⟨A6, d6, f6, -⟩ := hqc.sum.form
          obtain ⟨A7, d7, f7, -⟩ := hqc.mn.form
          obtain ⟨A8, d8, f8, -⟩ := hqc.mx.form
          obtain ⟨n1, hn1⟩ : ∃ n, n = x.key.length := ⟨_, rfl⟩
          obtain ⟨n2, hn2⟩ : ∃ n, n = x.sum.length := ⟨_, rfl⟩
          obtain ⟨n3, hn3⟩ : ∃ n, n = x.mn.length := ⟨_, rfl⟩
          obtain ⟨n4, hn4⟩ : ∃ n, n = x.mx.length := ⟨_, rfl⟩
          obtain ⟨n5, hn5⟩ : ∃ n, n = z.key.length := ⟨_, rfl⟩
          obtain ⟨n6, hn6⟩ : ∃ n, n = z.sum.length := ⟨_, rfl⟩
          obtain ⟨n7, hn7⟩ : ∃ n, n = z.mn.length := ⟨_, rfl⟩
          obtain ⟨n8, hn8⟩ : ∃ n, n = z.mx.length := ⟨_, rfl⟩
          rw [← hn1] at f1
          rw [← hn2] at f2
          rw [← hn3] at f3
          rw [← hn4] at f4
          rw [← hn5] at f5
          rw [← hn6] at f6
          rw [← hn7] at f7
          rw [← hn8] at f8
          subst f1 f2 f3 f4 f5 f6 f7 f8
          have hp2 := (swap_perm hx hz2).trans Hp.out
          have Hp2 := Lib.hid hp2
          have hb4 := setF_bel (a := nb) (q := ⟨.slice A1 n1 d1, .int .i64 xc, .slice A2 n2 d2, .slice A3 n3 d3, .slice A4 n4 d4⟩) (setF_bel (a := na) (q := ⟨.slice A5 n5 d5, .int .i64 zc, .slice A6 n6 d6, .slice A7 n7 d7, .slice A8 n8 d8⟩) Hbk.out hgB) hgB
          simp only [setF] at hsw hb4
          have hfin := swap_fin hp2 hsw hb4
          have Hfin := Lib.hid hfin
          have Hu := Lib.hid hu
          have hf0 := hf (na * 5)
          have hf1 := hf (na * 5 + 1)
          have hf2 := hf (na * 5 + 2)
          have hf3 := hf (na * 5 + 3)
          have hf4 := hf (na * 5 + 4)
          have hf5 := hf (nb * 5)
          have hf6 := hf (nb * 5 + 1)
          have hf7 := hf (nb * 5 + 2)
          have hf8 := hf (nb * 5 + 3)
          have hf9 := hf (nb * 5 + 4)
          clear hfin Hp2 hb4 hu hsw hp2 hf hn1 hn2 hn3 hn4 hn5 hn6 hn7 hn8 hxc hzc hpc hqc hx hz2 hRk hull
          clear Hx Hz2 N5 HW Wb Hna hyc
          go_upto_region 18 with (fail)
          refine wp_region_held_drew (S := fun _ => True) (by kernel_rfl) trivial (fun hHeld => ?_)
          refine wpAnyH_take (i := 0) (v := ?vc0) rfl (by kernel_rfl) (by kernel_rfl) (by kernel_rfl) (fun _ _ _ h => h) (Or.inl ⟨by rfl, ?yc0⟩) hHeld ?rc0
          case yc0 => (intro W hW; go_simp; first | done | with_reducible rfl)
          try simp only [List.getElem_toArray, List.getElem_cons_zero, Act.put, List.setIfInBounds_toArray, List.set_cons_zero, List.set_cons_succ]
          refine wpAnyH_take (i := 1) (v := ?vc1) rfl (by kernel_rfl) (by kernel_rfl) (by kernel_rfl) (fun _ _ _ h => h) (Or.inl ⟨by rfl, ?yc1⟩) hHeld ?rc1
          case yc1 => (intro W hW; go_simp; first | done | with_reducible rfl)
          try simp only [List.getElem_toArray, List.getElem_cons_succ, List.getElem_cons_zero, Act.put, List.setIfInBounds_toArray, List.set_cons_zero, List.set_cons_succ]
          refine wpAnyH_take (i := 2) (v := ?vc2) rfl (by kernel_rfl) (by kernel_rfl) (by kernel_rfl) (fun _ _ _ h => h) (Or.inl ⟨by rfl, ?yc2⟩) hHeld ?rc2
          case yc2 => (intro W hW; go_simp; first | done | with_reducible rfl)
          try simp only [List.getElem_toArray, List.getElem_cons_succ, List.getElem_cons_zero, Act.put, List.setIfInBounds_toArray, List.set_cons_zero, List.set_cons_succ]
          refine wpAnyH_take (i := 3) (v := ?vc3) rfl (by kernel_rfl) (by kernel_rfl) (by kernel_rfl) (fun _ _ _ h => h) (Or.inl ⟨by rfl, ?yc3⟩) hHeld ?rc3
          case yc3 => (intro W hW; go_simp; first | done | with_reducible rfl)
          try simp only [List.getElem_toArray, List.getElem_cons_succ, List.getElem_cons_zero, Act.put, List.setIfInBounds_toArray, List.set_cons_zero, List.set_cons_succ]
          refine wpAnyH_take (i := 4) (v := ?vc4) rfl (by kernel_rfl) (by kernel_rfl) (by kernel_rfl) (fun _ _ _ h => h) (Or.inl ⟨by rfl, ?yc4⟩) hHeld ?rc4
          case yc4 => (intro W hW; go_simp; first | done | with_reducible rfl)
          try simp only [List.getElem_toArray, List.getElem_cons_succ, List.getElem_cons_zero, Act.put, List.setIfInBounds_toArray, List.set_cons_zero, List.set_cons_succ]
          refine wpAnyH_take (i := 5) (v := ?vc5) rfl (by kernel_rfl) (by kernel_rfl) (by kernel_rfl) (fun _ _ _ h => h) (Or.inl ⟨by rfl, ?yc5⟩) hHeld ?rc5
          case yc5 => (intro W hW; go_simp; first | done | with_reducible rfl)
          try simp only [List.getElem_toArray, List.getElem_cons_succ, List.getElem_cons_zero, Act.put, List.setIfInBounds_toArray, List.set_cons_zero, List.set_cons_succ]
          refine wpAnyH_take (i := 6) (v := ?vc6) rfl (by kernel_rfl) (by kernel_rfl) (by kernel_rfl) (fun _ _ _ h => h) (Or.inl ⟨by rfl, ?yc6⟩) hHeld ?rc6
          case yc6 => (intro W hW; go_simp; first | done | with_reducible rfl)
          try simp only [List.getElem_toArray, List.getElem_cons_succ, List.getElem_cons_zero, Act.put, List.setIfInBounds_toArray, List.set_cons_zero, List.set_cons_succ]
          refine wpAnyH_take (i := 8) (v := ?vc8) rfl (by kernel_rfl) (by kernel_rfl) (by kernel_rfl) (fun _ _ _ h => h) (Or.inl ⟨by rfl, ?yc8⟩) hHeld ?rc8
          case yc8 => (intro W hW; go_simp; first | done | with_reducible rfl)
          try simp only [List.getElem_toArray, List.getElem_cons_succ, List.getElem_cons_zero, Act.put, List.setIfInBounds_toArray, List.set_cons_zero, List.set_cons_succ]
          refine wpAnyH_take (i := 9) (v := ?vc9) rfl (by kernel_rfl) (by kernel_rfl) (by kernel_rfl) (fun _ _ _ h => h) (Or.inl ⟨by rfl, ?yc9⟩) hHeld ?rc9
          case yc9 => (intro W hW; go_simp; first | done | with_reducible rfl)
          try simp only [List.getElem_toArray, List.getElem_cons_succ, List.getElem_cons_zero, Act.put, List.setIfInBounds_toArray, List.set_cons_zero, List.set_cons_succ]
          refine wpAnyH_take (i := 10) (v := ?vc10) rfl (by kernel_rfl) (by kernel_rfl) (by kernel_rfl) (fun _ _ _ h => h) (Or.inl ⟨by rfl, ?yc10⟩) hHeld ?rc10
          case yc10 => (intro W hW; go_simp; first | done | with_reducible rfl)
          try simp only [List.getElem_toArray, List.getElem_cons_succ, List.getElem_cons_zero, Act.put, List.setIfInBounds_toArray, List.set_cons_zero, List.set_cons_succ]
          refine wpAnyH_ready (rs := [7, 11]) (by kernel_rfl) (by simp) ?_
          refine AllReadyH.cons rfl (fun K hK => ?_) (AllReadyH.cons rfl (fun K hK => ?_) AllReadyH.nil)
          · go_simp
            refine hK.out _ _ trivial (fun hHeld => ?_)
            clear hK K
            try simp only [List.getElem_toArray, List.getElem_cons_succ, List.getElem_cons_zero, Act.put, List.setIfInBounds_toArray, List.set_cons_zero, List.set_cons_succ]
            refine wpAnyH_ready (rs := [11]) (by kernel_rfl) (by simp) ?_
            refine AllReadyH.cons rfl (fun K hK => ?_) AllReadyH.nil
            go_simp
            refine hK.out _ _ trivial (fun hHeld => ?_)
            clear hK K
            try simp only [List.getElem_toArray, List.getElem_cons_succ, List.getElem_cons_zero, Act.put, List.setIfInBounds_toArray, List.set_cons_zero, List.set_cons_succ]
            refine wpAnyH_take (i := 12) (v := ?vd12) rfl (by kernel_rfl) (by kernel_rfl) (by kernel_rfl) (fun _ _ _ h => h) (Or.inl ⟨by rfl, ?yd12⟩) hHeld ?rd12
            case yd12 => (intro W hW; go_simp; first | done | with_reducible rfl)
            try simp only [List.getElem_toArray, List.getElem_cons_succ, List.getElem_cons_zero, Act.put, List.setIfInBounds_toArray, List.set_cons_zero, List.set_cons_succ]
            refine wpAnyH_ready (rs := [13]) (by kernel_rfl) (by simp) ?_
            refine AllReadyH.cons rfl (fun K hK => ?_) AllReadyH.nil
            go_simp
            refine hK.out _ _ trivial (fun hHeld => ?_)
            clear hK K
            try simp only [List.getElem_toArray, List.getElem_cons_succ, List.getElem_cons_zero, Act.put, List.setIfInBounds_toArray, List.set_cons_zero, List.set_cons_succ]
            refine wpAnyH_take (i := 14) (v := ?vd14) rfl (by kernel_rfl) (by kernel_rfl) (by kernel_rfl) (fun _ _ _ h => h) (Or.inl ⟨by rfl, ?yd14⟩) hHeld ?rd14
            case yd14 => (intro W hW; go_simp; first | done | with_reducible rfl)
            try simp only [List.getElem_toArray, List.getElem_cons_succ, List.getElem_cons_zero, Act.put, List.setIfInBounds_toArray, List.set_cons_zero, List.set_cons_succ]
            obtain ⟨⟨u0, hu0⟩, ⟨u1, hu1⟩, ⟨u2, hu2⟩, ⟨u3, hu3⟩, ⟨u4, hu4⟩⟩ := Hu.out
            dsimp only at hu0 hu1 hu2 hu3 hu4
            refine wpAnyH_ready (rs := [15]) (by kernel_rfl) (by simp) ?_
            refine AllReadyH.cons rfl (fun K hK => ?_) AllReadyH.nil
            go_simp
            refine hK.out _ _ trivial (fun hHeld => ?_)
            clear hK K
            try simp only [List.getElem_toArray, List.getElem_cons_succ, List.getElem_cons_zero, Act.put, List.setIfInBounds_toArray, List.set_cons_zero, List.set_cons_succ]
            refine wpAnyH_done (by kernel_rfl) ?_ _
            go_wp2
            clear hu0 hu1 hu2 hu3 hu4 hf0 hf1 hf2 hf3 hf4 hf5 hf6 hf7 hf8 hf9 q0 q1 q2 q3 q4 r0 r1 r2 r3 r4
            refine ⟨⟨j + 1, ?_, ?_, ?_, Hfin.out⟩, ?_⟩
            · omega
            · omega
            · go_num
            · simp [intOf]; omega
          · go_simp
            refine hK.out _ _ trivial (fun hHeld => ?_)
            clear hK K
            try simp only [List.getElem_toArray, List.getElem_cons_succ, List.getElem_cons_zero, Act.put, List.setIfInBounds_toArray, List.set_cons_zero, List.set_cons_succ]
            refine wpAnyH_ready (rs := [7]) (by kernel_rfl) (by simp) ?_
            refine AllReadyH.cons rfl (fun K hK => ?_) AllReadyH.nil
            go_simp
            refine hK.out _ _ trivial (fun hHeld => ?_)
            clear hK K
            try simp only [List.getElem_toArray, List.getElem_cons_succ, List.getElem_cons_zero, Act.put, List.setIfInBounds_toArray, List.set_cons_zero, List.set_cons_succ]
            refine wpAnyH_take (i := 12) (v := ?ve12) rfl (by kernel_rfl) (by kernel_rfl) (by kernel_rfl) (fun _ _ _ h => h) (Or.inl ⟨by rfl, ?ye12⟩) hHeld ?re12
            case ye12 => (intro W hW; go_simp; first | done | with_reducible rfl)
            try simp only [List.getElem_toArray, List.getElem_cons_succ, List.getElem_cons_zero, Act.put, List.setIfInBounds_toArray, List.set_cons_zero, List.set_cons_succ]
            refine wpAnyH_ready (rs := [13]) (by kernel_rfl) (by simp) ?_
            refine AllReadyH.cons rfl (fun K hK => ?_) AllReadyH.nil
            go_simp
            refine hK.out _ _ trivial (fun hHeld => ?_)
            clear hK K
            try simp only [List.getElem_toArray, List.getElem_cons_succ, List.getElem_cons_zero, Act.put, List.setIfInBounds_toArray, List.set_cons_zero, List.set_cons_succ]
            refine wpAnyH_take (i := 14) (v := ?ve14) rfl (by kernel_rfl) (by kernel_rfl) (by kernel_rfl) (fun _ _ _ h => h) (Or.inl ⟨by rfl, ?ye14⟩) hHeld ?re14
            case ye14 => (intro W hW; go_simp; first | done | with_reducible rfl)
            try simp only [List.getElem_toArray, List.getElem_cons_succ, List.getElem_cons_zero, Act.put, List.setIfInBounds_toArray, List.set_cons_zero, List.set_cons_succ]
            obtain ⟨⟨u0, hu0⟩, ⟨u1, hu1⟩, ⟨u2, hu2⟩, ⟨u3, hu3⟩, ⟨u4, hu4⟩⟩ := Hu.out
            dsimp only at hu0 hu1 hu2 hu3 hu4
            refine wpAnyH_ready (rs := [15]) (by kernel_rfl) (by simp) ?_
            refine AllReadyH.cons rfl (fun K hK => ?_) AllReadyH.nil
            go_simp
            refine hK.out _ _ trivial (fun hHeld => ?_)
            clear hK K
            try simp only [List.getElem_toArray, List.getElem_cons_succ, List.getElem_cons_zero, Act.put, List.setIfInBounds_toArray, List.set_cons_zero, List.set_cons_succ]
            refine wpAnyH_done (by kernel_rfl) ?_ _
            go_wp2
            clear hu0 hu1 hu2 hu3 hu4 hf0 hf1 hf2 hf3 hf4 hf5 hf6 hf7 hf8 hf9 q0 q1 q2 q3 q4 r0 r1 r2 r3 r4
            refine ⟨⟨j + 1, ?_, ?_, ?_, Hfin.out⟩, ?_⟩
            · omega
            · omega
            · go_num
            · simp [intOf]; omega
        · have fin : ∃ ul lk, lk.Perm L ∧ GRs w4.heap.size wk (.slice (some ⟨gm, 0, none⟩) m cm) ul lk ∧ Below wx.heap.size wx wk := ⟨ul, lk, Hp.out, HRk.out, Hbk.out⟩
          have Fin := Lib.hid fin
          have hout : ¬ j < len5 ∨ (j < len5 ∧ ¬ j < 40) ∨ (j < len5 ∧ j < 40 ∧ ¬ 0 < m) := by omega
          clear fin hlt
          rcases hout with h | ⟨h, h'⟩ | ⟨h, h', h''⟩
          all_goals
            go_wp2
            go_meet
            exact Fin.out
    case rest =>
      obtain ⟨ul, lk, hp, hRk, hbk⟩ := hcut
      rename World => wy
      have hlkl : m = lk.length := by rw [hp.length_eq, HLm.out]
      obtain ⟨rm, -⟩ := hRk.rowC
      have he : grpR lk = G := by rw [grpR_perm hp, HG.out]
      have hgrp := GRP.out (some ⟨gm, 0, none⟩) cm m lk wy rm (fun x hx => HLe.out x (hp.mem_iff.1 hx)) (fun x hx => HLk.out x (hp.mem_iff.1 hx)) hlkl (Nat.le_refl _)
      rw [he] at hgrp
      have hfew : FewC G := fun x hx => by
        have h1 := HGk.out x hx
        obtain ⟨h2, h3, h4⟩ := HGe.out x hx
        omega
      have Hfew := Lib.hid hfew
      have Hgrp := Lib.hid hgrp
      have rg2 := HRG.out.keep (Keeps.of_below (Hbx.out.trans (hbk.mono Hbx.out.size)))
      have HR2 := Lib.hid rg2
      have Hf := Lib.hid (H6x.out.trans (hbk.mono H6x.out.size))
      clear hgrp hfew rg2 he rm hlkl hp hRk hbk HGM Hbm N5 HW HFL HGp HGc HGr
      go_wp2_with fail
      refine Hgrp.out.mono ?_
      rintro e w8 ⟨v2, us2, rfl, hg2, hb8⟩
      obtain ⟨P2, c2, f2, -⟩ := hg2.form
      have hN2 : us2.length = N := by rw [hg2.len, HN.out]
      rw [hN2] at f2
      subst f2
      have R2 := Lib.hid hg2.rowC.1
      have HR8 := Lib.hid (HR2.out.keep (Keeps.of_below hb8))
      have Hf8 := Lib.hid (Hf.out.trans (hb8.mono Hf.out.size))
      clear hg2 hb8 hN2 Hgrp
      go_wp2_with fail
      refine (same_yes P2 Pg N c2 cg G w8 R2.out HR8.out HN.out Hfew.out (by omega)).mono ?_
      rintro e w9 ⟨rfl, hb9⟩
      have HR9 := Lib.hid (HR8.out.keep (Keeps.of_below hb9))
      have Hf9 := Lib.hid (Hf8.out.trans (hb9.mono Hf8.out.size))
      have hgrp := GRP.out Pg cg N G w9 HR9.out HGe.out HGk.out HN.out hGl
      rw [HGG.out] at hgrp
      have Hgrp := Lib.hid hgrp
      clear hgrp hb9
      go_wp2_with fail
      refine Hgrp.out.mono ?_
      rintro e w10 ⟨v3, us3, rfl, hg3, hb10⟩
      obtain ⟨P3, c3, f3, -⟩ := hg3.form
      have hN3 : us3.length = N := by rw [hg3.len, HN.out]
      rw [hN3] at f3
      subst f3
      have R3 := Lib.hid hg3.rowC.1
      have HR10 := Lib.hid (HR9.out.keep (Keeps.of_below hb10))
      have Hf10 := Lib.hid (Hf9.out.trans (hb10.mono Hf9.out.size))
      clear hg3 hb10 hN3 Hgrp
      go_wp2_with fail
      refine (same_yes P3 Pg N c3 cg G w10 R3.out HR10.out HN.out Hfew.out (by omega)).mono ?_
      rintro e w11 ⟨rfl, hb11⟩
      have Hf11 := Lib.hid (Hf10.out.trans (hb11.mono Hf10.out.size))
      clear hb11
      go_wp2
      go_ret
      exact ⟨rfl, Hf11.out⟩
end Go.Proofs.YtpejdafijeagnaaDoor
