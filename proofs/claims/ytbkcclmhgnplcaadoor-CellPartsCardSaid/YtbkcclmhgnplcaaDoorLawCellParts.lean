/- The law CellParts. -/
import Derived.Test.YtbkcclmhgnplcaaDoorRfacts
namespace Go.Proofs.YtbkcclmhgnplcaaDoor
open Go.RowKit Go.Shelf
theorem parts_step {K P R : List Cel} : grpR (K ++ grpR P ++ R) = grpR (K ++ (P ++ R)) := by
  have h1 : (K ++ grpR P ++ R).Perm ((K ++ R) ++ grpR P) := by
    rw [List.append_assoc, List.append_assoc]
    exact List.Perm.append_left K List.perm_append_comm
  have h2 : ((K ++ R) ++ P).Perm (K ++ (P ++ R)) := by
    rw [List.append_assoc]
    exact List.Perm.append_left K List.perm_append_comm
  rw [grpR_perm h1, grpR_parts, grpR_perm h2]
theorem RowC.take {w : World} {P : Option Addr} {N k : Nat} {L : List Cel} (h : RowC w P N L) (hk : k ≤ N) : RowC w P k (L.take k) := fun hn => by
  obtain ⟨ad, e, hc⟩ := h (by omega)
  exact ⟨ad, e, hc.take k⟩
theorem RowC.drop {w : World} {P : Option Addr} {N k c : Nat} {L : List Cel} (h : RowC w P N L) (_hk : k ≤ N) (hc : N ≤ c) : RowC w (if c = k then P else Option.map (fun x => x.add (k * 5)) P) (N - k) (L.drop k) := fun hn => by
  obtain ⟨ad, rfl, hcs⟩ := h (by omega)
  exact ⟨_, by rw [if_neg (by omega)]; rfl, hcs.drop k⟩
/-- What a group-by of the call's own is to be appended of. -/
theorem GRs.app {B B' C c m : Nat} {X : World} {v : Value} {us us2 : List V5} {J J2 : List Cel} {A : Option Addr} (h : GRs B X v us J) (h2 : GRs B' X (.slice A m c) us2 J2) (hb : B ≤ B') (hl : us.length + m ≤ 1000000) (hB : B ≤ X.heap.size) (hC : C ≤ B) :
    ∃ v' X3, (Builtin.append_ #[31, 31] 31 #[v, .slice A m c]).run Tryd.prog X = .ok v' X3 ∧ GRs B X3 v' (us ++ us2) (J ++ J2) ∧ Below C X X3 := by
  obtain ⟨hul, hmc, hp1, hp2, -, -⟩ := h2.parts (i := m) (Nat.le_refl _)
  have ht : us2.take m = us2 := List.take_of_length_le (by omega)
  rw [ht] at hp1
  obtain ⟨v', X3, h3, h4, h5, -⟩ := app_part (C := C) h (h2.2.mono hb) hul.symm hmc hp2 hp1 hl hB (Nat.le_trans hC hB) (fun b hv => Nat.le_trans hC (h.1.lt b hv).1)
  exact ⟨v', X3, h3, h4, h5⟩
set_option maxRecDepth 100000 in
set_option maxHeartbeats 8000000 in
theorem cellParts_walk (a0 : Int) (a1 : Option Addr) (len1 cap1 : Nat) (z1 : List Int) (a2 : Int) (a3 : Option Addr) (len3 cap3 : Nat) (z3 : List Int) (a4 : Int) (a5 : Option Addr) (len5 cap5 : Nat) (z5 : List Int) (w : World) (h0 : inK .i64 a0) (w1 : IsRow .i64 w a1 len1 cap1 z1) (h2 : inK .i64 a2) (w3 : IsRow .i64 w a3 len3 cap3 z3) (h4 : inK .i64 a4) (w5 : IsRow .i64 w a5 len5 cap5 z5) (hT : Tab w) (hw1 : 1 < w.heap.size) :
    Calls Tryd.prog 12 #[.int .i64 a0, .slice a1 len1 cap1, .int .i64 a2, .slice a3 len3 cap3, .int .i64 a4, .slice a5 len5 cap5] w fun e w' => e = .returned (.bool true) ∧ Below w.heap.size w w' := by
  obtain ⟨n1, lc1, cm1⟩ := w1.nums
  obtain ⟨n3, lc3, cm3⟩ := w3.nums
  obtain ⟨n5, lc5, cm5⟩ := w5.nums
  generalize z5.take len5 = ys at n5
  have N5 := Lib.hid n5
  clear n5 w5
  have N1 := Lib.hid n1
  have N3 := Lib.hid n3
  have HKn := Lib.hid (known_any w hT hw1)
  have HT := Lib.hid hT
  clear w1 w3 n1 n3 hT
  go_enter Tryd.func12, Tryd.ntmps12
  go_wp2_with fail
  refine HKn.out.mono ?_
  rintro e w1 ⟨rfl, hb1⟩
  have Hb1 := Lib.hid hb1
  clear hb1 HKn
  go_wp2_with fail
  refine (Facts_res a0 a2 a1 a3 len1 cap1 len3 cap3 _ _ w1 (N1.out.keep (Keeps.of_below Hb1.out)) (N3.out.keep (Keeps.of_below Hb1.out)) (by omega) (by omega) h0 h2).mono ?_
  rintro e w2 ⟨A, c, D, d, C, q, mm, m, cs, l, rfl, hF⟩
  have F := Lib.hid hF
  obtain ⟨k1, k2, k3, k4⟩ : 1 ≤ q ∧ q ≤ 4 ∧ mm ≤ 2 ∧ m ≤ 40 := ⟨hF.q1, hF.q4, hF.m2, hF.m40⟩
  have hb2 : Below w.heap.size w w2 := Hb1.out.trans (hF.below.mono Hb1.out.size)
  have hb3 : Below w2.heap.size w2 (w2.alloc (.cells #[.slice A q c, .int .i64 mm] 25)) := (Below.refl _ _).alloc (Nat.le_refl _) _
  have hos : Own 25 (w2.alloc (.cells #[.slice A q c, .int .i64 mm] 25)) w2.heap.size [.slice A q c, .int .i64 mm] := heap_alloc_new w2 _
  obtain ⟨s1, s2, s3⟩ := set_bd a4 q k1 k2
  have Hb2 := Lib.hid hb2
  have Hb3 := Lib.hid hb3
  have OS3 := Lib.hid hos
  clear hF hb2 hb3 hos N1 N3
  go_wp2_with fail
  refine (set_any A q c mm a4 _ k1 k2 h4).mono ?_
  rintro e w4 ⟨rfl, rfl⟩
  obtain ⟨sa, hsa⟩ : ∃ sa, sa = a4 % 2 ^ q := ⟨_, rfl⟩
  rw [← hsa] at s1 s2 s3 ⊢
  have hst := fun W => set_any A q c mm a4 W k1 k2 h4
  simp only [← hsa] at hst
  have HST := Lib.hid hst
  clear hsa hst
  have hb4 : Below w2.heap.size w2 ((w2.alloc (.cells #[.slice A q c, .int .i64 mm] 25)).alloc (.cells #[.slice A q c, .int .i64 mm] 25)) := Hb3.out.alloc Hb3.out.size _
  have HB4 := Lib.hid hb4
  have OS4 := Lib.hid (OS3.out.alloc (.cells #[.slice A q c, .int .i64 mm] 25))
  clear hb4
  generalize (w2.alloc (.cells #[.slice A q c, .int .i64 mm] 25)).alloc (.cells #[.slice A q c, .int .i64 mm] 25) = w4 at HB4 OS4 ⊢
  have hl4 : ∀ r ∈ l, r.key.length = q ∧ r.m.length = mm := F.out.lens
  have HL4 := Lib.hid (fun r hr => (show r.key.length ≤ 4 ∧ r.m.length = mm from ⟨by rw [(hl4 r hr).1]; exact k2, (hl4 r hr).2⟩))
  have Hmk := Lib.hid (fun W (hW : Below w2.heap.size w2 W) => make_any D m d C sa l W (F.out.rows.below hW (Nat.le_refl _)) F.out.em k4 F.out.small (fun r hr => by have := hl4 r hr; omega) s1 s2)
  obtain ⟨L, hL⟩ : ∃ L, L = l.map (ofC sa) := ⟨_, rfl⟩
  have hLm : L.length = m := by rw [hL, List.length_map, F.out.em]
  have hLo : ∀ x ∈ L, EvenC mm x ∧ x.key.length ≤ 1000000 := by
    rw [hL]
    exact ofC_even (set := sa) HL4.out
  have HLo := Lib.hid hLo
  have HLm := Lib.hid hLm
  have HLL := Lib.hid hL
  rw [← hL] at Hmk
  have Hb24 := Lib.hid (Hb2.out.trans (HB4.out.mono Hb2.out.size))
  have GRP := Lib.hid (fun (P : Option Addr) (c N : Nat) (K : List Cel) (W : World) (hK : RowC W P N K) (he : ∀ x ∈ K, EvenC mm x ∧ x.key.length ≤ 1000000) (hN : N = K.length) (hn : N ≤ 60) => groupR_any P c N K mm W hK (fun x h => (he x h).1) (fun x h => (he x h).2) (by omega) hN hn)
  have HFA := Lib.hid (fun (set : Int) (W : World) (hW : Below w2.heap.size w2 W) (e1 : 0 ≤ set) (e2 : set ≤ 15) => rFacts_any D m d C mm set l W (F.out.rows.below hW (Nat.le_refl _)) F.out.em k4 F.out.small HL4.out (by omega) e1 e2)
  have HSM := Lib.hid (fun (P Q : Option Addr) (N c d : Nat) (K : List Cel) (W : World) (r1 : RowC W P N K) (r2 : RowC W Q N K) (hN : N = K.length) (he : ∀ x ∈ K, EvenC mm x ∧ x.key.length ≤ 1000000) (hn : N ≤ 1000000) => same_yes P Q N c d K W r1 r2 hN (fun x hx => by
    obtain ⟨⟨e1, e2, e3⟩, e4⟩ := he x hx
    omega) hn)
  clear hl4 hL hLm hLo
  go_wp2_with fail
  refine (Hmk.out _ HB4.out).mono ?_
  rintro e w5 ⟨lv, us, rfl, hg, hb5⟩
  obtain ⟨Pl, cl, fl, lcl, -⟩ := hg.form
  have hul := hg.len
  rw [HLm.out] at hul
  rw [hul] at fl lcl
  subst fl
  have RL := Lib.hid hg.rowC.1
  have HB5 := Lib.hid hb5
  have H25 := Lib.hid (HB4.out.trans (hb5.mono HB4.out.size))
  have H05 := Lib.hid (Hb24.out.trans (hb5.mono Hb24.out.size))
  have OS5 := Lib.hid (OS4.out.below hb5 OS4.out.lt)
  clear hg hb5 hul Hmk OS3 OS4
  go_upto_block 0 with (fail)
  go_cut [16, 17] (fun s16 s17 wx => ∃ (ua : List V5) (K : List Cel) (A : Option Addr) (r c : Nat) (R : List Cel), s17 = .slice A r c ∧ r = R.length ∧ r ≤ c ∧ RowC w5 A r R ∧ GRs w5.heap.size wx s16 ua K ∧ grpR (K ++ R) = grpR L ∧ K.length + R.length ≤ m ∧ (∀ x ∈ K, EvenC mm x ∧ x.key.length ≤ 1000000) ∧ (∀ x ∈ R, EvenC mm x ∧ x.key.length ≤ 1000000) ∧ Below w5.heap.size w5 wx)
  case first =>
    go_wp2_with fail
    go_loopw [16, 17, 18] (fun s16 s17 s18 wx => ∃ (j : Nat) (ua : List V5) (K : List Cel) (A : Option Addr) (r c : Nat) (R : List Cel), s18 = .int .i64 j ∧ j ≤ 9 ∧ j ≤ len5 ∧ s17 = .slice A r c ∧ r = R.length ∧ r ≤ c ∧ RowC w5 A r R ∧ GRs w5.heap.size wx s16 ua K ∧ grpR (K ++ R) = grpR L ∧ K.length + R.length ≤ m ∧ (∀ x ∈ K, EvenC mm x ∧ x.key.length ≤ 1000000) ∧ (∀ x ∈ R, EvenC mm x ∧ x.key.length ≤ 1000000) ∧ Below w5.heap.size w5 wx) (fun _ _ s18 _ => 9 - (intOf s18).toNat)
    case atStart => exact ⟨0, [], [], Pl, m, cl, L, rfl, by omega, by omega, rfl, HLm.out.symm, lcl, RL.out, GRs.nil _ _, rfl, by rw [HLm.out]; simp, (fun x h => by cases h), HLo.out, Below.refl _ _⟩
    case round =>
      rename World => wr
      obtain ⟨j, ua, K, Ar, r, cr, R, rfl, hj9, hj5, rfl, hr, hrc, hrow, hgk, hgrp, hlen, hKo, hRo, hb⟩ := hrel
      have Hr := Lib.hid hr
      have Hrow := Lib.hid hrow
      have Hgk := Lib.hid hgk
      have Hgrp := Lib.hid hgrp
      have Hlen := Lib.hid hlen
      have HKo := Lib.hid hKo
      have HRo := Lib.hid hRo
      have Hb := Lib.hid hb
      have hrm : r ≤ 40 := by omega
      clear hr hrow hgk hgrp hlen hKo hRo hb
      by_cases hlt : j < len5 ∧ j < 9
      · obtain ⟨hl1, hl6⟩ := hlt
        obtain ⟨yd, y, rfl, hy, hyk, hyc⟩ := (N5.out.keep (Keeps.of_below (H05.out.trans (Hb.out.mono H05.out.size)))).at_ hl1
        obtain ⟨k, hk⟩ : ∃ k : Nat, y % ((r : Int) + 1) = k := Int.eq_ofNat_of_zero_le (Int.emod_nonneg y (by omega))
        have hkr : k ≤ r := by have := Int.emod_lt_of_pos y (show (0 : Int) < (r : Int) + 1 by omega); omega
        have rr : IntKind.i64.wrap ((r : Int) + 1) = (r : Int) + 1 := IntWalk.i64_in _ (by omega)
        have wb := fun W => lwithin2 y ((r : Int) + 1) W hyk (by omega) (by omega)
        rw [hk] at wb
        have Wb := Lib.hid wb
        have i0 : (0 : Int) ≤ (j : Int) := by omega
        have i1 : (j : Int) < (len5 : Int) := by omega
        have i2 : (0 : Int) ≤ (k : Int) := by omega
        have i3 : (k : Int) ≤ (r : Int) := by omega
        have i4 : (k : Int) ≤ (cr : Int) := by omega
        have hgt := GRP.out Ar cr k (R.take k) wr ((Hrow.out.keep (Keeps.of_below Hb.out)).take hkr) (fun x h => HRo.out x (List.mem_of_mem_take h)) (by rw [List.length_take, ← Hr.out]; omega) (by omega)
        have Hgt := Lib.hid hgt
        clear hy hyk hk wb hgt
        go_wp2_with fail
        refine (Wb.out _).mono ?_
        rintro e w8 ⟨rfl, rfl⟩
        clear Wb
        go_wp2_with fail
        refine Hgt.out.mono ?_
        rintro e w9 ⟨v, ug, rfl, hg, hb9⟩
        obtain ⟨Pv, cv, fv, -⟩ := hg.form
        have hgl := hg.len
        have hgm := grp_le (R.take k)
        obtain ⟨nv, hnv⟩ : ∃ nv, nv = ug.length := ⟨_, rfl⟩
        rw [← hnv] at fv hgl
        subst fv
        have hlk : (R.take k).length = min k R.length := List.length_take
        have hrl := Hr.out
        have hKl := Hlen.out
        have hul := Hgk.out.len
        obtain ⟨v', X3, hrun, hg3, hb3⟩ := (Hgk.out.below hb9).app (C := w5.heap.size) hg Hb.out.size (by omega) (Nat.le_trans Hb.out.size hb9.size) (Nat.le_refl _)
        have hbX := Hb.out.trans (hb9.mono Hb.out.size)
        have hbF := hbX.trans hb3
        have HBF := Lib.hid hbF
        have HG3 := Lib.hid hg3
        have Hrun := Lib.hid hrun
        have HRow3 := Lib.hid (Hrow.out.drop (c := cr) hkr hrc)
        have hlen3 : (K ++ grpR (R.take k)).length + (R.drop k).length ≤ m := by rw [List.length_append, List.length_drop]; omega
        have Hlen3 := Lib.hid hlen3
        clear hg hb9 hgl hgm hnv hlk hrl hKl hul hrun hg3 hb3 hbX hbF hlen3 Hgt
        go_wp2_with (at_builtin; have _t := Hrun; refine wpList_append_eq rfl (.tmp 54) (.tmp 58) 31 rfl _ _ _ _ rfl rfl Hrun.out ?_; clear _t Hrun)
        go_roundw
        case rel =>
          refine ⟨j + 1, _, K ++ grpR (R.take k), _, r - k, cr - k, R.drop k, by go_num, by omega, by omega, rfl, ?_, by omega, HRow3.out, HG3.out, ?_, Hlen3.out, ?_, ?_, HBF.out⟩
          · rw [List.length_drop, ← Hr.out]
          · rw [parts_step, List.take_append_drop, Hgrp.out]
          · intro x hx
            rcases List.mem_append.1 hx with h | h
            · exact HKo.out x h
            · exact grp_ok (fun y hy => HRo.out y (List.mem_of_mem_take hy)) x h
          · exact fun x hx => HRo.out x (List.mem_of_mem_drop hx)
        case measure => simp [intOf]; omega
      · have hout : ¬ j < len5 ∨ (j < len5 ∧ ¬ j < 9) := by omega
        have fin : ∃ (ua : List V5) (K : List Cel) (A : Option Addr) (r' c : Nat) (R : List Cel), Value.slice Ar r cr = .slice A r' c ∧ r' = R.length ∧ r' ≤ c ∧ RowC w5 A r' R ∧ GRs w5.heap.size wr u16 ua K ∧ grpR (K ++ R) = grpR L ∧ K.length + R.length ≤ m ∧ (∀ x ∈ K, EvenC mm x ∧ x.key.length ≤ 1000000) ∧ (∀ x ∈ R, EvenC mm x ∧ x.key.length ≤ 1000000) ∧ Below w5.heap.size w5 wr := ⟨ua, K, Ar, r, cr, R, rfl, Hr.out, hrc, Hrow.out, Hgk.out, Hgrp.out, Hlen.out, HKo.out, HRo.out, Hb.out⟩
        have Fin := Lib.hid fin
        clear hlt fin
        rcases hout with h | ⟨h, h'⟩
        all_goals
          go_wp2
          go_meet
          exact Fin.out
  case rest =>
    rename World => wx
    obtain ⟨ua, K, Ar, r, cr, R, rfl, hr, hrc, hrow, hgk, hgrp, hlen, hKo, hRo, hb⟩ := hcut
    have Hr := Lib.hid hr
    have Hgk := Lib.hid hgk
    have Hgrp := Lib.hid hgrp
    have Hlen := Lib.hid hlen
    have HKo := Lib.hid hKo
    have HRo := Lib.hid hRo
    have Hb := Lib.hid hb
    have hrm : r ≤ 40 := by omega
    have Hgt := Lib.hid (GRP.out Ar cr r R wx (hrow.keep (Keeps.of_below hb)) hRo hr (by omega))
    clear hr hrow hgk hgrp hlen hKo hRo hb
    go_wp2_with fail
    refine Hgt.out.mono ?_
    rintro e w9 ⟨v, ug, rfl, hg, hb9⟩
    obtain ⟨Pv, cv, fv, -⟩ := hg.form
    have hgl := hg.len
    have hgm := grp_le R
    obtain ⟨nv, hnv⟩ : ∃ nv, nv = ug.length := ⟨_, rfl⟩
    rw [← hnv] at fv hgl
    subst fv
    have hrl := Hr.out
    have hKl := Hlen.out
    have hul := Hgk.out.len
    obtain ⟨v', X3, hrun, hg3, hb3⟩ := (Hgk.out.below hb9).app (C := w5.heap.size) hg Hb.out.size (by omega) (Nat.le_trans Hb.out.size hb9.size) (Nat.le_refl _)
    have hbF := (Hb.out.trans (hb9.mono Hb.out.size)).trans hb3
    obtain ⟨Px, cx, fx, -⟩ := hg3.form
    obtain ⟨nx, hnx⟩ : ∃ nx, nx = (ua ++ ug).length := ⟨_, rfl⟩
    rw [← hnx] at fx
    subst fx
    have hnx2 : nx = (K ++ grpR R).length := by rw [hnx, List.length_append, List.length_append, ← hul, hg.len]
    have hok : ∀ x ∈ K ++ grpR R, EvenC mm x ∧ x.key.length ≤ 1000000 := fun x hx => by
      rcases List.mem_append.1 hx with h | h
      · exact HKo.out x h
      · exact grp_ok HRo.out x h
    have hn60 : nx ≤ 60 := by rw [hnx2, List.length_append]; omega
    have he : grpR (K ++ grpR R) = grpR L := by
      have h := parts_step (K := K) (P := R) (R := [])
      rw [List.append_nil, List.append_nil] at h
      rw [h, Hgrp.out]
    have hgr2 := fun W (hW : Keeps X3 W) => GRP.out Px cx nx _ W (hg3.rowC.1.keep hW) hok hnx2 hn60
    rw [he] at hgr2
    have HGR2 := Lib.hid hgr2
    obtain ⟨NG, hNG⟩ : ∃ NG, NG = (grpR L).length := ⟨_, rfl⟩
    have HNG := Lib.hid hNG
    have HGo := Lib.hid (grp_ok HLo.out)
    have hNG4 : NG ≤ 40 := by
      have := grp_le L
      have := HLm.out
      omega
    have OSX := Lib.hid (OS5.out.below hbF OS5.out.lt)
    have o0 := OSX.out.cell (i := 0) rfl
    have o1 := OSX.out.cell (i := 1) rfl
    have HBF := Lib.hid hbF
    have Hrun := Lib.hid hrun
    clear hg hb9 hgl hgm hnv hrl hKl hul hrun hg3 hb3 hbF hnx hnx2 hok hn60 he hgr2 Hgt hNG
    go_upto_region 14 with (at_builtin; have _t := Hrun; refine wpList_append_eq rfl (.tmp 63) (.tmp 65) 31 rfl _ _ _ _ rfl rfl Hrun.out ?_; clear _t Hrun)
    refine wp_region_held_drew (S := fun W => Keeps X3 W) (by kernel_rfl) ((Keeps.refl X3).drewN 1) (fun hHeld => ?_)
    refine wpAnyH_take (i := 0) (v := ?vz0) rfl (by kernel_rfl) (by kernel_rfl) (by kernel_rfl) (fun _ _ _ h => h) (Or.inl ⟨by rfl, ?yz0⟩) hHeld ?rz0
    case yz0 => (intro W hW; go_simp; first | done | with_reducible rfl)
    try simp only [List.getElem_toArray, List.getElem_cons_zero, Act.put, List.setIfInBounds_toArray, List.set_cons_zero, List.set_cons_succ]
    refine wpAnyH_take (i := 2) (v := ?vz2) rfl (by kernel_rfl) (by kernel_rfl) (by kernel_rfl) (fun _ _ _ h => h) (Or.inl ⟨by rfl, ?yz2⟩) hHeld ?rz2
    case yz2 => (intro W hW; go_simp; first | done | with_reducible rfl)
    try simp only [List.getElem_toArray, List.getElem_cons_succ, List.getElem_cons_zero, Act.put, List.setIfInBounds_toArray, List.set_cons_zero, List.set_cons_succ]
    refine wpAnyH_take (i := 3) (v := ?vz3) rfl (by kernel_rfl) (by kernel_rfl) (by kernel_rfl) (fun _ _ _ h => h) (Or.inl ⟨by rfl, ?yz3⟩) hHeld ?rz3
    case yz3 => (intro W hW; have g0 := hW _ _ o0; have g1 := hW _ _ o1; clear hW; go_simp; first | done | with_reducible rfl)
    try simp only [List.getElem_toArray, List.getElem_cons_succ, List.getElem_cons_zero, Act.put, List.setIfInBounds_toArray, List.set_cons_zero, List.set_cons_succ]
    refine wpAnyH_take (i := 4) (v := ?vz4) rfl (by kernel_rfl) (by kernel_rfl) (by kernel_rfl) (fun _ _ _ h => h) (Or.inl ⟨by rfl, ?yz4⟩) hHeld ?rz4
    case yz4 => (intro W hW; go_simp; first | done | with_reducible rfl)
    try simp only [List.getElem_toArray, List.getElem_cons_succ, List.getElem_cons_zero, Act.put, List.setIfInBounds_toArray, List.set_cons_zero, List.set_cons_succ]
    refine wpAnyH_ready (rs := [1]) (by kernel_rfl) (by simp) ?_
    refine AllReadyH.cons rfl (fun K hK => ?_) (AllReadyH.nil)
    go_simp
    refine (HGR2.out _ ((Keeps.refl X3).drewN 1)).mono ?_
    rintro e V1 ⟨v1, u1, rfl, g1, b1⟩
    obtain ⟨P1, d1, f1, -⟩ := g1.form
    have l1 : u1.length = NG := by rw [g1.len, HNG.out]
    rw [l1] at f1
    subst f1
    have R1 := Lib.hid g1.rowC.1
    have KV1 := Lib.hid (((Keeps.refl X3).drewN 1).trans (Keeps.of_below b1))
    have BV1 := Lib.hid ((below_drewN HBF.out 1).trans (b1.mono (show w5.heap.size ≤ X3.drew.heap.size from HBF.out.size)))
    clear g1 b1 l1
    refine hK.out _ _ (KV1.out) (fun hHeld => ?_)
    clear hK K
    try simp only [List.getElem_toArray, List.getElem_cons_succ, List.getElem_cons_zero, Act.put, List.setIfInBounds_toArray, List.set_cons_zero, List.set_cons_succ]
    refine wpAnyH_ready (rs := [5]) (by kernel_rfl) (by simp) ?_
    refine AllReadyH.cons rfl (fun K hK => ?_) (AllReadyH.nil)
    go_simp
    refine (HST.out _).mono ?_
    rintro e V2 ⟨rfl, hV2⟩
    have b2 : Below V1.heap.size V1 V2 := by rw [hV2]; exact (Below.refl _ _).alloc (Nat.le_refl _) _
    have R2 := Lib.hid (R1.out.keep (Keeps.of_below b2))
    have KV2 := Lib.hid (KV1.out.trans (Keeps.of_below b2))
    have BV2 := Lib.hid (BV1.out.trans (b2.mono BV1.out.size))
    clear b2 hV2
    refine hK.out _ _ (KV2.out) (fun hHeld => ?_)
    clear hK K
    try simp only [List.getElem_toArray, List.getElem_cons_succ, List.getElem_cons_zero, Act.put, List.setIfInBounds_toArray, List.set_cons_zero, List.set_cons_succ]
    refine wpAnyH_ready (rs := [6]) (by kernel_rfl) (by simp) ?_
    refine AllReadyH.cons rfl (fun K hK => ?_) (AllReadyH.nil)
    go_simp
    refine (HFA.out sa _ (H25.out.trans (BV2.out.mono H25.out.size)) s1 s2).mono ?_
    rintro e V3 ⟨v3, u3, rfl, g3, b3⟩
    rw [← HLL.out] at g3
    obtain ⟨P3, d3, f3, -⟩ := g3.form
    have l3 : u3.length = NG := by rw [g3.len, HNG.out]
    rw [l3] at f3
    subst f3
    have R3 := Lib.hid g3.rowC.1
    have R13 := Lib.hid (R2.out.keep (Keeps.of_below b3))
    have KV3 := Lib.hid (KV2.out.trans (Keeps.of_below b3))
    have BV3 := Lib.hid (BV2.out.trans (b3.mono BV2.out.size))
    clear g3 b3 l3
    refine hK.out _ _ (KV3.out) (fun hHeld => ?_)
    clear hK K
    try simp only [List.getElem_toArray, List.getElem_cons_succ, List.getElem_cons_zero, Act.put, List.setIfInBounds_toArray, List.set_cons_zero, List.set_cons_succ]
    refine wpAnyH_ready (rs := [7]) (by kernel_rfl) (by simp) ?_
    refine AllReadyH.cons rfl (fun K hK => ?_) (AllReadyH.nil)
    go_simp
    refine (HSM.out P1 P3 NG d1 d3 _ _ R13.out R3.out HNG.out HGo.out (by omega)).mono ?_
    rintro e V4 ⟨rfl, b4⟩
    have KV4 := Lib.hid (KV3.out.trans (Keeps.of_below b4))
    have BV4 := Lib.hid (BV3.out.trans (b4.mono BV3.out.size))
    clear b4
    refine hK.out _ _ (KV4.out) (fun hHeld => ?_)
    clear hK K
    try simp only [List.getElem_toArray, List.getElem_cons_succ, List.getElem_cons_zero, Act.put, List.setIfInBounds_toArray, List.set_cons_zero, List.set_cons_succ]
    refine wpAnyH_take (i := 8) (v := ?vz8) rfl (by kernel_rfl) (by kernel_rfl) (by kernel_rfl) (fun _ _ _ h => h) (Or.inl ⟨by rfl, ?yz8⟩) hHeld ?rz8
    case yz8 => (intro W hW; go_simp; first | done | with_reducible rfl)
    try simp only [List.getElem_toArray, List.getElem_cons_succ, List.getElem_cons_zero, Act.put, List.setIfInBounds_toArray, List.set_cons_zero, List.set_cons_succ]
    refine wpAnyH_done (by kernel_rfl) ?_ _
    go_wp2
    go_ret
    exact ⟨rfl, H05.out.trans (BV4.out.mono H05.out.size)⟩
end Go.Proofs.YtbkcclmhgnplcaaDoor
