/- The law HashGets. -/
import Derived.IntWalk
import Derived.Test.YtgjcbbpmcojcoaaHsho
import Derived.Test.YtgjcbbpmcojcoaaMake
import Derived.Test.YtgjcbbpmcojcoaaSet
import Derived.Test.YtgjcbbpmcojcoaaIsRow
import Derived.Test.YtgjcbbpmcojcoaaRfacts
import Derived.Test.YtgjcbbpmcojcoaaCelg
namespace Go.Proofs.Ytgjcbbpmcojcoaa
open Go.RowKit
attribute [local go_sem] Oper.semAt_some
theorem fill_pre {n : Nat} {l : List Cel} {ts : List (Option Cel)} (h : fillT (List.replicate n none) l = some ts) (k : Nat) : ∃ t, fillT (List.replicate n none) (l.take k) = some t := by
  cases hk : fillT (List.replicate n none) (l.take k) with
  | some t => exact ⟨t, rfl⟩
  | none =>
    have := fill_stop _ (l.drop k) _ hk
    rw [List.take_append_drop, h] at this
    cases this
theorem fill_next {n : Nat} {l : List Cel} {ts t : List (Option Cel)} {k : Nat} {x : Cel} (h : fillT (List.replicate n none) l = some ts) (hx : l[k]? = some x) (ht : fillT (List.replicate n none) (l.take k) = some t) : ∃ t', putT t x = some t' ∧ fillT (List.replicate n none) (l.take (k + 1)) = some t' := by
  obtain ⟨t', ht'⟩ := fill_pre h (k + 1)
  refine ⟨t', ?_, ht'⟩
  rw [List.take_add_one, hx, Option.toList_some, fill_snoc, ht] at ht'
  exact ht'
/-- Whether a key is among some cells'. -/
def hasK (L : List Cel) (key : List Int) : Bool := L.any fun c => decide (c.key = key)
theorem hasK_snoc {L : List Cel} {k : Nat} {x : Cel} (hx : L[k]? = some x) (key : List Int) : hasK (L.take (k + 1)) key = (hasK (L.take k) key || decide (x.key = key)) := by
  unfold hasK
  rw [List.take_add_one, hx, Option.toList_some, List.any_append]
  simp
set_option maxRecDepth 100000 in
set_option maxHeartbeats 8000000 in
theorem hashGets_walk (a0 : Int) (a1 : Option Addr) (len1 cap1 : Nat) (z1 : List Int) (a2 : Int) (a3 : Option Addr) (len3 cap3 : Nat) (z3 : List Int) (a4 : Int) (a5 : Option Addr) (len5 cap5 : Nat) (z5 : List Int) (w : World) (h0 : inK .i64 a0) (w1 : IsRow .i64 w a1 len1 cap1 z1) (h2 : inK .i64 a2) (w3 : IsRow .i64 w a3 len3 cap3 z3) (h4 : inK .i64 a4) (w5 : IsRow .i64 w a5 len5 cap5 z5) :
    Calls Try.prog 8 #[.int .i64 a0, .slice a1 len1 cap1, .int .i64 a2, .slice a3 len3 cap3, .int .i64 a4, .slice a5 len5 cap5] w fun e w' => e = .returned (.bool true) ∧ Below w.heap.size w w' := by
  obtain ⟨n1, lc1, cm1⟩ := w1.nums
  obtain ⟨n3, lc3, cm3⟩ := w3.nums
  obtain ⟨n5, lc5, cm5⟩ := w5.nums
  have r5 := isrow_ri w5
  generalize z5.take len5 = raw at n5 r5
  have N5 := Lib.hid n5
  have R5 := Lib.hid r5
  clear w5 n5 r5
  have N1 := Lib.hid n1
  have N3 := Lib.hid n3
  have HKn := Lib.hid (hknown_any w)
  clear w1 w3 n1 n3
  go_enter Try.func8, Try.ntmps8
  go_wp2_with fail
  refine HKn.out.mono ?_
  rintro e w1 ⟨rfl, hb1⟩
  have Hb1 := Lib.hid hb1
  clear hb1 HKn
  by_cases h20 : 20 < len5
  · have d20 : decide ((20 : Int) < (len5 : Int)) = true := decide_eq_true (by omega)
    go_wp2
    go_ret
    exact ⟨rfl, Hb1.out⟩
  have d20 : decide ((20 : Int) < (len5 : Int)) = false := decide_eq_false (by omega)
  have d21 : decide (20 < len5) = false := decide_eq_false h20
  go_wp2_with fail
  refine (Facts_res a0 a2 a1 a3 len1 cap1 len3 cap3 _ _ w1 (N1.out.keep (Keeps.of_below Hb1.out)) (N3.out.keep (Keeps.of_below Hb1.out)) (by omega) (by omega) h0 h2).mono ?_
  rintro e w2 ⟨A, c, D, d, C, q, mm, m, cs, l, rfl, hF⟩
  have F := Lib.hid hF
  obtain ⟨k1, k2, k3, k4⟩ : 1 ≤ q ∧ q ≤ 4 ∧ mm ≤ 2 ∧ m ≤ 40 := ⟨hF.q1, hF.q4, hF.m2, hF.m40⟩
  have hb2 : Below w.heap.size w w2 := Hb1.out.trans (hF.below.mono Hb1.out.size)
  have hb3 : Below w2.heap.size w2 (w2.alloc (.cells #[.slice A q c, .int .i64 mm] 25)) := (Below.refl _ _).alloc (Nat.le_refl _) _
  obtain ⟨s1, s2, s3⟩ := set_bd a4 q k1 k2
  have Hb2 := Lib.hid hb2
  have Hb3 := Lib.hid hb3
  clear hF hb2 hb3 N1 N3
  go_wp2_with fail
  refine (set_any A q c mm a4 _ k1 k2 h4).mono ?_
  rintro e w4 ⟨rfl, rfl⟩
  obtain ⟨sa, hsa⟩ : ∃ sa, sa = a4 % 2 ^ q := ⟨_, rfl⟩
  rw [← hsa] at s1 s2 s3 ⊢
  clear hsa
  have hb4 : Below w2.heap.size w2 ((w2.alloc (.cells #[.slice A q c, .int .i64 mm] 25)).alloc (.cells #[.slice A q c, .int .i64 mm] 25)) := Hb3.out.alloc Hb3.out.size _
  have HB4 := Lib.hid hb4
  clear hb4
  generalize (w2.alloc (.cells #[.slice A q c, .int .i64 mm] 25)).alloc (.cells #[.slice A q c, .int .i64 mm] 25) = w4 at HB4 ⊢
  have hl4 : ∀ r ∈ l, r.key.length = q ∧ r.m.length = mm := F.out.lens
  have HL4 := Lib.hid (fun r hr => (show r.key.length ≤ 4 ∧ r.m.length = mm from ⟨by rw [(hl4 r hr).1]; exact k2, (hl4 r hr).2⟩))
  have hmk := fun W (hW : Below w2.heap.size w2 W) => make_any D m d C sa l W (F.out.rows.below hW (Nat.le_refl _)) F.out.em k4 F.out.small (fun r hr => by have := hl4 r hr; omega) s1 s2
  obtain ⟨L, hL⟩ : ∃ L, L = l.map (ofC sa) := ⟨_, rfl⟩
  have hLm : L.length = m := by rw [hL, List.length_map, F.out.em]
  obtain ⟨dd, hdd⟩ : ∃ dd, dd = dimN sa q := ⟨_, rfl⟩
  have hdd4 : dd ≤ 4 := by rw [hdd]; exact Nat.le_trans (dimN_le sa q) k2
  have hLo : OkL dd mm L := by rw [hL, hdd]; exact ok_cells sa F.out.right hl4 F.out.c16
  rw [← hL] at hmk
  have HMK := Lib.hid hmk
  have HLo := Lib.hid hLo
  have HLm := Lib.hid hLm
  have HLL := Lib.hid hL
  have HFA := Lib.hid (fun (set : Int) (W : World) (hW : Below w2.heap.size w2 W) (e1 : 0 ≤ set) (e2 : set ≤ 15) => rFacts_any D m d C mm set l W (F.out.rows.below hW (Nat.le_refl _)) F.out.em k4 F.out.small HL4.out (by omega) e1 e2)
  have GRP := Lib.hid (fun (P : Option Addr) (c N slots : Nat) (K : List Cel) (W : World) (hK : RowC W P N K) (hN : N = K.length) (hP : P = none → c = 0) (he : OkL dd mm K) (hn : N ≤ 60) (g1 : 1 ≤ slots) (g2 : slots ≤ 10000) => hGroup_any P c N slots dd mm K W hK hN hP he (by omega) (by omega) hn g1 g2)
  have Hb24 := Lib.hid (Hb2.out.trans (HB4.out.mono Hb2.out.size))
  clear hl4 hL hLm hdd hLo hmk
  have hrl : raw.length = len5 := N5.out.1
  obtain ⟨NG, hNG⟩ : ∃ NG, NG = (grpR L).length := ⟨_, rfl⟩
  have hNm : NG ≤ 40 := by have := grp_len_le L; have := HLm.out; omega
  obtain ⟨tsF, hF⟩ : ∃ ts, fillT (List.replicate 100 none) L = some ts := (fill_fits L 100).2 (by omega)
  have HF := Lib.hid hF
  have HNG := Lib.hid hNG
  clear hF hNG
  go_wp2_with fail
  refine (hNew_tb 100 w4 (by omega) (by omega)).mono ?_
  rintro e w6 ⟨T, g, rfl, hT6, hb6⟩
  have HT6 := Lib.hid hT6
  have Hb6 := Lib.hid (HB4.out.trans (hb6.mono HB4.out.size))
  have hTg : w4.heap.size ≤ T ∧ w4.heap.size ≤ g := ⟨hT6.hT, hT6.hg⟩
  have hB46 : w4.heap.size ≤ w6.heap.size := hb6.size
  have hTl : T < w6.heap.size := hT6.bx.lt
  have hgl : g < w6.heap.size := hT6.tab.blk.lt
  clear hT6 hb6
  go_wp2_with fail
  refine (HMK.out w6 Hb6.out).mono ?_
  rintro e w7 ⟨lv, us, rfl, hg, hb7⟩
  obtain ⟨Pl, cl, fl, -, -, -, hPl⟩ := hg.form
  have hul := hg.len
  rw [HLm.out] at hul
  rw [hul] at fl
  subst fl
  have RL := Lib.hid hg.rowC.1
  have HT7 := Lib.hid (HT6.out.below hb7)
  have Hb27 := Lib.hid (Hb6.out.trans (hb7.mono Hb6.out.size))
  have hB67 : w6.heap.size ≤ w7.heap.size := hb7.size
  have GL := Lib.hid hg
  have hM6 : ∀ k, (k = g ∨ k = T) → k < w6.heap.size := fun k hk => by rcases hk with h | h <;> omega
  clear hul hg hb7 hPl HMK
  go_upto_block 0 with (fail)
  go_cut [] (fun wx => ∃ vs, Tb w4.heap.size wx T g (if m = 0 then 0 else (dd : Int)) (if m = 0 then 0 else (mm : Int)) vs tsF ∧ Tch (fun b => b = g ∨ b = T) w7 wx)
  case first =>
    go_wp2_with fail
    go_loopw [18] (fun i wx => ∃ (k : Nat) (d' me' : Int) (vs : List (Option V5)) (ts : List (Option Cel)), i = .int .i64 k ∧ k ≤ m ∧ Tb w4.heap.size wx T g d' me' vs ts ∧ fillT (List.replicate 100 none) (L.take k) = some ts ∧ (k = 0 ∧ d' = 0 ∧ me' = 0 ∨ 0 < k ∧ d' = dd ∧ me' = mm) ∧ Tch (fun b => b = g ∨ b = T) w7 wx) (fun i _ => m - (intOf i).toNat)
    case atStart => exact ⟨0, 0, 0, _, _, rfl, Nat.zero_le _, HT7.out, rfl, .inl ⟨rfl, rfl, rfl⟩, Tch.refl _ _⟩
    case round =>
      obtain ⟨k, d', me', vs, ts, rfl, hk, hT, hfl, hdm, hto⟩ := hrel
      rename World => wx
      by_cases hlt : k < m
      · have i0 : (0 : Int) ≤ (k : Int) := by omega
        have i1 : (k : Int) < (m : Int) := by omega
        have d1 : decide ((k : Int) < (m : Int)) = true := decide_eq_true i1
        obtain ⟨x, hx⟩ : ∃ x, L[k]? = some x := ⟨_, List.getElem?_eq_getElem (by rw [HLm.out]; exact hlt)⟩
        obtain ⟨hxk, hok, hxe⟩ := HLo.out x (List.mem_of_getElem? hx)
        obtain ⟨ts', hp, hfl2⟩ := fill_next HF.out hx hfl
        obtain ⟨hI, htl, -, -⟩ := fill_cells hfl
        have hall := fill_ok (dd := dd) (mm := mm) hfl (fun y hy => ⟨(HLo.out y (List.mem_of_mem_take hy)).1, (HLo.out y (List.mem_of_mem_take hy)).2.2⟩)
        have hGx := GL.out.tchF hto hM6
        obtain ⟨ad, rfl, hcr⟩ := hGx.rowC.1 (by omega)
        obtain ⟨vk, vs5, vn, vm, p0, p1, p2, p3, p4, hcc, hxi⟩ := hcr k x hx
        have hPT := hPut_any w4.heap.size T g d' me' mm vs ts vk vs5 vn vm x wx hT (by rw [htl]; omega) (by rw [htl]; omega) (fun i y hy => by
          obtain ⟨e1, e2⟩ := hall y (mem_cells.2 ⟨i, hy⟩)
          exact ⟨by omega, e2⟩) (by
          rcases hdm with ⟨e1, -, -⟩ | ⟨-, e2, e3⟩
          · left
            subst e1
            simp only [List.take_zero, fillT, Option.some.injEq] at hfl
            rw [← hfl, cells_new]; rfl
          · exact .inr ⟨by rw [hxk]; exact e2, e3⟩) hcc hxi (by omega) hok hxe (by omega)
        rw [hxk] at hPT
        obtain ⟨⟨P1, d1', rfl, -⟩, ⟨P2, d2', rfl, -⟩, ⟨P3, d3', rfl, -⟩, ⟨P4, d4', rfl, -⟩⟩ := hcc
        rw [hxk] at p0 hPT
        generalize x.sum.length = m2 at *
        generalize x.mn.length = m3 at *
        generalize x.mx.length = m4 at *
        obtain ⟨xc, exc⟩ : ∃ z, z = x.cnt := ⟨_, rfl⟩
        rw [← exc] at p1 hPT
        have HPT := Lib.hid hPT
        have HFL2 := Lib.hid hfl2
        have HPP := Lib.hid hp
        have HTO := Lib.hid hto
        have hBx : w4.heap.size ≤ wx.heap.size := Nat.le_trans hB46 (Nat.le_trans hB67 hto.size)
        clear hx hxk hok hxe hxi hp hfl2 hI htl hall hPT exc hGx hcr hT hfl hto hdm
        go_wp2_with fail
        refine HPT.out.mono ?_
        intro e w8 hp8
        obtain ⟨rfl, vs8, hT8, -, ht8⟩ := hPut_yes hp8 HPP.out hBx hTg.2 hTg.1
        have HT8 := Lib.hid hT8
        have Ht8 := Lib.hid (HTO.out.same ht8)
        clear hT8 ht8 hp8 HPT p0 p1 p2 p3 p4
        go_wp2
        go_roundw
        case rel => exact ⟨k + 1, _, _, vs8, _, by go_num, by omega, HT8.out, HFL2.out, .inr ⟨by omega, rfl, rfl⟩, Ht8.out⟩
        case measure => simp [intOf]; omega
      · obtain rfl : k = m := by omega
        have d1 : decide ((k : Int) < (k : Int)) = false := by simp
        rw [List.take_of_length_le (Nat.le_of_eq HLm.out), HF.out] at hfl
        injection hfl with hfl
        subst hfl
        have hT' : Tb w4.heap.size wx T g (if k = 0 then 0 else (dd : Int)) (if k = 0 then 0 else (mm : Int)) vs tsF := by
          rcases hdm with ⟨e1, e2, e3⟩ | ⟨e1, e2, e3⟩
          · rw [if_pos e1, if_pos e1, ← e2]
            rw [e2] at hT
            rw [e3] at hT
            rw [e2]
            exact hT
          · rw [if_neg (by omega), if_neg (by omega), ← e2, ← e3]; exact hT
        have HTf := Lib.hid hT'
        have Hto := Lib.hid hto
        clear hT hT' hdm hto
        go_wp2
        go_meet
        exact ⟨vs, HTf.out, Hto.out⟩
  case rest =>
    obtain ⟨vs, hT, hto⟩ := hcut
    rename World => wx
    obtain ⟨hI, htl, hgrp, hper⟩ := fill_cells HF.out
    have hall := fill_ok (dd := dd) (mm := mm) HF.out (fun y hy => ⟨(HLo.out y hy).1, (HLo.out y hy).2.2⟩)
    have hbx : Below w2.heap.size w2 wx := Hb27.out.trans (hto.below (fun q hq => by rcases hq with h | h <;> have := HB4.out.size <;> omega) Hb27.out.size)
    have hev : ∀ (i : Nat) (y : Cel), tsF[i]? = some (some y) → y.key.length ≤ 1000 ∧ y.sum.length ≤ 1000000 ∧ y.mn.length ≤ 1000000 ∧ y.mx.length ≤ 1000000 := fun i y hy => by
      obtain ⟨e1, e2, e3, e4⟩ := hall y (mem_cells.2 ⟨i, hy⟩)
      omega
    obtain ⟨G, hG⟩ : ∃ G, G = grpR L := ⟨_, rfl⟩
    have hGn : NG = G.length := by rw [hG]; exact HNG.out
    have hGo : OkL dd mm G := by rw [hG]; exact grp_okL HLo.out
    have hgm : ∀ x ∈ G, getT tsF x.key = some x := fun x hx => (get_mem hI x.key x).2 ⟨by rw [hG] at hx; exact hper.mem_iff.2 hx, rfl⟩
    have hgo : ∀ y, getT tsF raw = some y → hasK G raw = true := fun y hy => by
      obtain ⟨e1, e2⟩ := (get_mem hI raw y).1 hy
      unfold hasK
      rw [List.any_eq_true]
      exact ⟨y, by rw [hG]; exact hper.mem_iff.1 e1, decide_eq_true e2⟩
    have hgn : (okK raw = false ∨ getT tsF raw = none) → hasK G raw = false := fun h => by
      cases hb : hasK G raw with
      | false => rfl
      | true =>
        unfold hasK at hb
        rw [List.any_eq_true] at hb
        obtain ⟨c, hc, e⟩ := hb
        have e := of_decide_eq_true e
        rcases h with h | h
        · rw [← e, (hGo c hc).2.1] at h; cases h
        · rw [← e, hgm c hc] at h; cases h
    have hcl : (cellsT tsF).length = NG := by rw [hper.length_eq, HNG.out]
    have HGM := Lib.hid hgm
    have HGO := Lib.hid hgo
    have HGN := Lib.hid hgn
    have HOK := Lib.hid hGo
    have HEV := Lib.hid hev
    have HCL := Lib.hid hcl
    have HTL := Lib.hid htl
    have HGEN := Lib.hid hGn
    have hfa := HFA.out sa wx hbx s1 s2
    rw [← HLL.out, ← hG] at hfa
    have HFAC := Lib.hid hfa
    have HTx := Lib.hid hT
    have Hbx := Lib.hid (Hb2.out.trans (hbx.mono Hb2.out.size))
    clear hI htl hgrp hper hall hbx hev hG hGn hGo hgm hgo hgn hcl hfa hT hto
    go_wp2_with fail
    refine HFAC.out.mono ?_
    rintro e w9 ⟨vf, uf, rfl, gf, bf⟩
    obtain ⟨Pf, cf, ff, -⟩ := gf.form
    have lf : uf.length = NG := by rw [gf.len, HGEN.out]
    rw [lf] at ff
    subst ff
    have RF := Lib.hid gf.rowC.1
    have HT9 := Lib.hid (HTx.out.below bf)
    have Hb9 := Lib.hid (Hbx.out.trans (bf.mono Hbx.out.size))
    have R9 : Hid (RI w9 (.slice a5 len5 cap5) raw) := Lib.hid (R5.out.keep (Keeps.of_below Hb9.out))
    clear gf bf lf HFAC HTx Hbx
    go_upto_block 2 with (fail)
    go_cut [20] (fun s20 wr => s20 = .bool (hasK G raw) ∧ Below w9.heap.size w9 wr)
    case first =>
      go_wp2_with fail
      go_loopw [20, 21] (fun s20 s21 wr => ∃ k : Nat, s21 = .int .i64 k ∧ k ≤ NG ∧ s20 = .bool (hasK (G.take k) raw) ∧ Below w9.heap.size w9 wr) (fun _ s21 _ => NG - (intOf s21).toNat)
      case atStart => exact ⟨0, rfl, Nat.zero_le _, rfl, Below.refl _ _⟩
      case round =>
        obtain ⟨k, rfl, hk, rfl, hb⟩ := hrel
        rename World => wr
        by_cases hlt : k < NG
        · have i0 : (0 : Int) ≤ (k : Int) := by omega
          have i1 : (k : Int) < (NG : Int) := by omega
          have d1 : decide ((k : Int) < (NG : Int)) = true := decide_eq_true i1
          obtain ⟨x, hx⟩ : ∃ x, G[k]? = some x := ⟨_, List.getElem?_eq_getElem (by rw [← HGEN.out]; exact hlt)⟩
          have hxm := List.mem_of_getElem? hx
          obtain ⟨hxk, hok, hxe⟩ := HOK.out x hxm
          obtain ⟨x1, x2, x3⟩ := hxe
          have hgx := HGM.out x hxm
          obtain ⟨ad, rfl, hcr⟩ := RF.out (by omega)
          obtain ⟨vk, vs5, vn, vm, p0, p1, p2, p3, p4, hcc, hxi⟩ := (hcr k x hx).keep (Keeps.of_below hb)
          have hGT := hGet_any w4.heap.size T g _ _ vs tsF vk x.key wr (HT9.out.below hb) (by rw [HTL.out]; omega) (by rw [HTL.out]; omega) HEV.out hcc.key (by omega)
          have hEQ := fun (W : World) (hW : Keeps wr W) (k' s' n' m' : Value) (hc : CR W k' s' n' m' x) => equal_yes k' s' n' m' vk vs5 vn vm x W hc (hcc.keep hW) (by omega) (by omega) (by omega) (by omega)
          have hLS := fun (W : World) (hW : Keeps wr W) (P : Option Addr) (c : Nat) (e : vk = .slice P x.key.length c) => rLess P a5 x.key.length c len5 cap5 x.key raw W (by
            obtain ⟨P', c', e1, h1, -⟩ := hcc.key.keep hW
            rw [e] at e1
            injection e1 with e1 _ _
            subst e1
            exact h1) (N5.out.keep ((Keeps.of_below Hb9.out).trans ((Keeps.of_below hb).trans hW))) (by omega) (by omega)
          obtain ⟨⟨P1, d1', rfl, -⟩, ⟨P2, d2', rfl, -⟩, ⟨P3, d3', rfl, -⟩, ⟨P4, d4', rfl, -⟩⟩ := hcc
          have hLS' := fun W hW => hLS W hW P1 d1' rfl
          have hsn := hasK_snoc hx raw
          obtain ⟨tt, htt⟩ : ∃ tt, tt = hasK (G.take k) raw := ⟨_, rfl⟩
          rw [← htt] at hsn ⊢
          obtain ⟨xc, exc⟩ : ∃ z, z = x.cnt := ⟨_, rfl⟩
          rw [hxk, x1, x2, x3] at hEQ
          rw [hxk] at p0 hLS' hGT
          rw [x1] at p2
          rw [x2] at p3
          rw [x3] at p4
          rw [← exc] at p1 hEQ
          have HGT := Lib.hid hGT
          have HEQ := Lib.hid hEQ
          have HLS := Lib.hid hLS'
          have HSN := Lib.hid hsn
          have Hb := Lib.hid hb
          have HGX := Lib.hid hgx
          have HKO := Lib.hid hok
          have HX := Lib.hid (show x.key.length = dd ∧ x.sum.length = mm ∧ x.mn.length = mm ∧ x.mx.length = mm ∧ x.cnt = xc from ⟨hxk, x1, x2, x3, exc.symm⟩)
          clear hx hxm hxk hok x1 x2 x3 hgx hGT hEQ hLS hLS' hsn htt exc hcr hb hxi
          go_wp2_with fail
          refine HGT.out.mono ?_
          rintro e w10 ⟨⟨k', s', n', m', y, is, rfl, hcr, -, hor⟩, hb10⟩
          obtain ⟨rfl, rfl⟩ : x = y ∧ is = true := by
            rcases hor with ⟨-, h, h2⟩ | ⟨h, -⟩
            · rw [HGX.out] at h
              injection h with h
              exact ⟨h, h2⟩
            · rcases h with h | h
              · rw [HKO.out] at h; cases h
              · rw [HGX.out] at h; cases h
          have HCR := Lib.hid hcr
          obtain ⟨⟨Q1, e1', rfl, -⟩, ⟨Q2, e2', rfl, -⟩, ⟨Q3, e3', rfl, -⟩, ⟨Q4, e4', rfl, -⟩⟩ := hcr
          rw [HX.out.1, HX.out.2.1, HX.out.2.2.1, HX.out.2.2.2.1] at HCR
          rw [HX.out.1, HX.out.2.1, HX.out.2.2.1, HX.out.2.2.2.1, HX.out.2.2.2.2]
          obtain ⟨w5, hw5⟩ : ∃ w5, w5 = w10.alloc (.cells #[.slice Q1 dd e1', .int .i64 xc, .slice Q2 mm e2', .slice Q3 mm e3', .slice Q4 mm e4'] 39) := ⟨_, rfl⟩
          have o5 : Own 39 w5 w10.heap.size [.slice Q1 dd e1', .int .i64 xc, .slice Q2 mm e2', .slice Q3 mm e3', .slice Q4 mm e4'] := by rw [hw5]; exact heap_alloc_new w10 _
          have hb5 : Below w10.heap.size w10 w5 := by rw [hw5]; exact (Below.refl _ _).alloc (Nat.le_refl _) _
          have hbx5 := hb10.trans (hb5.mono hb10.size)
          have k5 := Keeps.of_below hbx5
          have bx5 := o5.bx
          have c0' := k5 _ _ p0
          have c1' := k5 _ _ p1
          have c2' := k5 _ _ p2
          have c3' := k5 _ _ p3
          have c4' := k5 _ _ p4
          have kd : Keeps wr w5.drew := k5.trans ((Keeps.refl _).drewN 1)
          have HEZ := Lib.hid (HEQ.out w5.drew kd _ _ _ _ (HCR.out.keep ((Keeps.of_below hb5).trans ((Keeps.refl _).drewN 1))))
          have Hb5 := Lib.hid hbx5
          have HW5 := Lib.hid hw5
          clear hor hw5 o5 hb5 hbx5 k5 hb10 HGT HEQ HCR p1 p2 p3 p4 kd
          go_upto_region 22 with (fail)
          rw [← HW5.out]
          refine wp_region_held_drew (S := fun W => Bx W w10.heap.size (.slice Q1 dd e1') (.int .i64 xc) (.slice Q2 mm e2') (.slice Q3 mm e3') (.slice Q4 mm e4') ∧ W.cell? (ad.add (k * 5)) = some (.slice P1 dd d1') ∧ W.cell? ⟨(ad.add (k * 5)).block, (ad.add (k * 5)).off + 1, none⟩ = some (.int .i64 xc) ∧ W.cell? ⟨(ad.add (k * 5)).block, (ad.add (k * 5)).off + 2, none⟩ = some (.slice P2 mm d2') ∧ W.cell? ⟨(ad.add (k * 5)).block, (ad.add (k * 5)).off + 3, none⟩ = some (.slice P3 mm d3') ∧ W.cell? ⟨(ad.add (k * 5)).block, (ad.add (k * 5)).off + 4, none⟩ = some (.slice P4 mm d4')) (by kernel_rfl) ⟨bx5, c0', c1', c2', c3', c4'⟩ (fun hHeld => ?_)
          refine wpAnyH_take (i := 0) (v := ?vpa0) rfl (by kernel_rfl) (by kernel_rfl) (by kernel_rfl) (fun _ _ _ h => h) (Or.inl ⟨by rfl, ?ypa0⟩) hHeld ?rpa0
          case ypa0 => (intro W hW; obtain ⟨⟨h0, h1, h2, h3, h4⟩, g0, g1, g2, g3, g4⟩ := hW; go_simp; first | done | with_reducible rfl)
          try simp only [List.getElem_toArray, List.getElem_cons_zero, Act.put, List.setIfInBounds_toArray, List.set_cons_zero, List.set_cons_succ]
          refine wpAnyH_take (i := 1) (v := ?vpa1) rfl (by kernel_rfl) (by kernel_rfl) (by kernel_rfl) (fun _ _ _ h => h) (Or.inl ⟨by rfl, ?ypa1⟩) hHeld ?rpa1
          case ypa1 => (intro W hW; obtain ⟨⟨h0, h1, h2, h3, h4⟩, g0, g1, g2, g3, g4⟩ := hW; go_simp; first | done | with_reducible rfl)
          try simp only [List.getElem_toArray, List.getElem_cons_succ, List.getElem_cons_zero, Act.put, List.setIfInBounds_toArray, List.set_cons_zero, List.set_cons_succ]
          refine wpAnyH_take (i := 2) (v := ?vpa2) rfl (by kernel_rfl) (by kernel_rfl) (by kernel_rfl) (fun _ _ _ h => h) (Or.inl ⟨by rfl, ?ypa2⟩) hHeld ?rpa2
          case ypa2 => (intro W hW; obtain ⟨⟨h0, h1, h2, h3, h4⟩, g0, g1, g2, g3, g4⟩ := hW; go_simp; first | done | with_reducible rfl)
          try simp only [List.getElem_toArray, List.getElem_cons_succ, List.getElem_cons_zero, Act.put, List.setIfInBounds_toArray, List.set_cons_zero, List.set_cons_succ]
          refine wpAnyH_take (i := 3) (v := ?vpa3) rfl (by kernel_rfl) (by kernel_rfl) (by kernel_rfl) (fun _ _ _ h => h) (Or.inl ⟨by rfl, ?ypa3⟩) hHeld ?rpa3
          case ypa3 => (intro W hW; obtain ⟨⟨h0, h1, h2, h3, h4⟩, g0, g1, g2, g3, g4⟩ := hW; go_simp; first | done | with_reducible rfl)
          try simp only [List.getElem_toArray, List.getElem_cons_succ, List.getElem_cons_zero, Act.put, List.setIfInBounds_toArray, List.set_cons_zero, List.set_cons_succ]
          refine wpAnyH_take (i := 4) (v := ?vpa4) rfl (by kernel_rfl) (by kernel_rfl) (by kernel_rfl) (fun _ _ _ h => h) (Or.inl ⟨by rfl, ?ypa4⟩) hHeld ?rpa4
          case ypa4 => (intro W hW; obtain ⟨⟨h0, h1, h2, h3, h4⟩, g0, g1, g2, g3, g4⟩ := hW; go_simp; first | done | with_reducible rfl)
          try simp only [List.getElem_toArray, List.getElem_cons_succ, List.getElem_cons_zero, Act.put, List.setIfInBounds_toArray, List.set_cons_zero, List.set_cons_succ]
          refine wpAnyH_take (i := 5) (v := ?vpa5) rfl (by kernel_rfl) (by kernel_rfl) (by kernel_rfl) (fun _ _ _ h => h) (Or.inl ⟨by rfl, ?ypa5⟩) hHeld ?rpa5
          case ypa5 => (intro W hW; obtain ⟨⟨h0, h1, h2, h3, h4⟩, g0, g1, g2, g3, g4⟩ := hW; go_simp; first | done | with_reducible rfl)
          try simp only [List.getElem_toArray, List.getElem_cons_succ, List.getElem_cons_zero, Act.put, List.setIfInBounds_toArray, List.set_cons_zero, List.set_cons_succ]
          refine wpAnyH_take (i := 6) (v := ?vpa6) rfl (by kernel_rfl) (by kernel_rfl) (by kernel_rfl) (fun _ _ _ h => h) (Or.inl ⟨by rfl, ?ypa6⟩) hHeld ?rpa6
          case ypa6 => (intro W hW; obtain ⟨⟨h0, h1, h2, h3, h4⟩, g0, g1, g2, g3, g4⟩ := hW; go_simp; first | done | with_reducible rfl)
          try simp only [List.getElem_toArray, List.getElem_cons_succ, List.getElem_cons_zero, Act.put, List.setIfInBounds_toArray, List.set_cons_zero, List.set_cons_succ]
          refine wpAnyH_take (i := 7) (v := ?vpa7) rfl (by kernel_rfl) (by kernel_rfl) (by kernel_rfl) (fun _ _ _ h => h) (Or.inl ⟨by rfl, ?ypa7⟩) hHeld ?rpa7
          case ypa7 => (intro W hW; obtain ⟨⟨h0, h1, h2, h3, h4⟩, g0, g1, g2, g3, g4⟩ := hW; go_simp; first | done | with_reducible rfl)
          try simp only [List.getElem_toArray, List.getElem_cons_succ, List.getElem_cons_zero, Act.put, List.setIfInBounds_toArray, List.set_cons_zero, List.set_cons_succ]
          refine wpAnyH_ready (rs := [8]) (by kernel_rfl) (by simp) ?_
          refine AllReadyH.cons rfl (fun K hK => ?_) (AllReadyH.nil)
          go_simp
          refine HEZ.out.mono ?_
          rintro e6 w6 ⟨rfl, hb6⟩
          have kp6 := Keeps.of_below hb6
          have Hb6 := Lib.hid (Hb5.out.drew.trans (hb6.mono Hb5.out.size))
          clear hb6
          refine hK.out _ _ (⟨hHeld.1.keep kp6, kp6 _ _ hHeld.2.1, kp6 _ _ hHeld.2.2.1, kp6 _ _ hHeld.2.2.2.1, kp6 _ _ hHeld.2.2.2.2.1, kp6 _ _ hHeld.2.2.2.2.2⟩) (fun hHeld => ?_)
          clear hK K
          try simp only [List.getElem_toArray, List.getElem_cons_succ, List.getElem_cons_zero, Act.put, List.setIfInBounds_toArray, List.set_cons_zero, List.set_cons_succ]
          refine wpAnyH_take (i := 9) (v := ?vpa9) rfl (by kernel_rfl) (by kernel_rfl) (by kernel_rfl) (fun _ _ _ h => h) (Or.inl ⟨by rfl, ?ypa9⟩) hHeld ?rpa9
          case ypa9 => (intro W hW; obtain ⟨⟨h0, h1, h2, h3, h4⟩, g0, g1, g2, g3, g4⟩ := hW; go_simp; first | done | with_reducible rfl)
          try simp only [List.getElem_toArray, List.getElem_cons_succ, List.getElem_cons_zero, Act.put, List.setIfInBounds_toArray, List.set_cons_zero, List.set_cons_succ]
          refine wpAnyH_take (i := 10) (v := ?vpa10) rfl (by kernel_rfl) (by kernel_rfl) (by kernel_rfl) (fun _ _ _ h => h) (Or.inl ⟨by rfl, ?ypa10⟩) hHeld ?rpa10
          case ypa10 => (intro W hW; obtain ⟨⟨h0, h1, h2, h3, h4⟩, g0, g1, g2, g3, g4⟩ := hW; go_simp; first | done | with_reducible rfl)
          try simp only [List.getElem_toArray, List.getElem_cons_succ, List.getElem_cons_zero, Act.put, List.setIfInBounds_toArray, List.set_cons_zero, List.set_cons_succ]
          refine wpAnyH_done (by kernel_rfl) ?_ _
          have f0 := hHeld.2.1
          clear hHeld bx5 c0' c1' c2' c3' c4' kp6 HEZ HW5
          cases tt with
          | true =>
            have HSN' : Hid (hasK (G.take (k + 1)) raw = true) := Lib.hid (by rw [HSN.out]; rfl)
            go_wp2
            go_roundw
            case rel => exact ⟨k + 1, by go_num, by omega, by rw [HSN'.out], Hb.out.trans (Hb6.out.mono Hb.out.size)⟩
            case measure => simp [intOf]; omega
          | false =>
            have HLT := Lib.hid (HLS.out w6 (Keeps.of_below Hb6.out))
            clear HLS
            go_wp2_with fail
            refine HLT.out.mono ?_
            rintro e w' ⟨rfl, qn, rfl⟩
            have HbL := Lib.hid (Hb.out.trans ((Hb6.out.mono Hb.out.size).trans (below_drewN (Below.refl _ w6) qn)))
            by_cases he : x.key = raw
            · have HSN' : Hid (hasK (G.take (k + 1)) raw = true) := Lib.hid (by rw [HSN.out, he]; simp)
              have e0 : (cmpL x.key raw == 0) = true := by rw [he, cmpL_self]; rfl
              clear he
              go_wp2
              go_roundw
              case rel => exact ⟨k + 1, by go_num, by omega, by rw [HSN'.out], HbL.out⟩
              case measure => simp [intOf]; omega
            · have HSN' : Hid (hasK (G.take (k + 1)) raw = false) := Lib.hid (by rw [HSN.out]; simp [he])
              have e0 : (cmpL x.key raw == 0) = false := by rw [beq_eq_false_iff_ne]; exact fun h => he (cmpL_zero.1 h)
              clear he
              go_wp2
              go_roundw
              case rel => exact ⟨k + 1, by go_num, by omega, by rw [HSN'.out], HbL.out⟩
              case measure => simp [intOf]; omega
        · obtain rfl : k = NG := by omega
          rw [List.take_of_length_le (Nat.le_of_eq HGEN.out.symm)]
          have d1 : decide ((k : Int) < (k : Int)) = false := by simp
          have Hb := Lib.hid hb
          clear hb
          go_wp2
          go_meet
          exact ⟨rfl, Hb.out⟩
    case rest =>
      obtain ⟨rfl, hb⟩ := hcut
      rename World => wr
      have HGR := Lib.hid (hGet_any w4.heap.size T g _ _ vs tsF (.slice a5 len5 cap5) raw wr (HT9.out.below hb) (by rw [HTL.out]; omega) (by rw [HTL.out]; omega) HEV.out (R9.out.keep (Keeps.of_below hb)) (by omega))
      have Hb := Lib.hid hb
      clear hb
      go_wp2_with fail
      refine HGR.out.mono ?_
      rintro e w10 ⟨⟨k', s', n', m', y, is, rfl, ⟨⟨Q1, e1', rfl, -⟩, ⟨Q2, e2', rfl, -⟩, ⟨Q3, e3', rfl, -⟩, ⟨Q4, e4', rfl, -⟩⟩, -, hor⟩, hb10⟩
      obtain rfl : is = hasK G raw := by
        rcases hor with ⟨-, h, h2⟩ | ⟨h, h2, -⟩
        · rw [HGO.out y h, h2]
        · rw [HGN.out h, h2]
      have hbb : Below w9.heap.size w9 w10 := Hb.out.trans (hb10.mono Hb.out.size)
      have hbz : ∀ vv T0, Below w9.heap.size w9 (w10.alloc (.cells vv T0)) := fun vv T0 => hbb.alloc hbb.size _
      have HLN := Lib.hid (fun (W : World) (h : Below w9.heap.size w9 W) => hLen_any w4.heap.size T g _ _ vs tsF W (HT9.out.below h))
      have Hbz := Lib.hid hbz
      obtain ⟨hh, ehh⟩ : ∃ hh, hh = hasK G raw := ⟨_, rfl⟩
      rw [← ehh]
      have hhe : (hh == hh) = true := by simp
      have hnn : ((NG : Int) == (NG : Int)) = true := by simp
      clear hor hbb hbz hb10 HGR ehh
      go_wp2_with fail
      refine (HLN.out _ (Hbz.out _ _)).mono ?_
      rintro e w' ⟨rfl, rfl⟩
      rw [HCL.out]
      go_wp2
      go_ret
      exact ⟨rfl, Hb9.out.trans ((Hbz.out _ _).mono Hb9.out.size)⟩
end Go.Proofs.Ytgjcbbpmcojcoaa
