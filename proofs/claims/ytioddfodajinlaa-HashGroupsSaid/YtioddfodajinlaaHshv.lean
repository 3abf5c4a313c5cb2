/- The reference's Parts. -/
import Derived.IntWalk
import Derived.Test.YtioddfodajinlaaHshu
import Derived.Test.YtioddfodajinlaaHshr5
import Derived.Test.YtioddfodajinlaaHshr2
namespace Go.Proofs.Ytioddfodajinlaa
open Go.RowKit
attribute [local go_sem] Oper.semAt_some
/-- What the reference's Parts answers. -/
def PartsSpec (f : Nat) : Prop := ∀ (P : Option Addr) (c N slots a dd mm : Nat) (L : List Cel) (w : World), RowC w P N L → N = L.length → N ≤ 60 → Fit dd a L → a + f = dd → OkL dd mm L → dd ≤ 4 → mm ≤ 2 → 1 ≤ slots → slots ≤ 10000 →
    Calls Try.prog 45 #[.slice P N c, .int .i64 slots, .int .i64 a] w fun e w' => ∃ v us, e = .returned v ∧ GSs w.heap.size w' v us (partsP slots f a L) ∧ Below w.heap.size w w'
set_option maxRecDepth 100000 in
set_option maxHeartbeats 8000000 in
theorem parts_step (f : Nat) (IH : ∀ f', f' + 1 = f → PartsSpec f') : PartsSpec f := by
  intro P c N slots a dd mm L w hl hN hn hF hd hok hdd hmm hs1 hs2
  obtain ⟨fb, hfb⟩ : ∃ fb, fb = decide ((grpR L).length ≤ slots) := ⟨_, rfl⟩
  have HF := Lib.hid hF
  have HL := Lib.hid hl
  have HN := Lib.hid hN
  have HOK := Lib.hid hok
  have HFB := Lib.hid hfb
  have HIH := Lib.hid IH
  have hSN : StR slots dd mm (List.replicate slots none) := StR.new
  have HSN := Lib.hid hSN
  clear hF hl hN hok hfb IH hSN
  go_enter Try.func45, Try.ntmps45
  go_wp2_with fail
  refine (rtNew_any slots w hs1 hs2).mono ?_
  rintro e w1 ⟨T, gC, gI, rfl, hR1, hb1⟩
  have HR1 := Lib.hid hR1
  have Hb1 := Lib.hid hb1
  have HMy := Lib.hid (show ∀ q, (q = gC ∨ q = gI ∨ q = T) → w.heap.size ≤ q from fun q hq => by
    have := hR1.hT; have := hR1.hC; have := hR1.hI
    rcases hq with h | h | h <;> omega)
  have hz01 := hb1.size
  clear hR1 hb1
  go_upto_block 0 with (fail)
  go_cut [8] (fun v wx => v = .bool fb ∧ (fb = true → ∃ ts vs, fillT (List.replicate slots none) L = some ts ∧ RT w.heap.size wx T gC gI vs ts) ∧ Below w.heap.size w wx)
  case first =>
    go_wp2_with fail
    go_loopw [8, 9] (fun v i wr => ∃ j : Nat, i = .int .i64 j ∧ j ≤ N ∧ Below w.heap.size w wr ∧ ((∃ ts vs, v = .bool true ∧ fillT (List.replicate slots none) (L.take j) = some ts ∧ RT w.heap.size wr T gC gI vs ts) ∨ (v = .bool false ∧ fillT (List.replicate slots none) L = none))) (fun _ i _ => N - (intOf i).toNat)
    case atStart => exact ⟨0, rfl, Nat.zero_le _, Hb1.out, .inl ⟨_, _, rfl, rfl, HR1.out⟩⟩
    case round =>
      obtain ⟨j, rfl, hj, hb, hor⟩ := hrel
      rename World => wr
      rcases hor with ⟨ts, vs, rfl, hfl, hR⟩ | ⟨rfl, hfl⟩
      · by_cases hlt : j < N
        · have i0 : (0 : Int) ≤ (j : Int) := by omega
          have i1 : (j : Int) < (N : Int) := by omega
          have d1 : decide ((j : Int) < (N : Int)) = true := decide_eq_true i1
          obtain ⟨x, hx⟩ : ∃ x, L[j]? = some x := ⟨_, List.getElem?_eq_getElem (by rw [← HN.out]; exact hlt)⟩
          obtain ⟨hxk, hok, hxe⟩ := HOK.out x (List.mem_of_getElem? hx)
          have hS : StR slots dd mm ts := StR.fill _ HSN.out (fun y hy => HOK.out y (List.mem_of_mem_take hy)) hfl
          obtain ⟨x1, x2, x3⟩ := id hxe
          obtain ⟨ad, rfl, hcr⟩ := (HL.out.keep (Keeps.of_below hb)) (by omega)
          obtain ⟨vk, vs5, vn, vm, p0, p1, p2, p3, p4, hcc, hxi⟩ := hcr j x hx
          have hP2 := rtPut_st w.heap.size T gC gI slots dd mm vs ts vk vs5 vn vm x wr hR hS hs1 hs2 hcc hxi ⟨hxk, hok, hxe⟩ hdd hmm hb.size
          have hfl2 : ∀ pb, pb = (putT ts x).isSome → (pb = true → fillT (List.replicate slots none) (L.take (j + 1)) = some (stepT ts x)) ∧ (pb = false → fillT (List.replicate slots none) L = none) := fun pb hpb => by
            have hsn : fillT (List.replicate slots none) (L.take (j + 1)) = putT ts x := by
              rw [List.take_add_one, hx, Option.toList_some, fill_snoc, hfl]
              rfl
            unfold stepT
            cases hp : putT ts x with
            | none =>
              rw [hp] at hpb
              refine ⟨(fun h => by rw [hpb] at h; cases h), fun _ => ?_⟩
              have := fill_stop _ (L.drop (j + 1)) _ (hsn.trans hp)
              rwa [List.take_append_drop] at this
            | some t =>
              rw [hp] at hpb
              exact ⟨fun _ => hsn.trans hp, (fun h => by rw [hpb] at h; cases h)⟩
          obtain ⟨pb, hpb⟩ : ∃ z, z = (putT ts x).isSome := ⟨_, rfl⟩
          rw [← hpb] at hP2
          have HFL := Lib.hid (hfl2 pb hpb)
          obtain ⟨⟨P1, q1, rfl, -⟩, ⟨P2, q2, rfl, -⟩, ⟨P3, q3, rfl, -⟩, ⟨P4, q4, rfl, -⟩⟩ := hcc
          rw [hxk] at p0 hP2
          rw [x1] at p2 hP2
          rw [x2] at p3 hP2
          rw [x3] at p4 hP2
          obtain ⟨xc, exc⟩ : ∃ z, z = x.cnt := ⟨_, rfl⟩
          rw [← exc] at p1 hP2
          have HP2 := Lib.hid hP2
          have Hb := Lib.hid hb
          clear hx hxk hok hxe x1 x2 x3 hcr hxi hP2 exc hR hS hb hpb hfl hfl2
          go_wp2_with fail
          refine HP2.out.mono ?_
          rintro e wF ⟨rfl, ⟨vs2', hRF⟩, htF⟩
          have HRF := Lib.hid hRF
          have HbF := Lib.hid (Hb.out.trans (htF.below HMy.out Hb.out.size))
          clear hRF htF p0 p1 p2 p3 p4 HP2
          have HOR : Hid ((∃ ts vs, Value.bool pb = .bool true ∧ fillT (List.replicate slots none) (L.take (j + 1)) = some ts ∧ RT w.heap.size wF T gC gI vs ts) ∨ (Value.bool pb = .bool false ∧ fillT (List.replicate slots none) L = none)) := Lib.hid (by
            cases pb with
            | true => exact .inl ⟨_, _, rfl, HFL.out.1 rfl, HRF.out⟩
            | false => exact .inr ⟨rfl, HFL.out.2 rfl⟩)
          go_wp2
          go_roundw
          case rel => exact ⟨j + 1, by go_num, by omega, HbF.out, HOR.out⟩
          case measure => simp [intOf]; omega
        · obtain rfl : j = N := by omega
          have d1 : decide ((j : Int) < (j : Int)) = false := by simp
          have ht : L.take j = L := List.take_of_length_le (by rw [HN.out]; exact Nat.le_refl _)
          rw [ht] at hfl
          have hfb : fb = true := by
            rw [HFB.out]
            exact decide_eq_true ((fill_fits L slots).1 ⟨ts, hfl⟩)
          have HE := Lib.hid (show Value.bool true = .bool fb ∧ (fb = true → ∃ ts vs, fillT (List.replicate slots none) L = some ts ∧ RT w.heap.size wr T gC gI vs ts) ∧ Below w.heap.size w wr from ⟨by rw [hfb], fun _ => ⟨ts, vs, hfl, hR⟩, hb⟩)
          clear hfl hR hb hfb ht
          go_wp2
          go_meet
          exact HE.out
      · have hfb : fb = false := by
          rw [HFB.out, decide_eq_false_iff_not]
          intro h
          obtain ⟨ts, h2⟩ := (fill_fits L slots).2 h
          rw [hfl] at h2
          cases h2
        have HE := Lib.hid (show Value.bool false = .bool fb ∧ (fb = true → ∃ ts vs, fillT (List.replicate slots none) L = some ts ∧ RT w.heap.size wr T gC gI vs ts) ∧ Below w.heap.size w wr from ⟨by rw [hfb], (fun h => by rw [hfb] at h; cases h), hb⟩)
        clear hfl hb hfb
        by_cases hlt : j < N
        · have d1 : decide ((j : Int) < (N : Int)) = true := decide_eq_true (by omega)
          go_wp2
          go_meet
          exact HE.out
        · have d1 : decide ((j : Int) < (N : Int)) = false := decide_eq_false (by omega)
          have d2 : decide (j < N) = false := decide_eq_false hlt
          go_wp2
          go_meet
          exact HE.out
  case rest =>
    obtain ⟨rfl, hfit, hb⟩ := hcut
    rename World => w2
    cases fb with
    | true =>
      have hle : (grpR L).length ≤ slots := of_decide_eq_true HFB.out.symm
      obtain ⟨ts, vs, hfl, hR⟩ := hfit rfl
      have hS : StR slots dd mm ts := StR.fill _ HSN.out HOK.out hfl
      obtain ⟨-, -, hgr, hpm⟩ := fill_cells hfl
      have hcl : (cellsT ts).length ≤ 60 := by
        rw [hpm.length_eq]
        exact Nat.le_trans (grp_len_le L) (by rw [← HN.out]; exact hn)
      have hC2 := rtCells_any w.heap.size T gC gI vs ts w2 hR (by rw [hS.len]; exact hs2) (fun i z hz => by have := hS.at_ hdd hmm i z hz; exact ⟨this.1, this.2.2⟩)
      have hpp : partsP slots f a L = [grpR L] := parts_fit hle
      have hev : ∀ x ∈ cellsT ts, EvenC mm x ∧ x.key.length ≤ 1000000 := fun x hx => ⟨(hS.ok x hx).2.2, by rw [(hS.ok x hx).1]; omega⟩
      have HC2 := Lib.hid hC2
      have HPP := Lib.hid hpp
      have HEV := Lib.hid hev
      have HCL := Lib.hid hcl
      have HGR := Lib.hid hgr
      have Hb := Lib.hid hb
      clear hfit hfl hR hS hgr hpm hcl hC2 hpp hev hb hle
      go_wp2_with fail
      refine HC2.out.mono ?_
      rintro e w3 ⟨v3, us3, rfl, hg3, hb3⟩
      obtain ⟨P3, c3, e3, -⟩ := hg3.form
      subst e3
      obtain ⟨hrc, hrn⟩ := hg3.rowC
      obtain ⟨n3, hn3⟩ : ∃ z, z = us3.length := ⟨_, rfl⟩
      rw [← hn3] at hrc hrn ⊢
      have hG := rGroup_any P3 c3 n3 mm (cellsT ts) w3 hrc HEV.out (by omega) hrn (by rw [hrn]; have := HCL.out; omega)
      rw [HGR.out] at hG
      have HG := Lib.hid hG
      have Hb3 := Lib.hid (Hb.out.trans (hb3.mono Hb.out.size))
      clear hg3 hb3 hrc hrn hn3 hG HC2
      go_wp2_with fail
      refine HG.out.mono ?_
      rintro e w4 ⟨v4, us4, rfl, hg4, hb4⟩
      have hb04 : Below w.heap.size w w4 := Hb3.out.trans (hb4.mono Hb3.out.size)
      have hg5 := GSs.one (hg4.mono Hb3.out.size) hb04.size
      obtain ⟨P4, c4, e4, -⟩ := hg4.form
      have HG5 := Lib.hid (show GSs w.heap.size (w4.alloc (.cells #[v4] 29)) (.slice (some ⟨w4.heap.size, 0, none⟩) 1 1) [v4] (partsP slots f a L) ∧ Below w.heap.size w (w4.alloc (.cells #[v4] 29)) from ⟨by rw [HPP.out]; exact hg5, hb04.alloc hb04.size _⟩)
      clear hg4 hb4 hb04 hg5 HG
      subst e4
      go_wp2
      go_ret
      exact ⟨_, _, rfl, HG5.out.1, HG5.out.2⟩
    | false =>
      have hle : ¬ (grpR L).length ≤ slots := of_decide_eq_false HFB.out.symm
      have had : a < dd := fit_lt hs1 (by omega) HF.out hle
      obtain ⟨f', rfl⟩ : ∃ f', f = f' + 1 := ⟨f - 1, by omega⟩
      have hPS := HIH.out f' rfl
      have Hb2 := Lib.hid hb
      have hLE := Lib.hid hle
      have hgle := Nat.le_trans (grp_len_le L) (Nat.le_trans (Nat.le_of_eq HN.out.symm) hn)
      have HGLE := Lib.hid hgle
      have HPS := Lib.hid hPS
      clear hfit hb HR1 hgle hle hPS HIH
      go_wp2_with fail
      go_loopw [10, 11] (fun out i wr => ∃ (k : Nat) (us : List Value), i = .int .i64 k ∧ k ≤ 16 ∧ GSs w.heap.size wr out us (partsK slots f' a k L) ∧ Below w.heap.size w wr) (fun _ i _ => 16 - (intOf i).toNat)
      case atStart => exact ⟨0, [], rfl, Nat.zero_le _, GSs.nil _ _, Hb2.out⟩
      case round =>
        obtain ⟨k, us, rfl, hk, hG, hb⟩ := hrel
        rename World => wr
        by_cases hk16 : k < 16
        · have d1 : decide ((k : Int) < 16) = true := decide_eq_true (by omega)
          have HG := Lib.hid hG
          have Hb := Lib.hid hb
          obtain ⟨Po, co, e0, -⟩ := hG.form
          obtain ⟨nu, hnu⟩ : ∃ z, z = us.length := ⟨_, rfl⟩
          rw [← hnu] at e0
          have HNU := Lib.hid hnu
          clear hG hb hnu
          subst e0
          go_upto_block 4 with (fail)
          go_cut [12] (fun pv wx => ∃ (n q : Nat) (A : Option Addr), pv = .slice A n q ∧ n = (byV L a k).length ∧ RowC wx A n (byV L a k) ∧ Below wr.heap.size wr wx)
          case first =>
            go_wp2_with fail
            go_loopw [12, 13] (fun pv i wx => ∃ (q : Nat) (zs : List V5), i = .int .i64 q ∧ q ≤ N ∧ RowF wr.heap.size w wx pv zs (byV (L.take q) a k) ∧ Below wr.heap.size wr wx) (fun _ i _ => N - (intOf i).toNat)
            case atStart => exact ⟨0, [], rfl, Nat.zero_le _, by simpa [byV] using RowF.nil _ _ _, Below.refl _ _⟩
            case round =>
              obtain ⟨q, zs, rfl, hq, hRF, hbx⟩ := hrel
              rename World => wx
              by_cases hlt : q < N
              · have i0 : (0 : Int) ≤ (q : Int) := by omega
                have i1 : (q : Int) < (N : Int) := by omega
                have d2 : decide ((q : Int) < (N : Int)) = true := decide_eq_true i1
                obtain ⟨x, hx⟩ : ∃ x, L[q]? = some x := ⟨_, List.getElem?_eq_getElem (by rw [← HN.out]; exact hlt)⟩
                obtain ⟨hxk, -, hxe⟩ := HOK.out x (List.mem_of_getElem? hx)
                have hka := key_at HF.out had (List.mem_of_getElem? hx)
                have hbt := byV_take (a := a) (v := k) hx
                obtain ⟨ad, rfl, hcv⟩ := HL.out (by omega)
                have hk0 : Keeps w wx := Keeps.of_below (Hb.out.trans (hbx.mono Hb.out.size))
                obtain ⟨vk, vs5, vn, vm, r0, r1, r2, r3, r4, hcc, hxi⟩ := hcv q x hx
                have p0 := hk0 _ _ r0
                have p1 := hk0 _ _ r1
                have p2 := hk0 _ _ r2
                have p3 := hk0 _ _ r3
                have p4 := hk0 _ _ r4
                have hur : Reads w ⟨vk, .int .i64 x.cnt, vs5, vn, vm⟩ x := ⟨rfl, hcc, hxi⟩
                obtain ⟨⟨P1, q1, rfl, nk, -⟩, ⟨P2, q2, rfl, -⟩, ⟨P3, q3, rfl, -⟩, ⟨P4, q4, rfl, -⟩⟩ := hcc
                obtain ⟨av, y, rfl, hy, -, hyc⟩ := (nk.keep hk0).at_ (by rw [hxk]; exact had)
                have hyv : y = valK x a := by
                  rw [hka] at hy
                  injection hy with hy
                  exact hy.symm
                have hzl : zs.length ≤ 60 := by
                  rw [hRF.2.1]
                  unfold byV
                  refine Nat.le_trans (List.length_filter_le _ _) ?_
                  rw [List.length_take]; omega
                obtain ⟨v', Y, hrun, hRF2, hbY⟩ := append_rf hRF hur (by omega) hbx.size
                rw [← hyv] at hbt
                obtain ⟨Pz, cz, nz, ez, -⟩ := hRF.row (Hb.out.trans (hbx.mono Hb.out.size))
                obtain ⟨Pz', nz', cz', ez', -⟩ := hRF2.row ((Hb.out.trans (hbx.mono Hb.out.size)).trans (hbY.mono (Nat.le_trans Hb.out.size (Nat.le_refl _))))
                rw [hxk] at p0 hrun
                obtain ⟨x1, x2, x3⟩ := hxe
                rw [x1] at p2 hrun
                rw [x2] at p3 hrun
                rw [x3] at p4 hrun
                obtain ⟨xc, exc⟩ : ∃ z, z = x.cnt := ⟨_, rfl⟩
                rw [← exc] at p1 hrun
                have HBT := Lib.hid hbt
                have HRF := Lib.hid hRF
                have HRF2 := Lib.hid hRF2
                have Hbx := Lib.hid hbx
                have HbY := Lib.hid hbY
                have Hrun := Lib.hid hrun
                have a0 : (0 : Int) ≤ (a : Int) := by omega
                have a1 : (a : Int) < (dd : Int) := by omega
                clear hx hka hbt hur hcv hk0 r0 r1 r2 r3 r4 hxi nk hy hyv hzl hrun hRF2 hbY hRF hbx x1 x2 x3 exc
                subst ez ez'
                by_cases hyk : y = (k : Int)
                · have e1 : (y == (k : Int)) = true := by rw [hyk]; simp
                  have e2 : ((k : Int) == (k : Int)) = true := by simp
                  have HE : Hid (byV (L.take (q + 1)) a k = byV (L.take q) a k ++ [x]) := Lib.hid (by rw [HBT.out, if_pos hyk])
                  subst hyk
                  go_wp2_with (at_builtin; have _t := Hrun; refine wpList_append_eq rfl (.tmp 56) (.tmp 61) 29 rfl _ _ _ _ rfl rfl Hrun.out ?_; clear _t Hrun)
                  go_roundw
                  case rel => exact ⟨q + 1, _, by go_num, by omega, by rw [HE.out]; exact HRF2.out, Hbx.out.trans HbY.out⟩
                  case measure => simp [intOf]; omega
                · have e1 : (y == (k : Int)) = false := by simpa using hyk
                  have HE : Hid (byV (L.take (q + 1)) a k = byV (L.take q) a k) := Lib.hid (by rw [HBT.out, if_neg hyk, List.append_nil])
                  clear hyk
                  go_wp2
                  go_roundw
                  case rel => exact ⟨q + 1, _, by go_num, by omega, by rw [HE.out]; exact HRF.out, Hbx.out⟩
                  case measure => simp [intOf]; omega
              · obtain rfl : q = N := by omega
                have d2 : decide ((q : Int) < (q : Int)) = false := by simp
                have ht : L.take q = L := List.take_of_length_le (by rw [HN.out]; exact Nat.le_refl _)
                rw [ht] at hRF
                obtain ⟨A, n, qc, rfl, hn1, -, hrc⟩ := hRF.row (Hb.out.trans (hbx.mono Hb.out.size))
                have HE := Lib.hid (show n = (byV L a k).length ∧ RowC wx A n (byV L a k) ∧ Below wr.heap.size wr wx from ⟨hn1, hrc, hbx⟩)
                clear ht hRF hrc hbx hn1
                go_wp2
                go_meet
                exact ⟨_, _, _, rfl, HE.out⟩
          case rest =>
            obtain ⟨n, qc, A, rfl, hn1, hrc, hbx⟩ := hcut
            rename World => wx
            have hsu := partsK_succ slots f' a k L
            have hfw := partsK_few hs1 hd HF.out hLE.out (show k + 1 ≤ 16 by omega)
            have hbt : Below w.heap.size w wx := Hb.out.trans (hbx.mono Hb.out.size)
            by_cases hn0 : n = 0
            · have e0 : byV L a k = [] := List.eq_nil_of_length_eq_zero (by omega)
              rw [if_pos e0, List.append_nil] at hsu
              have HE := Lib.hid (show GSs w.heap.size wx (.slice Po nu co) us (partsK slots f' a (k + 1) L) ∧ Below w.heap.size w wx from ⟨by rw [hsu]; exact HG.out.below hbx, hbt⟩)
              clear hsu hfw hbt hrc hbx hn1 e0
              subst hn0
              go_wp2
              go_roundw
              case rel => exact ⟨k + 1, _, by go_num, by omega, HE.out⟩
              case measure => simp [intOf]; omega
            · have d2 : decide ((0 : Int) < (n : Int)) = true := decide_eq_true (by omega)
              have d3 : decide (0 < n) = true := decide_eq_true (by omega)
              have d4 : 0 < n := by omega
              have hne : byV L a k ≠ [] := fun e => hn0 (by rw [hn1, e]; rfl)
              rw [if_neg hne] at hsu
              have hFB := HF.out.by (v := k) had
              have hps := HPS.out A qc n slots (a + 1) dd mm (byV L a k) wx hrc hn1 (by rw [hn1]; unfold byV; refine Nat.le_trans (List.length_filter_le _ _) ?_; rw [← HN.out]; exact hn) hFB (by omega) (fun y hy => HOK.out y (mem_byV.1 hy).1) hdd hmm hs1 hs2
              have hpos := parts_pos slots dd f' (a + 1) (byV L a k) (by omega) hFB
              have hGx := HG.out.below hbx
              have HPS2 := Lib.hid hps
              have HSU := Lib.hid hsu
              have HFW := Lib.hid hfw
              have HPO := Lib.hid hpos
              have HGX := Lib.hid hGx
              have HBT := Lib.hid hbt
              have hwa : IntKind.i64.wrap ((a : Int) + 1) = ((a + 1 : Nat) : Int) := by rw [IntWalk.i64_in _ (by omega)]; rfl
              clear hsu hfw hbt hrc hbx hn1 hne hFB hps hpos hGx hn0
              obtain ⟨a2, ha2⟩ : ∃ z, z = a + 1 := ⟨_, rfl⟩
              rw [← ha2] at hwa HPS2 HPO HSU
              clear ha2
              go_wp2_with fail
              refine HPS2.out.mono ?_
              rintro e wy ⟨v6, us6, rfl, hg6, hb6⟩
              obtain ⟨P6, c6, e6, hle6, -⟩ := hg6.form
              have hl6 : us6.length ≤ 60 ∧ us.length ≤ 60 ∧ 0 < us6.length := by
                have h1 := HFW.out
                have h2 := HGLE.out
                rw [HSU.out, List.length_append, ← hg6.2.1, ← HGX.out.2.1] at h1
                have h3 := HPO.out
                rw [← hg6.2.1] at h3
                omega
              obtain ⟨n6, hn6⟩ : ∃ z, z = us6.length := ⟨_, rfl⟩
              rw [e6] at hg6
              obtain ⟨v7, Y, hrun, hg7, hb7⟩ := append_gs (HGX.out.below hb6) hg6 HBT.out.size hl6.2.2 (by omega) (Nat.le_trans HBT.out.size hb6.size)
              rw [← hn6] at hrun e6
              subst e6
              have HE := Lib.hid (show GSs w.heap.size Y v7 (us ++ us6) (partsK slots f' a (k + 1) L) ∧ Below w.heap.size w Y from ⟨by rw [HSU.out]; exact hg7, (HBT.out.trans (hb6.mono HBT.out.size)).trans hb7⟩)
              have Hrun := Lib.hid hrun
              obtain ⟨P7, c7, e7, -⟩ := hg7.form
              rw [List.length_append] at e7
              clear hg6 hb6 hl6 hg7 hb7 hrun hn6 hle6 HPS2
              subst e7
              go_wp2_with (at_builtin; have _t := Hrun; refine wpList_append_eq rfl (.tmp 66) (.tmp 71) 86 rfl _ _ _ _ rfl rfl Hrun.out ?_; clear _t Hrun)
              go_roundw
              case rel => exact ⟨k + 1, _, by go_num, by omega, HE.out⟩
              case measure => simp [intOf]; omega
        · obtain rfl : k = 16 := by omega
          have HE := Lib.hid (show GSs w.heap.size wr _ us (partsP slots (f' + 1) a L) ∧ Below w.heap.size w wr from ⟨by rw [partsP_split hLE.out]; exact hG, hb⟩)
          obtain ⟨Po, co, e0, -⟩ := hG.form
          clear hG hb
          subst e0
          go_wp2
          go_ret
          exact ⟨_, _, rfl, HE.out.1, HE.out.2⟩
theorem rtParts_any : ∀ f, PartsSpec f
  | 0 => parts_step 0 fun f' h => by omega
  | f + 1 => parts_step (f + 1) fun f' h => by
    obtain rfl : f' = f := by omega
    exact rtParts_any f'
end Go.Proofs.Ytioddfodajinlaa
