/- The law RunsOnly. -/
import Derived.IntWalk
import Derived.Test.YtaaciedelfaekaaDoorKeyRow
import Derived.Test.YtaaciedelfaekaaDoorGood5
import Derived.Test.YtaaciedelfaekaaDoorMath5
import Derived.Test.YtaaciedelfaekaaDoorWith5
import Derived.Test.YtaaciedelfaekaaDoorIsRow
namespace Go.Proofs.YtaaciedelfaekaaDoor
open Go.RowKit
attribute [local go_sem] Oper.semAt_some
set_option maxRecDepth 100000 in
set_option maxHeartbeats 8000000 in
theorem runsOnly_walk (a0 : Option Addr) (len0 cap0 : Nat) (z0 : List Int) (w : World) (w0 : IsRow .i64 w a0 len0 cap0 z0) :
    Calls Tryd.prog 9 #[.slice a0 len0 cap0] w fun e w' => e = .returned (.bool true) ∧ Below w.heap.size w w' := by
  obtain ⟨n0, lc0, cm0⟩ := w0.nums
  have HW := Lib.hid (fun (x n : Int) (W : World) (h : inK .i64 x) (e1 : 1 ≤ n) (e2 : n ≤ 100) => lwithin5 x n W h e1 (by omega))
  obtain ⟨zs, hzs⟩ : ∃ zs, zs = z0.take len0 := ⟨_, rfl⟩
  rw [← hzs] at n0
  obtain ⟨ks, hks⟩ : ∃ ks, ks = zs.map (· % 3) := ⟨_, rfl⟩
  have hkl : ks.length = len0 := by rw [hks, List.length_map, n0.1]
  have hkb : ∀ k ∈ ks, 0 ≤ k ∧ k ≤ 15 := fun k hk => by
    rw [hks] at hk
    obtain ⟨z, -, rfl⟩ := List.mem_map.1 hk
    omega
  have N0 := Lib.hid n0
  have HKS := Lib.hid hks
  have HKB := Lib.hid hkb
  have HKL := Lib.hid hkl
  have HKn := Lib.hid (known5_any w)
  clear w0 n0 hzs hks hkb hkl
  go_enter Tryd.func9, Tryd.ntmps9
  go_wp2_with fail
  refine HKn.out.mono ?_
  rintro e w1 ⟨rfl, hb1⟩
  have Hb1 := Lib.hid hb1
  have N1 := Lib.hid (N0.out.keep (Keeps.of_below hb1))
  clear hb1 HKn N0
  go_wp2_with fail
  obtain ⟨n, hn⟩ : ∃ n, n = min len0 40 := ⟨_, rfl⟩
  have HN := Lib.hid hn
  have hn40 : n ≤ 40 := by omega
  have hnl : n ≤ len0 := by omega
  clear hn
  go_loopw [3, 4, 5] (fun s3 s4 s5 wr => ∃ (i : Nat) (us : List V5), s5 = .int .i64 i ∧ i ≤ n ∧ s4 = .int .i64 ((runsP 1 [] ((ks.take i).map (cK 1))).length : Nat) ∧ GRs w1.heap.size wr s3 us ((ks.take i).map (cK 1)) ∧ Below w1.heap.size w1 wr) (fun _ _ s5 _ => n - (intOf s5).toNat)
  case atStart => exact ⟨0, [], rfl, Nat.zero_le _, rfl, GRs.nil _ _, Below.refl _ _⟩
  case round =>
    obtain ⟨i, us, rfl, hi, rfl, hg, hb⟩ := hrel
    rename World => wr
    rename_i s3 _ _
    have HG := Lib.hid hg
    have Hbr := Lib.hid hb
    have hbig : (ks.take i).length = i := by rw [List.length_take, HKL.out]; omega
    obtain ⟨W0, hW0⟩ : ∃ W0, W0 = (runsP 1 [] ((ks.take i).map (cK 1))).length := ⟨_, rfl⟩
    rw [← hW0]
    have hWi : W0 ≤ i := by
      rw [hW0]
      have := runs_num (m := 1) (Nat.le_refl _) ((ks.take i).map (cK 1))
      rw [List.length_map, hbig] at this
      exact this
    have HW0 := Lib.hid hW0
    clear hg hb hW0
    by_cases hlt : i < n
    · have d1 : decide ((i : Int) < (len0 : Int)) = true := decide_eq_true (by omega)
      have d2 : decide ((i : Int) < 40) = true := decide_eq_true (by omega)
      have d3 : decide (i < len0) = true := decide_eq_true (by omega)
      have d4 : decide (i < 40) = true := decide_eq_true (by omega)
      obtain ⟨z, hz⟩ : ∃ z, zs[i]? = some z := ⟨_, List.getElem?_eq_getElem (by rw [N1.out.1]; omega)⟩
      have hk : ks[i]? = some (z % 3) := by rw [HKS.out, List.getElem?_map, hz]; rfl
      obtain ⟨ad, rfl, hc⟩ := N1.out.2.2 (by omega)
      have a0 := Keeps.of_below Hbr.out _ _ (hc i z hz)
      have hzi := N1.out.2.1 z (List.mem_of_getElem? hz)
      obtain ⟨k, hkk⟩ : ∃ k, k = z % 3 := ⟨_, rfl⟩
      have hkb2 : 0 ≤ k ∧ k < 3 := by omega
      rw [← hkk] at hk
      have HKK := Lib.hid hkk
      have i0 : (0 : Int) ≤ (i : Int) := by omega
      have i1 : (i : Int) < (len0 : Int) := by omega
      have HK := Lib.hid hk
      clear hc hz hk hkk
      go_wp2_with fail
      refine (HW.out z 3 wr hzi (by omega) (by omega)).mono ?_
      rintro e w' ⟨rfl, hw'⟩
      subst hw'
      rw [← HKK.out]
      have htk : ks.take (i + 1) = ks.take i ++ [k] := by rw [List.take_add_one, HK.out, Option.toList_some]
      have hmp : (ks.take (i + 1)).map (cK 1) = (ks.take i).map (cK 1) ++ [cK 1 k] := by rw [htk, List.map_append]; rfl
      have hul : us.length = i := by rw [HG.out.len, List.length_map, hbig]
      obtain ⟨v', us', Y, hrun, hG', hbY⟩ := key_app k 1 HG.out (by simp [inK]; omega) (by simp [inK]) (by omega) Hbr.out.size
      rw [← hmp] at hG'
      have Hrun := Lib.hid hrun
      have HG' := Lib.hid hG'
      have HBY := Lib.hid (Hbr.out.trans hbY)
      have hone := runs_one_more (cK 1 k) ((ks.take i).map (cK 1))
      rw [← hmp, ← HW0.out] at hone
      obtain ⟨P', c', hv', -, -, hrd, -⟩ := hG'.form
      obtain ⟨g, rfl, -, -, hcells, -⟩ := hrd (by rw [hG'.len, hmp]; simp)
      have hul' : us'.length = i + 1 := by rw [hG'.len, hmp, List.length_append, List.length_map, hbig]; rfl
      rw [hul'] at hv'
      subst hv'
      have HONE := Lib.hid hone
      by_cases hi0 : i = 0
      · have e0 : ((i : Int) == 0) = true := by rw [hi0]; rfl
        have hnew : W0 + 1 = (runsP 1 [] ((ks.take (i + 1)).map (cK 1))).length := by rw [HONE.out, hi0]; simp [lastKey]
        have HNEW := Lib.hid hnew
        clear hrun hG' hbY hone hrd hcells hul' hmp htk hul hi0 hnew a0
        go_wp2_with (first | (at_builtin; have _t := Hrun; refine wpList_append_eq rfl (.tmp 27) (.tmp 31) 29 rfl _ _ _ _ rfl rfl Hrun.out ?_; clear _t Hrun) | fail)
        go_roundw
        case rel => exact ⟨i + 1, us', by go_num, by omega, by rw [← HNEW.out]; go_num, HG'.out, HBY.out⟩
        case measure => simp [intOf]; omega
      · obtain ⟨j, hj⟩ : ∃ j, i = j + 1 := ⟨i - 1, by omega⟩
        obtain ⟨y, hy⟩ : ∃ y, ks[j]? = some y := ⟨_, List.getElem?_eq_getElem (by rw [HKL.out]; omega)⟩
        have hyj : ((ks.take (i + 1)).map (cK 1))[j]? = some (cK 1 y) := by rw [List.getElem?_map, List.getElem?_take, if_pos (by omega), hy]; rfl
        obtain ⟨vk, vs, vn, vm, b0, -, -, -, -, hcy, -⟩ := hcells j _ hyj
        obtain ⟨Py, cy, fy, ny, -⟩ := hcy.key
        have fy' : vk = .slice Py 1 cy := fy
        subst fy'
        obtain ⟨ay, rfl, hay⟩ := ny.2.2 (by show 0 < 1; omega)
        have b1 := hay 0 y rfl
        rw [add0'] at b1
        rw [add0] at b0
        have hlast : lastKey none ((ks.take i).map (cK 1)) = some [y] := by
          rw [hj, List.take_add_one, hy, Option.toList_some, List.map_append]
          exact lastKey_snoc (cK 1 y) _ _
        have hwj : IntKind.i64.wrap (j : Int) = (j : Int) := IntWalk.i64_in _ (by omega)
        have hsub : (i : Int) - 1 = (j : Int) := by omega
        have j0 : (0 : Int) ≤ (j : Int) := by omega
        have j1 : (j : Int) < ((i + 1 : Nat) : Int) := by omega
        have e0 : ((i : Int) == 0) = false := by rw [beq_eq_false_iff_ne]; omega
        have HJ := Lib.hid hj
        rw [hlast] at hone
        by_cases hyk : y = k
        · have e1 : (y != k) = false := by rw [hyk]; simp
          have hnew : W0 = (runsP 1 [] ((ks.take (i + 1)).map (cK 1))).length := by rw [hone, if_pos (by rw [hyk]; rfl)]; rfl
          have HNEW := Lib.hid hnew
          clear hrun hG' hbY hone hrd hcells hul' hmp htk hul hi0 hnew a0 hyj hcy fy ny hay hlast hj hyk HONE hy
          go_wp2_with (first | (at_builtin; have _t := Hrun; refine wpList_append_eq rfl (.tmp 27) (.tmp 31) 29 rfl _ _ _ _ rfl rfl Hrun.out ?_; clear _t Hrun) | fail)
          go_roundw
          case rel => exact ⟨i + 1, us', by go_num, by omega, by rw [← HNEW.out], HG'.out, HBY.out⟩
          case measure => simp [intOf]; omega
        · have e1 : (y != k) = true := by simpa using hyk
          have hnew : W0 + 1 = (runsP 1 [] ((ks.take (i + 1)).map (cK 1))).length := by rw [hone, if_neg (by intro h; injection h with h; injection h with h; exact hyk h)]
          have HNEW := Lib.hid hnew
          clear hrun hG' hbY hone hrd hcells hul' hmp htk hul hi0 hnew a0 hyj hcy fy ny hay hlast hj hyk HONE hy
          go_wp2_with (first | (at_builtin; have _t := Hrun; refine wpList_append_eq rfl (.tmp 27) (.tmp 31) 29 rfl _ _ _ _ rfl rfl Hrun.out ?_; clear _t Hrun) | fail)
          go_roundw
          case rel => exact ⟨i + 1, us', by go_num, by omega, by rw [← HNEW.out]; go_num, HG'.out, HBY.out⟩
          case measure => simp [intOf]; omega
    · obtain rfl : i = n := by omega
      obtain ⟨ls, hls⟩ : ∃ ls, ls = (ks.take i).map (cK 1) := ⟨_, rfl⟩
      rw [← hls] at HG HW0
      have hll : ls.length = i := by rw [hls, List.length_map, hbig]
      obtain ⟨Pl, cl, fl, -⟩ := HG.out.form
      have hul := HG.out.len
      rw [hll] at hul
      rw [hul] at fl
      have hrow := HG.out
      rw [fl] at hrow
      have hrow := hrow.rowC.1
      subst fl
      have hgood : ∀ x ∈ ls, GoodC 0 x := by rw [hls]; exact good_keys (by simp [inK]) (fun k hk => HKB.out k (List.mem_of_mem_take hk))
      have hone : ∀ x ∈ ls, x.cnt = 1 := by
        rw [hls]
        intro x hx
        obtain ⟨k, -, rfl⟩ := List.mem_map.1 hx
        rfl
      have hP : PosC ls := fun x hx => by have := hone x hx; omega
      have hLc : cnts ls = (i : Int) := by rw [cnts_one hone, hll]
      obtain ⟨Js, hJs⟩ : ∃ Js, Js = runsP 1 [] ls := ⟨_, rfl⟩
      rw [← hJs] at HW0
      obtain ⟨hPJ, hcJ⟩ := runs_cnts (m := 1) ls [] (fun x hx => absurd hx List.not_mem_nil) hP (by rw [hLc]; simp only [cnts, List.map_nil, List.sum_nil]; omega)
      have hcJ2 : cnts Js.flatten = (i : Int) := by rw [hJs, hcJ, hLc]; simp [cnts]
      rw [← hJs] at hPJ
      have hEA : ∀ J ∈ Js, ∃ x, J = [x] := fun J hJ => by
        obtain ⟨-, h1, h2⟩ := runs_each (Nat.le_refl 1) ls [] (by simp [RiseC]) (by simp) J (hJs ▸ hJ)
        exact List.length_eq_one_iff.1 (by omega)
      have hr := runs_any Pl cl i 1 0 ls wr hrow hll.symm (by omega) hgood (by omega) (by omega) (by omega)
      rw [← hJs] at hr
      have HRR := Lib.hid hr
      have HPJ := Lib.hid hPJ
      have HCJ := Lib.hid hcJ2
      have HEA := Lib.hid hEA
      clear hls hll hul hrow hgood hone hP hLc hJs hcJ hcJ2 hPJ hEA hr HG
      have hw40 := HN.out
      by_cases hA : i < len0
      · have d1 : decide ((i : Int) < (len0 : Int)) = true := decide_eq_true (by omega)
        have d2 : decide ((i : Int) < 40) = false := decide_eq_false (by omega)
        have d3 : decide (i < len0) = true := decide_eq_true hA
        have d4 : decide (i < 40) = false := decide_eq_false (by omega)
        clear hA hw40
        go_wp2_with fail
        refine HRR.out.mono ?_
        rintro e w5 ⟨v, gs, rfl, hG, hb5⟩
        obtain ⟨P5, c5, rfl, -, -, hC5, -⟩ := hG.form
        rw [← HW0.out] at hC5 ⊢
        have HC5 := Lib.hid hC5
        have HB5 := Lib.hid ((Hb1.out.trans (Hbr.out.mono Hb1.out.size)).trans (hb5.mono (Hb1.out.trans (Hbr.out.mono Hb1.out.size)).size))
        clear hG hC5 hb5
        go_wp2_with fail
        go_loopw [8, 9] (fun s8 s9 wy => ∃ (q : Nat), s9 = .int .i64 q ∧ q ≤ W0 ∧ s8 = .int .i64 (cnts (upTo Js q)) ∧ Below w5.heap.size w5 wy) (fun _ s9 _ => W0 - (intOf s9).toNat)
        case atStart => exact ⟨0, rfl, Nat.zero_le _, rfl, Below.refl _ _⟩
        case round =>
          obtain ⟨q, rfl, hq, rfl, hb⟩ := hrel
          rename World => wy
          have Hby := Lib.hid hb
          obtain ⟨v0, hv0⟩ : ∃ v0, v0 = cnts (upTo Js q) := ⟨_, rfl⟩
          rw [← hv0]
          have HV0 := Lib.hid hv0
          clear hb hv0
          by_cases hlq : q < W0
          · have d5 : decide ((q : Int) < (W0 : Int)) = true := decide_eq_true (by omega)
            obtain ⟨J, hJ⟩ : ∃ J, Js[q]? = some J := ⟨_, List.getElem?_eq_getElem (by rw [← HW0.out]; exact hlq)⟩
            obtain ⟨ad5, rfl, hc⟩ := HC5.out.keep (Keeps.of_below Hby.out) (by omega)
            obtain ⟨Pi, ci, a5, hrow, -⟩ := hc q J hJ
            obtain ⟨x, rfl⟩ := HEA.out J (List.mem_of_getElem? hJ)
            obtain ⟨bd, rfl, hcl⟩ := hrow (by show 0 < 1; omega)
            obtain ⟨vk, vs, vn, vm, -, b1, -, -, -, -, -⟩ := hcl 0 x rfl
            rw [show bd.add (0 * 5) = bd from by rw [Nat.zero_mul]; exact add0' _] at b1
            have a5' : wy.cell? (ad5.add q) = some (.slice (some bd) 1 ci) := a5
            have hup : cnts (upTo Js (q + 1)) = v0 + x.cnt := by rw [upTo_next hJ, cnts_app, ← HV0.out]; simp [cnts]
            have hbd : 0 ≤ v0 ∧ 0 ≤ x.cnt ∧ v0 + x.cnt ≤ (i : Int) := by
              obtain ⟨r, hr⟩ := @upTo_app Js (q + 1)
              have hr1 : PosC r := fun x hx => HPJ.out x (by rw [hr]; exact List.mem_append_right _ hx)
              have hr2 := hr1.sum
              have h2 := HCJ.out
              rw [hr, cnts_app, hup] at h2
              have hr3 : PosC (upTo Js q) := fun x hx => HPJ.out x (by
                rw [hr, upTo_next hJ]
                exact List.mem_append_left _ (List.mem_append_left _ hx))
              have h3 := hr3.sum
              rw [← HV0.out] at h3
              have h4 := HPJ.out x (List.mem_flatten.2 ⟨[x], List.mem_of_getElem? hJ, by simp⟩)
              omega
            obtain ⟨xc, hxc⟩ : ∃ xc, xc = x.cnt := ⟨_, rfl⟩
            rw [← hxc] at b1 hup hbd
            have HUP := Lib.hid hup
            have hwn : IntKind.i64.wrap (v0 + xc) = v0 + xc := IntWalk.i64_in _ (by omega)
            have q0 : (0 : Int) ≤ (q : Int) := by omega
            have q1 : (q : Int) < (W0 : Int) := by omega
            clear hc hJ hrow hcl a5 hup hbd hxc
            go_wp2
            go_roundw
            case rel => exact ⟨q + 1, by go_num, by omega, by rw [HUP.out], Hby.out⟩
            case measure => simp [intOf]; omega
          · obtain rfl : q = W0 := by omega
            have d5 : decide ((q : Int) < (q : Int)) = false := by simp
            have hnn : v0 = (i : Int) := by rw [HV0.out, HW0.out, upTo_all, HCJ.out]
            subst hnn
            have d6 : ((i : Int) == (i : Int)) = true := by simp
            have d7 : ((q : Int) == (q : Int)) = true := by simp
            go_wp2
            go_ret
            exact ⟨rfl, HB5.out.trans (Hby.out.mono HB5.out.size)⟩
      · have d1 : decide ((i : Int) < (len0 : Int)) = false := decide_eq_false (by omega)
        have d3 : decide (i < len0) = false := decide_eq_false hA
        clear hA hw40
        go_wp2_with fail
        refine HRR.out.mono ?_
        rintro e w5 ⟨v, gs, rfl, hG, hb5⟩
        obtain ⟨P5, c5, rfl, -, -, hC5, -⟩ := hG.form
        rw [← HW0.out] at hC5 ⊢
        have HC5 := Lib.hid hC5
        have HB5 := Lib.hid ((Hb1.out.trans (Hbr.out.mono Hb1.out.size)).trans (hb5.mono (Hb1.out.trans (Hbr.out.mono Hb1.out.size)).size))
        clear hG hC5 hb5
        go_wp2_with fail
        go_loopw [8, 9] (fun s8 s9 wy => ∃ (q : Nat), s9 = .int .i64 q ∧ q ≤ W0 ∧ s8 = .int .i64 (cnts (upTo Js q)) ∧ Below w5.heap.size w5 wy) (fun _ s9 _ => W0 - (intOf s9).toNat)
        case atStart => exact ⟨0, rfl, Nat.zero_le _, rfl, Below.refl _ _⟩
        case round =>
          obtain ⟨q, rfl, hq, rfl, hb⟩ := hrel
          rename World => wy
          have Hby := Lib.hid hb
          obtain ⟨v0, hv0⟩ : ∃ v0, v0 = cnts (upTo Js q) := ⟨_, rfl⟩
          rw [← hv0]
          have HV0 := Lib.hid hv0
          clear hb hv0
          by_cases hlq : q < W0
          · have d5 : decide ((q : Int) < (W0 : Int)) = true := decide_eq_true (by omega)
            obtain ⟨J, hJ⟩ : ∃ J, Js[q]? = some J := ⟨_, List.getElem?_eq_getElem (by rw [← HW0.out]; exact hlq)⟩
            obtain ⟨ad5, rfl, hc⟩ := HC5.out.keep (Keeps.of_below Hby.out) (by omega)
            obtain ⟨Pi, ci, a5, hrow, -⟩ := hc q J hJ
            obtain ⟨x, rfl⟩ := HEA.out J (List.mem_of_getElem? hJ)
            obtain ⟨bd, rfl, hcl⟩ := hrow (by show 0 < 1; omega)
            obtain ⟨vk, vs, vn, vm, -, b1, -, -, -, -, -⟩ := hcl 0 x rfl
            rw [show bd.add (0 * 5) = bd from by rw [Nat.zero_mul]; exact add0' _] at b1
            have a5' : wy.cell? (ad5.add q) = some (.slice (some bd) 1 ci) := a5
            have hup : cnts (upTo Js (q + 1)) = v0 + x.cnt := by rw [upTo_next hJ, cnts_app, ← HV0.out]; simp [cnts]
            have hbd : 0 ≤ v0 ∧ 0 ≤ x.cnt ∧ v0 + x.cnt ≤ (i : Int) := by
              obtain ⟨r, hr⟩ := @upTo_app Js (q + 1)
              have hr1 : PosC r := fun x hx => HPJ.out x (by rw [hr]; exact List.mem_append_right _ hx)
              have hr2 := hr1.sum
              have h2 := HCJ.out
              rw [hr, cnts_app, hup] at h2
              have hr3 : PosC (upTo Js q) := fun x hx => HPJ.out x (by
                rw [hr, upTo_next hJ]
                exact List.mem_append_left _ (List.mem_append_left _ hx))
              have h3 := hr3.sum
              rw [← HV0.out] at h3
              have h4 := HPJ.out x (List.mem_flatten.2 ⟨[x], List.mem_of_getElem? hJ, by simp⟩)
              omega
            obtain ⟨xc, hxc⟩ : ∃ xc, xc = x.cnt := ⟨_, rfl⟩
            rw [← hxc] at b1 hup hbd
            have HUP := Lib.hid hup
            have hwn : IntKind.i64.wrap (v0 + xc) = v0 + xc := IntWalk.i64_in _ (by omega)
            have q0 : (0 : Int) ≤ (q : Int) := by omega
            have q1 : (q : Int) < (W0 : Int) := by omega
            clear hc hJ hrow hcl a5 hup hbd hxc
            go_wp2
            go_roundw
            case rel => exact ⟨q + 1, by go_num, by omega, by rw [HUP.out], Hby.out⟩
            case measure => simp [intOf]; omega
          · obtain rfl : q = W0 := by omega
            have d5 : decide ((q : Int) < (q : Int)) = false := by simp
            have hnn : v0 = (i : Int) := by rw [HV0.out, HW0.out, upTo_all, HCJ.out]
            subst hnn
            have d6 : ((i : Int) == (i : Int)) = true := by simp
            have d7 : ((q : Int) == (q : Int)) = true := by simp
            go_wp2
            go_ret
            exact ⟨rfl, HB5.out.trans (Hby.out.mono HB5.out.size)⟩
end Go.Proofs.YtaaciedelfaekaaDoor
