/- The law MergeSorted. -/
import Derived.IntWalk
import Derived.Test.YtmolfcccfekcpaaGood5
import Derived.Test.YtmolfcccfekcpaaMath5
import Derived.Test.YtmolfcccfekcpaaRrow6
import Derived.Test.YtmolfcccfekcpaaFactsLaw2
import Derived.Test.YtmolfcccfekcpaaSet
import Derived.Test.YtmolfcccfekcpaaIsRow
import Derived.Test.YtmolfcccfekcpaaRfacts
namespace Go.Proofs.Ytmolfcccfekcpaa
open Go.RowKit
attribute [local go_sem] Oper.semAt_some
set_option maxRecDepth 100000 in
set_option maxHeartbeats 8000000 in
theorem mergeSorted_walk (a0 : Int) (a1 : Option Addr) (len1 cap1 : Nat) (z1 : List Int) (a2 : Int) (a3 : Option Addr) (len3 cap3 : Nat) (z3 : List Int) (a4 : Int) (a5 a6 : Int) (w : World) (h0 : inK .i64 a0) (w1 : IsRow .i64 w a1 len1 cap1 z1) (h2 : inK .i64 a2) (w3 : IsRow .i64 w a3 len3 cap3 z3) (h4 : inK .i64 a4) (h5 : inK .i64 a5) (h6 : inK .i64 a6) :
    Calls Try.prog 12 #[.int .i64 a0, .slice a1 len1 cap1, .int .i64 a2, .slice a3 len3 cap3, .int .i64 a4, .int .i64 a5, .int .i64 a6] w fun e w' => e = .returned (.bool true) ∧ Below w.heap.size w w' := by
  obtain ⟨n1, lc1, cm1⟩ := w1.nums
  obtain ⟨n3, lc3, cm3⟩ := w3.nums
  have HW := Lib.hid (fun (x n : Int) (W : World) (h : inK .i64 x) (e1 : 1 ≤ n) (e2 : n ≤ 100) => lwithin6 x n W h e1 (by omega))
  have N1 := Lib.hid n1
  have N3 := Lib.hid n3
  have HKn := Lib.hid (known6_any w)
  clear w1 w3 n1 n3
  go_enter Try.func12, Try.ntmps12
  go_wp2_with fail
  refine HKn.out.mono ?_
  rintro e w1 ⟨rfl, hb1⟩
  have Hb1 := Lib.hid hb1
  clear hb1 HKn
  go_wp2_with fail
  refine (Facts_res a0 a2 a1 a3 len1 cap1 len3 cap3 _ _ w1 (N1.out.keep (Keeps.of_below Hb1.out)) (N3.out.keep (Keeps.of_below Hb1.out)) (by omega) (by omega) h0 h2).mono ?_
  rintro e w2 ⟨A, c, D, d, C, q, mm, m, cs, l, rfl, hF⟩
  have F := Lib.hid hF
  obtain ⟨k1, k2, k3, k4⟩ : 1 ≤ q ∧ q ≤ 4 ∧ mm ≤ 2 ∧ m ≤ 40 := ⟨hF.q1, hF.q4, hF.m2, hF.m40⟩
  have hb2 : Below w.heap.size w w2 := Hb1.out.trans (hF.below.mono Hb1.out.size)
  have hb3 : Below w2.heap.size w2 (w2.alloc (.cells #[.slice A q c, .int .i64 mm] 25)) := (Below.refl _ _).alloc (Nat.le_refl _) _
  obtain ⟨s1, s2, s3⟩ := set_bd a4 q k1 k2
  have Hb2 := Lib.hid hb2
  have Hb3 := Lib.hid hb3
  clear hF hb2 hb3 N1 N3
  go_wp2_with fail
  refine (set_any A q c mm a4 _ k1 k2 h4).mono ?_
  rintro e w4 ⟨rfl, rfl⟩
  obtain ⟨sa, hsa⟩ : ∃ sa, sa = a4 % 2 ^ q := ⟨_, rfl⟩
  rw [← hsa] at s1 s2 s3 ⊢
  have HSA := Lib.hid hsa
  clear hsa
  have hb4 : Below w2.heap.size w2 ((w2.alloc (.cells #[.slice A q c, .int .i64 mm] 25)).alloc (.cells #[.slice A q c, .int .i64 mm] 25)) := Hb3.out.alloc Hb3.out.size _
  have HB4 := Lib.hid hb4
  clear hb4
  have os : Own 25 ((w2.alloc (.cells #[.slice A q c, .int .i64 mm] 25)).alloc (.cells #[.slice A q c, .int .i64 mm] 25)) w2.heap.size [.slice A q c, .int .i64 mm] := (Below.heap_alloc _ _ _ (by simp)).trans (heap_alloc_new w2 _)
  have OS := Lib.hid os
  clear os
  generalize (w2.alloc (.cells #[.slice A q c, .int .i64 mm] 25)).alloc (.cells #[.slice A q c, .int .i64 mm] 25) = w4 at HB4 OS ⊢
  have hl4 : ∀ r ∈ l, r.key.length = q ∧ r.m.length = mm := F.out.lens
  have HL4 := Lib.hid (fun r hr => (show r.key.length ≤ 4 ∧ r.m.length = mm from ⟨by rw [(hl4 r hr).1]; exact k2, (hl4 r hr).2⟩))
  have hmk := fun W (hW : Below w2.heap.size w2 W) => make_any D m d C sa l W (F.out.rows.below hW (Nat.le_refl _)) F.out.em k4 F.out.small (fun r hr => by have := hl4 r hr; omega) s1 s2
  obtain ⟨L, hL⟩ : ∃ L, L = l.map (ofC sa) := ⟨_, rfl⟩
  have hLm : L.length = m := by rw [hL, List.length_map, F.out.em]
  obtain ⟨dd, hdd⟩ : ∃ dd, dd = dimN sa q := ⟨_, rfl⟩
  have hdd4 : dd ≤ 4 := by rw [hdd]; exact Nat.le_trans (dimN_le sa q) k2
  have hLo : OkL dd mm L := by rw [hL, hdd]; exact ok_cells sa F.out.right hl4 F.out.c16
  rw [← hL] at hmk
  have HMK := Lib.hid hmk
  have HLo := Lib.hid hLo
  have HLm := Lib.hid hLm
  have HLL := Lib.hid hL
  have HFA := Lib.hid (fun (set : Int) (W : World) (hW : Below w2.heap.size w2 W) (e1 : 0 ≤ set) (e2 : set ≤ 15) => rFacts_any D m d C mm set l W (F.out.rows.below hW (Nat.le_refl _)) F.out.em k4 F.out.small HL4.out (by omega) e1 e2)
  have hLi : ∀ x ∈ L, inK .i64 x.cnt := by rw [hL]; exact ofC_cnt sa l
  have hL1 : ∀ x ∈ L, x.cnt = 1 := by rw [hL]; exact ofC_one sa l
  have HL1 := Lib.hid hL1
  have RUN := Lib.hid (fun (P : Option Addr) (c N k : Nat) (W : World) (hK : RowC W P N L) (hN : N = m) => rruns6 P c N k dd mm L W hK (by omega) (by omega) hLo (by omega) (by omega))
  have Hb24 := Lib.hid (Hb2.out.trans (HB4.out.mono Hb2.out.size))
  clear hl4 hL hLm hdd hLo hmk hLi hL1
  go_wp2_with fail
  refine (HMK.out w4 HB4.out).mono ?_
  rintro e w5 ⟨lv, us, rfl, hg, hb5⟩
  obtain ⟨Pl, cl, fl, -, -, -, hPl⟩ := hg.form
  have hul := hg.len
  rw [HLm.out] at hul
  rw [hul] at fl
  subst fl
  have RL := Lib.hid hg.rowC.1
  have HPL := Lib.hid hPl
  have HGL := Lib.hid hg
  have HB5 := Lib.hid (HB4.out.trans (hb5.mono HB4.out.size))
  have Hb5 := Lib.hid (Hb24.out.trans (hb5.mono Hb24.out.size))
  have Hb45 := Lib.hid hb5
  clear hul hg hb5 hPl
  obtain ⟨kk, hkk⟩ : ∃ kk : Nat, (kk : Int) = a5 % 5 := ⟨(a5 % 5).toNat, by omega⟩
  have hkkn : kk < 5 := by omega
  have Hkk := Lib.hid hkk
  clear hkk
  go_wp2_with fail
  refine (HW.out a5 5 w5 h5 (by omega) (by omega)).mono ?_
  rintro e w' ⟨rfl, hw'⟩
  subst hw'
  rw [← Hkk.out]
  obtain ⟨K, hK⟩ : ∃ K, K = kk + 1 := ⟨_, rfl⟩
  have hw1 : IntKind.i64.wrap (1 + (kk : Int)) = (K : Int) := by rw [IntWalk.i64_in _ (by omega), hK]; push_cast; omega
  have hKb : 1 ≤ K ∧ K ≤ 6 := by omega
  clear hK hkkn
  obtain ⟨Js, hJs⟩ : ∃ Js, Js = runsP K [] L := ⟨_, rfl⟩
  obtain ⟨R, hR⟩ : ∃ R, R = Js.length := ⟨_, rfl⟩
  have hRm : R ≤ 40 := by rw [hR, hJs]; have := runs_num (m := K) (by omega) L; have := HLm.out; omega
  have hgr : grpR Js.flatten = grpR L := by rw [hJs]; exact runs_gr
  have hMP : MPk mm Js := by rw [hJs]; exact mpk_runs (by omega) HLo.out (by omega) (by have := HLm.out; omega)
  have hMO : MOk mm Js := by rw [hJs]; exact mok_runs (by omega) HLo.out (by omega) (by have := HLm.out; omega)
  have hMG := fun (P : Option Addr) (c f : Nat) (W : World) (hC : RCc W P R Js) (hc : R ≤ c) (f1 : 2 ≤ f) (f2 : f ≤ 9223372036854775807) => mMerge_any P c R mm f Js W hR (by omega) hc f1 f2 hC hMP (by omega)
  rw [hgr] at hMG
  have MG := Lib.hid hMG
  have hRG := fun (P : Option Addr) (c f : Nat) (W : World) (hC : RC W P R Js) (f1 : 2 ≤ f) (f2 : f ≤ 1000) => rMerge_any P c R f mm Js W hC hR (by omega) f1 f2 hMO (by omega)
  rw [hgr] at hRG
  have RMG := Lib.hid hRG
  obtain ⟨NG, hNG⟩ : ∃ NG, NG = (grpR L).length := ⟨_, rfl⟩
  have hNm : NG ≤ 40 := by have := grp_le L; have := HLm.out; omega
  have HNG := Lib.hid hNG
  have HJs := Lib.hid hJs
  have HR := Lib.hid hR
  have hfew : FewC (grpR L) := (grp_okL HLo.out).few (by omega) (by omega)
  have HFEW := Lib.hid hfew
  clear hJs hR hgr hMP hMO hMG hRG hNG hfew
  have hcn : cnts (grpR L) = (m : Int) ∧ PosC (grpR L) := by
    have hP : PosC L := fun x hx => by have := HL1.out x hx; omega
    have hLc : cnts L = (m : Int) := by rw [cnts_one HL1.out, HLm.out]
    obtain ⟨a1, a2⟩ := grp_cnts L [] (fun x hx => absurd hx List.not_mem_nil) hP (by rw [hLc]; simp only [cnts, List.map_nil, List.sum_nil]; omega)
    exact ⟨by show cnts (L.foldl putC []) = _; rw [a2, hLc]; simp [cnts], a1⟩
  have HCN := Lib.hid hcn
  clear hcn
  have B0 := Lib.hid (Below.refl w5.heap.size w5)
  go_wp2_with fail
  have hr := RUN.out Pl cl m K w5 (RL.out.keep (Keeps.of_below B0.out)) rfl
  rw [← HJs.out, ← HR.out] at hr
  refine hr.mono ?_
  clear hr
  rintro e x1 ⟨P1, c1, rfl, hC1, hN1, b1⟩
  have HC1 := Lib.hid hC1
  have B1 := Lib.hid (B0.out.trans (b1.mono B0.out.size))
  clear hC1 b1
  obtain ⟨kf, hkf⟩ : ∃ kf : Nat, (kf : Int) = a6 % 5 := ⟨(a6 % 5).toNat, by omega⟩
  have hkfn : kf < 5 := by omega
  have Hkf := Lib.hid hkf
  clear hkf
  go_wp2_with fail
  refine (HW.out a6 5 x1 h6 (by omega) (by omega)).mono ?_
  rintro e w' ⟨rfl, hw'⟩
  subst hw'
  rw [← Hkf.out]
  obtain ⟨F, hF⟩ : ∃ F, F = kf + 2 := ⟨_, rfl⟩
  have hw2 : IntKind.i64.wrap (2 + (kf : Int)) = (F : Int) := by rw [IntWalk.i64_in _ (by omega), hF]; push_cast; omega
  have hFb : 2 ≤ F ∧ F ≤ 7 := by omega
  clear hF hkfn
  go_wp2_with fail
  have hm := MG.out P1 c1 F x1 HC1.out.rcc (by omega) (by omega) (by omega)
  refine hm.mono ?_
  clear hm
  rintro e x2 ⟨⟨v2, u2, rfl, g2⟩, b2⟩
  obtain ⟨P2, c2, f2, n2, -⟩ := g2.form
  have l2 : u2.length = NG := by rw [g2.len, HNG.out]
  rw [l2] at f2 n2
  subst f2
  have R2 := Lib.hid g2.rowC.1
  have B2 := Lib.hid (B1.out.trans (b2.mono B1.out.size))
  clear g2 b2 l2
  have HRS := Lib.hid (fun (W : World) (hW : Below x2.heap.size x2 W) => rSorted_any P2 c2 NG (grpR L) W (R2.out.keep (Keeps.of_below hW)) HNG.out (fun y hy => by have := (grp_okL HLo.out y hy).1; omega) (by omega))
  have hrn : riseB (grpR L) = true := rise_prs (grpR_rise L)
  obtain ⟨G, hG⟩ : ∃ G, G = grpR L := ⟨_, rfl⟩
  rw [← hG] at R2 HNG HCN HRS hrn
  clear hG
  have Hrn := Lib.hid hrn
  clear hrn
  go_wp2_with fail
  go_loopw [19, 20] (fun s19 s20 wr => ∃ (i : Nat), s19 = .int .i64 (cnts (G.take i)) ∧ s20 = .int .i64 i ∧ i ≤ NG ∧ Below x2.heap.size x2 wr) (fun _ s20 _ => NG - (intOf s20).toNat)
  case atStart => exact ⟨0, rfl, rfl, Nat.zero_le _, Below.refl _ _⟩
  case round =>
    obtain ⟨i, rfl, rfl, hi, hb⟩ := hrel
    rename World => wr
    obtain ⟨n0, hn0⟩ : ∃ n0, n0 = cnts (G.take i) := ⟨_, rfl⟩
    rw [← hn0]
    have Hn0 := Lib.hid hn0
    have Hbr := Lib.hid hb
    clear hn0 hb
    by_cases hlt : i < NG
    · have d1 : decide ((i : Int) < (NG : Int)) = true := decide_eq_true (by omega)
      obtain ⟨x, hx⟩ : ∃ x, G[i]? = some x := ⟨_, List.getElem?_eq_getElem (by rw [← HNG.out]; exact hlt)⟩
      obtain ⟨bd, rfl, hcl⟩ := R2.out.keep (Keeps.of_below Hbr.out) (by omega)
      obtain ⟨vk, vs, vn, vm, -, b1, -, -, -, -, -⟩ := hcl i x hx
      have hsn : cnts (G.take (i + 1)) = cnts (G.take i) + x.cnt := by rw [List.take_add_one, hx, Option.toList_some, cnts_app]; simp [cnts]
      have h1 := cnts_take G (i + 1) HCN.out.2
      have h2 := HCN.out.2 x (List.mem_of_getElem? hx)
      have h3 := cnts_take G i HCN.out.2
      have h4 := HCN.out.1
      obtain ⟨xc, hxc⟩ : ∃ xc, xc = x.cnt := ⟨_, rfl⟩
      rw [← hxc] at b1 hsn h2
      have hvv : n0 + xc = cnts (G.take (i + 1)) := by rw [hsn, ← Hn0.out]
      have hwn : IntKind.i64.wrap (n0 + xc) = n0 + xc := IntWalk.i64_in _ (by have := Hn0.out; omega)
      have HVV := Lib.hid hvv
      have i0 : (0 : Int) ≤ (i : Int) := by omega
      have i1 : (i : Int) < (NG : Int) := by omega
      clear hcl hx hsn h1 h2 h3 h4 hvv hxc
      go_wp2
      go_roundw
      case rel => exact ⟨i + 1, by rw [← HVV.out], by go_num, by omega, Hbr.out⟩
      case measure => simp [intOf]; omega
    · obtain rfl : i = NG := by omega
      have d1 : decide ((i : Int) < (i : Int)) = false := by simp
      have hnn : n0 = (m : Int) := by rw [Hn0.out, HNG.out, List.take_length, HCN.out.1]
      subst hnn
      have d2 : ((m : Int) == (m : Int)) = true := by simp
      go_wp2_with fail
      have hrs := HRS.out wr Hbr.out
      rw [Hrn.out] at hrs
      refine hrs.mono ?_
      clear hrs
      rintro e x4 ⟨rfl, b4⟩
      have B4 := Lib.hid ((B2.out.trans (Hbr.out.mono B2.out.size)).trans (b4.mono (B2.out.trans (Hbr.out.mono B2.out.size)).size))
      clear b4
      have HEnd := Lib.hid (Hb5.out.trans (B4.out.mono Hb5.out.size))
      go_wp2
      go_ret
      exact ⟨rfl, HEnd.out⟩
end Go.Proofs.Ytmolfcccfekcpaa
