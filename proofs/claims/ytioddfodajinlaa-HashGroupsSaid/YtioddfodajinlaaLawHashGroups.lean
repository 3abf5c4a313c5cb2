/- The law HashGroups. -/
import Derived.IntWalk
import Derived.Test.YtioddfodajinlaaHsho
import Derived.Test.YtioddfodajinlaaMake
import Derived.Test.YtioddfodajinlaaSet
import Derived.Test.YtioddfodajinlaaIsRow
import Derived.Test.YtioddfodajinlaaHshw
import Derived.Test.YtioddfodajinlaaRfacts
import Derived.Test.YtioddfodajinlaaCelg
namespace Go.Proofs.Ytioddfodajinlaa
open Go.RowKit
attribute [local go_sem] Oper.semAt_some
theorem tdiv_in20 {y : Int} (h : inK .i64 y) : inK .i64 (y.tdiv 20) := by
  have h1 := Int.natAbs_tdiv y 20
  have h2 : y.natAbs / 20 ≤ y.natAbs := Nat.div_le_self _ _
  obtain ⟨a, b⟩ := h
  have h3 : (y.tdiv 20).natAbs ≤ y.natAbs / 20 := by rw [h1]; exact Nat.le_refl _
  exact ⟨by omega, by omega⟩
set_option maxRecDepth 100000 in
set_option maxHeartbeats 8000000 in
theorem hashGroups_walk (a0 : Int) (a1 : Option Addr) (len1 cap1 : Nat) (z1 : List Int) (a2 : Int) (a3 : Option Addr) (len3 cap3 : Nat) (z3 : List Int) (a4 : Int) (a5 : Int) (w : World) (h0 : inK .i64 a0) (w1 : IsRow .i64 w a1 len1 cap1 z1) (h2 : inK .i64 a2) (w3 : IsRow .i64 w a3 len3 cap3 z3) (h4 : inK .i64 a4) (h5 : inK .i64 a5) :
    Calls Try.prog 4 #[.int .i64 a0, .slice a1 len1 cap1, .int .i64 a2, .slice a3 len3 cap3, .int .i64 a4, .int .i64 a5] w fun e w' => e = .returned (.bool true) ∧ Below w.heap.size w w' := by
  obtain ⟨n1, lc1, cm1⟩ := w1.nums
  obtain ⟨n3, lc3, cm3⟩ := w3.nums
  have N1 := Lib.hid n1
  have N3 := Lib.hid n3
  have HKn := Lib.hid (hknown_any w)
  clear w1 w3 n1 n3
  go_enter Try.func4, Try.ntmps4
  go_wp2_with fail
  refine HKn.out.mono ?_
  rintro e w1 ⟨rfl, hb1⟩
  have Hb1 := Lib.hid hb1
  clear hb1 HKn
  go_wp2_with fail
  refine (Facts_res a0 a2 a1 a3 len1 cap1 len3 cap3 _ _ w1 (N1.out.keep (Keeps.of_below Hb1.out)) (N3.out.keep (Keeps.of_below Hb1.out)) (by omega) (by omega) h0 h2).mono ?_
  rintro e w2 ⟨A, c, D, d, C, q, mm, m, cs, l, rfl, hF⟩
  have F := Lib.hid hF
  obtain ⟨k1, k2, k3, k4⟩ : 1 ≤ q ∧ q ≤ 4 ∧ mm ≤ 2 ∧ m ≤ 40 := ⟨hF.q1, hF.q4, hF.m2, hF.m40⟩
  have hb2 : Below w.heap.size w w2 := Hb1.out.trans (hF.below.mono Hb1.out.size)
  have hb3 : Below w2.heap.size w2 (w2.alloc (.cells #[.slice A q c, .int .i64 mm] 25)) := (Below.refl _ _).alloc (Nat.le_refl _) _
  obtain ⟨s1, s2, s3⟩ := set_bd a4 q k1 k2
  have Hb2 := Lib.hid hb2
  have Hb3 := Lib.hid hb3
  clear hF hb2 hb3 N1 N3
  go_wp2_with fail
  refine (set_any A q c mm a4 _ k1 k2 h4).mono ?_
  rintro e w4 ⟨rfl, rfl⟩
  obtain ⟨sa, hsa⟩ : ∃ sa, sa = a4 % 2 ^ q := ⟨_, rfl⟩
  rw [← hsa] at s1 s2 s3 ⊢
  clear hsa
  have hb4 : Below w2.heap.size w2 ((w2.alloc (.cells #[.slice A q c, .int .i64 mm] 25)).alloc (.cells #[.slice A q c, .int .i64 mm] 25)) := Hb3.out.alloc Hb3.out.size _
  have HB4 := Lib.hid hb4
  clear hb4
  generalize (w2.alloc (.cells #[.slice A q c, .int .i64 mm] 25)).alloc (.cells #[.slice A q c, .int .i64 mm] 25) = w4 at HB4 ⊢
  have hl4 : ∀ r ∈ l, r.key.length = q ∧ r.m.length = mm := F.out.lens
  have HL4 := Lib.hid (fun r hr => (show r.key.length ≤ 4 ∧ r.m.length = mm from ⟨by rw [(hl4 r hr).1]; exact k2, (hl4 r hr).2⟩))
  have hmk := fun W (hW : Below w2.heap.size w2 W) => make_any D m d C sa l W (F.out.rows.below hW (Nat.le_refl _)) F.out.em k4 F.out.small (fun r hr => by have := hl4 r hr; omega) s1 s2
  obtain ⟨L, hL⟩ : ∃ L, L = l.map (ofC sa) := ⟨_, rfl⟩
  have hLm : L.length = m := by rw [hL, List.length_map, F.out.em]
  obtain ⟨dd, hdd⟩ : ∃ dd, dd = dimN sa q := ⟨_, rfl⟩
  have hdd4 : dd ≤ 4 := by rw [hdd]; exact Nat.le_trans (dimN_le sa q) k2
  have hLo : OkL dd mm L := by rw [hL, hdd]; exact ok_cells sa F.out.right hl4 F.out.c16
  rw [← hL] at hmk
  have HMK := Lib.hid hmk
  have HLo := Lib.hid hLo
  have HLm := Lib.hid hLm
  have HLL := Lib.hid hL
  have HFA := Lib.hid (fun (set : Int) (W : World) (hW : Below w2.heap.size w2 W) (e1 : 0 ≤ set) (e2 : set ≤ 15) => rFacts_any D m d C mm set l W (F.out.rows.below hW (Nat.le_refl _)) F.out.em k4 F.out.small HL4.out (by omega) e1 e2)
  have GRP := Lib.hid (fun (P : Option Addr) (c N slots : Nat) (K : List Cel) (W : World) (hK : RowC W P N K) (hN : N = K.length) (hP : P = none → c = 0) (he : OkL dd mm K) (hn : N ≤ 60) (g1 : 1 ≤ slots) (g2 : slots ≤ 10000) => hGroup_any P c N slots dd mm K W hK hN hP he (by omega) (by omega) hn g1 g2)
  have Hb24 := Lib.hid (Hb2.out.trans (HB4.out.mono Hb2.out.size))
  clear hl4 hL hLm hdd hLo hmk
  go_wp2_with fail
  refine (HMK.out w4 HB4.out).mono ?_
  rintro e w5 ⟨lv, us, rfl, hg, hb5⟩
  obtain ⟨Pl, cl, fl, -, -, -, hPl⟩ := hg.form
  have hul := hg.len
  rw [HLm.out] at hul
  rw [hul] at fl
  subst fl
  have RL := Lib.hid hg.rowC.1
  have HPL := Lib.hid hPl
  have HGL := Lib.hid hg
  have HB5 := Lib.hid (HB4.out.trans (hb5.mono HB4.out.size))
  have Hb5 := Lib.hid (Hb24.out.trans (hb5.mono Hb24.out.size))
  have Hb45 := Lib.hid hb5
  clear hul hg hb5 hPl
  obtain ⟨nn, hnn⟩ : ∃ nn : Nat, (nn : Int) = a5 % 20 := ⟨(a5 % 20).toNat, by omega⟩
  have hn20 : nn < 20 := by omega
  obtain ⟨N, hN⟩ : ∃ N, N = nn + 1 := ⟨_, rfl⟩
  have hNw : IntKind.i64.wrap (1 + (nn : Int)) = (N : Int) := by rw [IntWalk.i64_in _ (by omega), hN]; push_cast; omega
  have hN2 : 1 ≤ N ∧ N ≤ 20 := by omega
  have HNN := Lib.hid hnn
  obtain ⟨zd, hzd⟩ : ∃ zd, zd = a5.tdiv 20 := ⟨_, rfl⟩
  have hzk : inK .i64 zd := by rw [hzd]; exact tdiv_in20 h5
  have hzw : wrap64 (a5.tdiv 20) = zd := by
    rw [← hzd]
    exact IntWalk.wrap64_in _ (by obtain ⟨a, b⟩ := hzk; omega)
  obtain ⟨n3, hn3⟩ : ∃ nn : Nat, (nn : Int) = zd % 300 := ⟨(zd % 300).toNat, by omega⟩
  have hn300 : n3 < 300 := by omega
  obtain ⟨N3, hN3⟩ : ∃ N, N = n3 + 1 := ⟨_, rfl⟩
  have hNw3 : IntKind.i64.wrap (1 + (n3 : Int)) = (N3 : Int) := by rw [IntWalk.i64_in _ (by omega), hN3]; push_cast; omega
  have hN32 : 1 ≤ N3 ∧ N3 ≤ 300 := by omega
  have HN3 := Lib.hid hn3
  have HZW := Lib.hid hzw
  have HZK := Lib.hid hzk
  have hFt : Fit dd 0 L := ⟨fun c hc => (HLo.out c hc).1, fun c hc v hv => by
    have h1 := (HLo.out c hc).2.1
    unfold okK at h1
    rw [List.all_eq_true] at h1
    exact of_decide_eq_true (h1 v hv), fun c _ c' _ => by simp⟩
  obtain ⟨G, hG⟩ : ∃ z, z = grpR L := ⟨_, rfl⟩
  have hGn : G.length ≤ 40 := by rw [hG]; exact Nat.le_trans (grp_len_le L) (by rw [HLm.out]; exact k4)
  have hGF : FewC G := by rw [hG]; exact (grp_okL HLo.out).few (by omega) (by omega)
  have HFt := Lib.hid hFt
  have HGn := Lib.hid hGn
  have HGF := Lib.hid hGF
  have HGG := Lib.hid hG
  have HSM := Lib.hid (fun (A B : Option Addr) (n n' c d : Nat) (W : World) (h1 : RowC W A n G) (e1 : n = G.length) (h2 : RowC W B n' G) (e2 : n' = G.length) => (show Calls Try.prog 20 #[.slice A n c, .slice B n' d] W fun e w' => e = .returned (.bool true) ∧ Below W.heap.size W w' from by
    obtain rfl : n = n' := by omega
    exact same_yes A B n c d G W h1 h2 e1 hGF (by omega)))
  have HFC := Lib.hid (fun (W : World) (hW : Below w2.heap.size w2 W) => HFA.out sa W hW s1 s2)
  rw [← HLL.out, ← hG] at HFC
  have HP1 := Lib.hid (fun (W : World) (hW : Below w5.heap.size w5 W) (k : Nat) (g1 : 1 ≤ k) (g2 : k ≤ 10000) => GRP.out Pl cl m k L W (RL.out.keep (Keeps.of_below hW)) HLm.out.symm HPL.out HLo.out (by omega) g1 g2)
  have HP2 := Lib.hid (fun (W : World) (hW : Below w5.heap.size w5 W) => rtGroup_any Pl cl m N dd mm L W (RL.out.keep (Keeps.of_below hW)) HLm.out.symm (by omega) hFt HLo.out hdd4 k3 (by omega) (by omega))
  rw [← hG] at HP1 HP2
  obtain ⟨np, hnp⟩ : ∃ z, z = (partsP N dd 0 L).length := ⟨_, rfl⟩
  rw [← hnp] at HP2
  have hnq : ((np : Int) == (np : Int)) = true := by simp
  clear hnn hN hn20 hzk hzd hzw hn3 hn300 hN3 hFt hG hGn hGF HMK HFA GRP
  go_wp2_with fail
  refine (lwithin7 a5 20 w5 h5 (by omega) (by omega)).mono ?_
  rintro e w' ⟨rfl, hw'⟩
  rw [← hw']
  clear hw'
  clear w'
  rw [← HNN.out]
  go_wp2_with fail
  refine (HP1.out w5 (Below.refl _ _) N (by omega) (by omega)).mono ?_
  rintro e w6 ⟨v6, us6, rfl, hg6, hb6⟩
  rw [← hnp]
  obtain ⟨P6, c6, e6, -⟩ := hg6.form
  subst e6
  have R6 := Lib.hid (hg6.rowC)
  have Hb6 := Lib.hid hb6
  obtain ⟨u6, hu6⟩ : ∃ z, z = us6.length := ⟨_, rfl⟩
  rw [← hu6] at R6 ⊢
  clear hg6 hb6 hu6 hnp
  go_wp2_with fail
  refine (HP2.out w6 Hb6.out).mono ?_
  rintro e w7 ⟨v7, us7, rfl, hg7, hb7⟩
  obtain ⟨P7, c7, e7, -⟩ := hg7.form
  subst e7
  have R7 := Lib.hid (hg7.rowC)
  have Hb7 := Lib.hid (Hb6.out.trans (hb7.mono Hb6.out.size))
  have K67 := Lib.hid (Keeps.of_below hb7)
  obtain ⟨u7, hu7⟩ : ∃ z, z = us7.length := ⟨_, rfl⟩
  rw [← hu7] at R7 ⊢
  clear hg7 hb7 hu7 HP2
  go_wp2_with fail
  rw [HZW.out]
  refine (lwithin7 zd 300 w7 HZK.out (by omega) (by omega)).mono ?_
  rintro e w' ⟨rfl, hw'⟩
  rw [← hw']
  clear hw'
  clear w'
  rw [← HN3.out]
  go_wp2_with fail
  refine (HP1.out w7 Hb7.out N3 (by omega) (by omega)).mono ?_
  rintro e w8 ⟨v8, us8, rfl, hg8, hb8⟩
  obtain ⟨P8, c8, e8, -⟩ := hg8.form
  subst e8
  have R8 := Lib.hid (hg8.rowC)
  have Hb8 := Lib.hid (Hb7.out.trans (hb8.mono Hb7.out.size))
  have K78 := Lib.hid (Keeps.of_below hb8)
  obtain ⟨u8, hu8⟩ : ∃ z, z = us8.length := ⟨_, rfl⟩
  rw [← hu8] at R8 ⊢
  generalize (partsP N3 dd 0 L).length = np3
  clear hg8 hb8 hu8 HP1
  have K68 := Lib.hid (K67.out.trans K78.out)
  go_wp2_with fail
  refine (HSM.out P6 P7 u6 u7 c6 c7 w8 (R6.out.1.keep K68.out) R6.out.2 (R7.out.1.keep K78.out) R7.out.2).mono ?_
  rintro e w9 ⟨rfl, hb9⟩
  have K89 := Lib.hid (Keeps.of_below hb9)
  have Hb9 := Lib.hid (Hb8.out.trans (hb9.mono Hb8.out.size))
  clear hb9
  go_wp2_with fail
  refine (HFC.out w9 (HB5.out.trans (Hb9.out.mono HB5.out.size))).mono ?_
  rintro e wA ⟨vA, usA, rfl, hgA, hbA⟩
  obtain ⟨PA, cA, eA, -⟩ := hgA.form
  subst eA
  have RA := Lib.hid (hgA.rowC)
  have KA := Lib.hid (K89.out.trans (Keeps.of_below hbA))
  have HbA := Lib.hid (Hb9.out.trans (hbA.mono Hb9.out.size))
  obtain ⟨uA, huA⟩ : ∃ z, z = usA.length := ⟨_, rfl⟩
  rw [← huA] at RA ⊢
  clear hgA hbA huA HFC
  go_wp2_with fail
  refine (HSM.out P6 PA u6 uA c6 cA wA (R6.out.1.keep (K68.out.trans KA.out)) R6.out.2 RA.out.1 RA.out.2).mono ?_
  rintro e wB ⟨rfl, hbB⟩
  have KB := Lib.hid (KA.out.trans (Keeps.of_below hbB))
  have HbB := Lib.hid (HbA.out.trans (hbB.mono HbA.out.size))
  clear hbB
  go_wp2_with fail
  refine (HSM.out P8 P6 u8 u6 c8 c6 wB (R8.out.1.keep KB.out) R8.out.2 (R6.out.1.keep (K68.out.trans KB.out)) R6.out.2).mono ?_
  rintro e wC ⟨rfl, hbC⟩
  have HbC := Lib.hid (HbB.out.trans (hbC.mono HbB.out.size))
  clear hbC
  go_wp2
  go_ret
  exact ⟨rfl, Hb5.out.trans (HbC.out.mono Hb5.out.size)⟩
end Go.Proofs.Ytioddfodajinlaa
