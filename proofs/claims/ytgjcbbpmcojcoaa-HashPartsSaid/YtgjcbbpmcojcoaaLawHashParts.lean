/- The law HashParts. -/
import Derived.IntWalk
import Derived.Test.YtgjcbbpmcojcoaaHsho
import Derived.Test.YtgjcbbpmcojcoaaMake
import Derived.Test.YtgjcbbpmcojcoaaSet
import Derived.Test.YtgjcbbpmcojcoaaIsRow
import Derived.Test.YtgjcbbpmcojcoaaRfacts
namespace Go.Proofs.Ytgjcbbpmcojcoaa
open Go.RowKit
attribute [local go_sem] Oper.semAt_some
set_option maxRecDepth 100000 in
set_option maxHeartbeats 8000000 in
theorem hashParts_walk (a0 : Int) (a1 : Option Addr) (len1 cap1 : Nat) (z1 : List Int) (a2 : Int) (a3 : Option Addr) (len3 cap3 : Nat) (z3 : List Int) (a4 : Int) (a5 : Int) (w : World) (h0 : inK .i64 a0) (w1 : IsRow .i64 w a1 len1 cap1 z1) (h2 : inK .i64 a2) (w3 : IsRow .i64 w a3 len3 cap3 z3) (h4 : inK .i64 a4) (h5 : inK .i64 a5) :
    Calls Try.prog 6 #[.int .i64 a0, .slice a1 len1 cap1, .int .i64 a2, .slice a3 len3 cap3, .int .i64 a4, .int .i64 a5] w fun e w' => e = .returned (.bool true) ∧ Below w.heap.size w w' := by
  obtain ⟨n1, lc1, cm1⟩ := w1.nums
  obtain ⟨n3, lc3, cm3⟩ := w3.nums
  have HW := Lib.hid (fun (x n : Int) (W : World) (h : inK .i64 x) (e1 : 1 ≤ n) (e2 : n ≤ 100) => lwithin7 x n W h e1 (by omega))
  have N1 := Lib.hid n1
  have N3 := Lib.hid n3
  have HKn := Lib.hid (hknown_any w)
  clear w1 w3 n1 n3
  go_enter Try.func6, Try.ntmps6
  go_wp2_with fail
  refine HKn.out.mono ?_
  rintro e w1 ⟨rfl, hb1⟩
  have Hb1 := Lib.hid hb1
  clear hb1 HKn
  go_wp2_with fail
  refine (Facts_res a0 a2 a1 a3 len1 cap1 len3 cap3 _ _ w1 (N1.out.keep (Keeps.of_below Hb1.out)) (N3.out.keep (Keeps.of_below Hb1.out)) (by omega) (by omega) h0 h2).mono ?_
  rintro e w2 ⟨A, c, D, d, C, q, mm, m, cs, l, rfl, hF⟩
  have F := Lib.hid hF
  obtain ⟨k1, k2, k3, k4⟩ : 1 ≤ q ∧ q ≤ 4 ∧ mm ≤ 2 ∧ m ≤ 40 := ⟨hF.q1, hF.q4, hF.m2, hF.m40⟩
  have hb2 : Below w.heap.size w w2 := Hb1.out.trans (hF.below.mono Hb1.out.size)
  have hb3 : Below w2.heap.size w2 (w2.alloc (.cells #[.slice A q c, .int .i64 mm] 25)) := (Below.refl _ _).alloc (Nat.le_refl _) _
  obtain ⟨s1, s2, s3⟩ := set_bd a4 q k1 k2
  have Hb2 := Lib.hid hb2
  have Hb3 := Lib.hid hb3
  clear hF hb2 hb3 N1 N3
  go_wp2_with fail
  refine (set_any A q c mm a4 _ k1 k2 h4).mono ?_
  rintro e w4 ⟨rfl, rfl⟩
  obtain ⟨sa, hsa⟩ : ∃ sa, sa = a4 % 2 ^ q := ⟨_, rfl⟩
  rw [← hsa] at s1 s2 s3 ⊢
  clear hsa
  have hb4 : Below w2.heap.size w2 ((w2.alloc (.cells #[.slice A q c, .int .i64 mm] 25)).alloc (.cells #[.slice A q c, .int .i64 mm] 25)) := Hb3.out.alloc Hb3.out.size _
  have HB4 := Lib.hid hb4
  clear hb4
  generalize (w2.alloc (.cells #[.slice A q c, .int .i64 mm] 25)).alloc (.cells #[.slice A q c, .int .i64 mm] 25) = w4 at HB4 ⊢
  have hl4 : ∀ r ∈ l, r.key.length = q ∧ r.m.length = mm := F.out.lens
  have HL4 := Lib.hid (fun r hr => (show r.key.length ≤ 4 ∧ r.m.length = mm from ⟨by rw [(hl4 r hr).1]; exact k2, (hl4 r hr).2⟩))
  have hmk := fun W (hW : Below w2.heap.size w2 W) => make_any D m d C sa l W (F.out.rows.below hW (Nat.le_refl _)) F.out.em k4 F.out.small (fun r hr => by have := hl4 r hr; omega) s1 s2
  obtain ⟨L, hL⟩ : ∃ L, L = l.map (ofC sa) := ⟨_, rfl⟩
  have hLm : L.length = m := by rw [hL, List.length_map, F.out.em]
  obtain ⟨dd, hdd⟩ : ∃ dd, dd = dimN sa q := ⟨_, rfl⟩
  have hdd4 : dd ≤ 4 := by rw [hdd]; exact Nat.le_trans (dimN_le sa q) k2
  have hLo : OkL dd mm L := by rw [hL, hdd]; exact ok_cells sa F.out.right hl4 F.out.c16
  rw [← hL] at hmk
  have HMK := Lib.hid hmk
  have HLo := Lib.hid hLo
  have HLm := Lib.hid hLm
  have HLL := Lib.hid hL
  have HFA := Lib.hid (fun (set : Int) (W : World) (hW : Below w2.heap.size w2 W) (e1 : 0 ≤ set) (e2 : set ≤ 15) => rFacts_any D m d C mm set l W (F.out.rows.below hW (Nat.le_refl _)) F.out.em k4 F.out.small HL4.out (by omega) e1 e2)
  have GRP := Lib.hid (fun (P : Option Addr) (c N slots : Nat) (K : List Cel) (W : World) (hK : RowC W P N K) (hN : N = K.length) (hP : P = none → c = 0) (he : OkL dd mm K) (hn : N ≤ 60) (g1 : 1 ≤ slots) (g2 : slots ≤ 10000) => hGroup_any P c N slots dd mm K W hK hN hP he (by omega) (by omega) hn g1 g2)
  have Hb24 := Lib.hid (Hb2.out.trans (HB4.out.mono Hb2.out.size))
  clear hl4 hL hLm hdd hLo hmk
  go_wp2_with fail
  refine (HMK.out w4 HB4.out).mono ?_
  rintro e w5 ⟨lv, us, rfl, hg, hb5⟩
  obtain ⟨Pl, cl, fl, -, -, -, hPl⟩ := hg.form
  have hul := hg.len
  rw [HLm.out] at hul
  rw [hul] at fl
  subst fl
  have RL := Lib.hid hg.rowC.1
  have HPL := Lib.hid hPl
  have HGL := Lib.hid hg
  have HB5 := Lib.hid (HB4.out.trans (hb5.mono HB4.out.size))
  have Hb5 := Lib.hid (Hb24.out.trans (hb5.mono Hb24.out.size))
  have Hb45 := Lib.hid hb5
  clear hul hg hb5 hPl
  obtain ⟨NG, hNG⟩ : ∃ NG, NG = (grpR L).length := ⟨_, rfl⟩
  have hNm : NG ≤ 40 := by have := grp_len_le L; have := HLm.out; omega
  have HNG := Lib.hid hNG
  obtain ⟨kk, hkk⟩ : ∃ kk : Nat, (kk : Int) = a5 % 30 := ⟨(a5 % 30).toNat, by omega⟩
  have hk30 : kk < 30 := by omega
  have HKK := Lib.hid hkk
  have hfit : Fit dd 0 L := fit_of fun x hx => ⟨(HLo.out x hx).1, (HLo.out x hx).2.1⟩
  obtain ⟨M, hM⟩ : ∃ M, M = max 1 NG := ⟨_, rfl⟩
  have hM1 : 1 ≤ M := by omega
  have hM2 : M ≤ 40 := by omega
  have hp1 : (partsP M dd 0 L).length = 1 := by rw [parts_fit (by rw [← hNG, hM]; exact Nat.le_max_right _ _)]; rfl
  have hp2 : (partsP 1 dd 0 L).length = M := by
    by_cases hne : L = []
    · rw [hM, hNG, hne, parts_fit (by show (0 : Nat) ≤ 1; omega)]; rfl
    · rw [parts_slot (Nat.zero_add dd) hfit hne, ← hNG, hM]
      have := grp_pos hne
      omega
  have hp3 : (partsP (kk + 1 + 1) dd 0 L).length ≤ (partsP (kk + 1) dd 0 L).length := parts_mono (by omega) dd 0 L (Nat.zero_add dd) hfit
  have hp4 : (partsP (kk + 1) dd 0 L).length = 1 ↔ NG ≤ kk + 1 := by rw [hNG]; exact parts_one (by omega) (Nat.zero_add dd) hfit
  obtain ⟨U, hU⟩ : ∃ U, U = (partsP (kk + 1) dd 0 L).length := ⟨_, rfl⟩
  obtain ⟨V, hV⟩ : ∃ V, V = (partsP (kk + 1 + 1) dd 0 L).length := ⟨_, rfl⟩
  rw [← hU] at hp3 hp4
  rw [← hV] at hp3
  obtain ⟨K1, hK1⟩ : ∃ K1, K1 = kk + 1 := ⟨_, rfl⟩
  obtain ⟨K2, hK2⟩ : ∃ K2, K2 = kk + 1 + 1 := ⟨_, rfl⟩
  rw [← hK2] at hV
  rw [← hK1] at hU hp4
  have hmx : max (1 : Int) (NG : Int) = (M : Int) := by omega
  have hw1 : IntKind.i64.wrap (1 + (kk : Int)) = (K1 : Int) := by rw [IntWalk.i64_in _ (by omega), hK1]; push_cast; omega
  have hw2 : IntKind.i64.wrap ((K1 : Int) + 1) = (K2 : Int) := by rw [IntWalk.i64_in _ (by omega), hK1, hK2]; push_cast; rfl
  have hKb : K1 ≤ 40 ∧ K2 ≤ 40 ∧ 1 ≤ K1 ∧ 1 ≤ K2 := by omega
  have dvu : decide ((V : Int) ≤ (U : Int)) = true := decide_eq_true (by omega)
  have dvu2 : decide (V ≤ U) = true := decide_eq_true hp3
  have dmm : ((M : Int) == (M : Int)) = true := by simp
  have HP1 := Lib.hid hp1
  have HP2 := Lib.hid hp2
  have HU := Lib.hid hU
  have HV := Lib.hid hV
  have HM := Lib.hid hM
  have Hp4 := Lib.hid hp4
  clear hNG hkk hfit hM hp1 hp2 hp4 hU hV hK1 hK2 hp3 hk30
  go_wp2_with fail
  refine (HFA.out sa w5 HB5.out s1 s2).mono ?_
  rintro e w6 ⟨vf, uf, rfl, gf, bf⟩
  rw [← HLL.out] at gf
  obtain ⟨Pf, cf, ff, -⟩ := gf.form
  have lf : uf.length = NG := by rw [gf.len, HNG.out]
  rw [lf] at ff
  subst ff
  have B56 := Lib.hid bf
  clear gf bf lf
  go_wp2_with fail
  have hg1 := GRP.out Pl cl m M L w6 (RL.out.keep (Keeps.of_below B56.out)) HLm.out.symm HPL.out HLo.out (by omega) hM1 (by omega)
  rw [HP1.out] at hg1
  refine hg1.mono ?_
  clear hg1
  rintro e w7 ⟨v1, u1, rfl, g1, b1⟩
  obtain ⟨P1, c1, f1, -⟩ := g1.form
  have l1 : u1.length = NG := by rw [g1.len, HNG.out]
  rw [l1] at f1
  subst f1
  have R1 := Lib.hid g1.rowC.1
  have B1 := Lib.hid (B56.out.trans (b1.mono B56.out.size))
  clear g1 b1 l1
  go_wp2_with fail
  have hg2 := GRP.out Pl cl m 1 L w7 (RL.out.keep (Keeps.of_below B1.out)) HLm.out.symm HPL.out HLo.out (by omega) (by omega) (by omega)
  rw [HP2.out] at hg2
  refine hg2.mono ?_
  clear hg2
  rintro e w8 ⟨v2, u2, rfl, g2, b2⟩
  obtain ⟨P2, c2, f2, -⟩ := g2.form
  have l2 : u2.length = NG := by rw [g2.len, HNG.out]
  rw [l2] at f2
  subst f2
  have R2 := Lib.hid g2.rowC.1
  have B2 := Lib.hid (B1.out.trans (b2.mono B1.out.size))
  clear g2 b2 l2
  go_wp2_with fail
  refine (HW.out a5 30 w8 h5 (by omega) (by omega)).mono ?_
  rintro e w' ⟨rfl, rfl⟩
  rename World => w8
  rw [← HKK.out]
  go_wp2_with fail
  have hg3 := GRP.out Pl cl m K1 L w8 (RL.out.keep (Keeps.of_below B2.out)) HLm.out.symm HPL.out HLo.out (by omega) hKb.2.2.1 (by omega)
  rw [← HU.out] at hg3
  refine hg3.mono ?_
  clear hg3
  rintro e w9 ⟨v3, u3, rfl, g3, b3⟩
  obtain ⟨P3, c3, f3, -⟩ := g3.form
  have l3 : u3.length = NG := by rw [g3.len, HNG.out]
  rw [l3] at f3
  subst f3
  have R3 := Lib.hid g3.rowC.1
  have B3 := Lib.hid (B2.out.trans (b3.mono B2.out.size))
  clear g3 b3 l3
  go_wp2_with fail
  have hg4 := GRP.out Pl cl m K2 L w9 (RL.out.keep (Keeps.of_below B3.out)) HLm.out.symm HPL.out HLo.out (by omega) hKb.2.2.2 (by omega)
  rw [← HV.out] at hg4
  refine hg4.mono ?_
  clear hg4
  rintro e w10 ⟨v4, u4, rfl, g4, b4⟩
  obtain ⟨P4, c4, f4, -⟩ := g4.form
  have l4 : u4.length = NG := by rw [g4.len, HNG.out]
  rw [l4] at f4
  subst f4
  have R4 := Lib.hid g4.rowC.1
  have B4 := Lib.hid (B3.out.trans (b4.mono B3.out.size))
  clear g4 b4 l4
  by_cases hc : NG ≤ K1
  · have hU1 := Hp4.out.2 hc
    have e1 : ((U : Int) == 1) = true := by rw [hU1]; rfl
    have e2 : decide ((NG : Int) ≤ (K1 : Int)) = true := decide_eq_true (by omega)
    have e3 : decide (NG ≤ K1) = true := decide_eq_true hc
    clear hU1 hc
    go_wp2
    go_ret
    exact ⟨rfl, Hb5.out.trans (B4.out.mono Hb5.out.size)⟩
  · have hU1 : ¬ U = 1 := fun h => hc (Hp4.out.1 h)
    have e1 : ((U : Int) == 1) = false := by rw [beq_eq_false_iff_ne]; omega
    have e2 : decide ((NG : Int) ≤ (K1 : Int)) = false := decide_eq_false (by omega)
    have e3 : decide (NG ≤ K1) = false := decide_eq_false hc
    clear hU1 hc
    go_wp2
    go_ret
    exact ⟨rfl, Hb5.out.trans (B4.out.mono Hb5.out.size)⟩
end Go.Proofs.Ytgjcbbpmcojcoaa
