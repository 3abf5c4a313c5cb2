/- Rows of runs that a law lays itself; what lists that rise come to. -/
import Derived.IntWalk
import Derived.Test.YtmolfcccfekcpaaRrow6
import Derived.Test.YtmolfcccfekcpaaGood5
import Derived.Test.YtmolfcccfekcpaaMath5
import Derived.Test.YtmolfcccfekcpaaFactsLaw2
import Derived.Test.YtmolfcccfekcpaaSet
import Derived.Test.YtmolfcccfekcpaaIsRow
import Derived.Test.YtmolfcccfekcpaaRfacts
namespace Go.Proofs.Ytmolfcccfekcpaa
open Go.RowKit Go.Shelf
theorem rcc_list {X : World} {b n : Nat} {vs : List Value} {Js : List (List Cel)} (o : Own 31 X b vs) (h : ∀ (i : Nat) (J : List Cel), Js[i]? = some J → ∃ Pi ci, vs[i]? = some (Value.slice Pi J.length ci) ∧ RowC X Pi J.length J ∧ J.length ≤ ci) : RCc X (some ⟨b, 0, none⟩) n Js := fun _ => ⟨_, rfl, fun i J hJ => by
  obtain ⟨Pi, ci, h1, h2, h3⟩ := h i J hJ
  exact ⟨Pi, ci, by rw [add0]; exact o.cell h1, h2, h3⟩⟩
theorem RCc.rc {X : World} {P : Option Addr} {n : Nat} {Js : List (List Cel)} (h : RCc X P n Js) : RC X P n Js := fun hn => by
  obtain ⟨ad, e, hc⟩ := h hn
  refine ⟨ad, e, fun i J hJ => ?_⟩
  obtain ⟨Pi, ci, h1, h2, -⟩ := hc i J hJ
  exact ⟨Pi, ci, h1, h2⟩
theorem rcc_one {w X : World} {P : Option Addr} {N c : Nat} {J : List Cel} (hX : X = w.alloc (.cells #[.slice P N c] 31)) (h : RowC w P N J) (hN : N = J.length) (hc : N ≤ c) : RCc X (some ⟨w.heap.size, 0, none⟩) 1 [J] ∧ Below w.heap.size w X := by
  have hb : Below w.heap.size w X := by rw [hX]; exact (Below.refl _ _).alloc (Nat.le_refl _) _
  have o : Own 31 X w.heap.size [.slice P N c] := by rw [hX]; exact heap_alloc_new w _
  refine ⟨rcc_list o fun i K hK => ?_, hb⟩
  rcases i with _ | i
  · simp only [List.getElem?_cons_zero, Option.some.injEq] at hK
    subst hK
    rw [← hN]
    exact ⟨P, c, rfl, h.keep (Keeps.of_below hb), hc⟩
  · simp at hK
theorem rcc_two {w X : World} {P Q : Option Addr} {N c M d : Nat} {J K : List Cel} (hX : X = w.alloc (.cells #[.slice P N c, .slice Q M d] 31)) (h : RowC w P N J) (hN : N = J.length) (hc : N ≤ c) (h2 : RowC w Q M K) (hM : M = K.length) (hd : M ≤ d) : RCc X (some ⟨w.heap.size, 0, none⟩) 2 [J, K] ∧ Below w.heap.size w X := by
  have hb : Below w.heap.size w X := by rw [hX]; exact (Below.refl _ _).alloc (Nat.le_refl _) _
  have o : Own 31 X w.heap.size [.slice P N c, .slice Q M d] := by rw [hX]; exact heap_alloc_new w _
  refine ⟨rcc_list o fun i G hG => ?_, hb⟩
  rcases i with _ | _ | i
  · simp only [List.getElem?_cons_zero, Option.some.injEq] at hG
    subst hG
    rw [← hN]
    exact ⟨P, c, rfl, h.keep (Keeps.of_below hb), hc⟩
  · simp only [List.getElem?_cons_succ, List.getElem?_cons_zero, Option.some.injEq] at hG
    subst hG
    rw [← hM]
    exact ⟨Q, d, rfl, h2.keep (Keeps.of_below hb), hd⟩
  · simp at hG
theorem pass_two {f : Nat} (hf : 2 ≤ f) : passN f 2 = 1 := by
  rw [passN_more (by omega) hf, passN_one (by
    have : (2 + f - 1) / f < 2 := by rw [Nat.div_lt_iff_lt_mul (by omega)]; omega
    omega)]
theorem two_self_len : ∀ (G : List Cel), (twoP G G).length = G.length
  | [] => by rw [twoP_nil]
  | x :: l => by
    have h0 : cmpL x.key x.key = 0 := cmpL_zero.2 rfl
    rw [twoP_cons, if_neg (by omega), if_pos h0, List.length_cons, List.length_cons, two_self_len l]
theorem grp_self_len {G : List Cel} (h : RiseC G) : (grpR (G ++ G)).length = G.length := by rw [← two_grp h h, two_self_len]
theorem OkL.app {d mm : Nat} {L K : List Cel} (h : OkL d mm L) (h2 : OkL d mm K) : OkL d mm (L ++ K) := fun x hx => by
  rcases List.mem_append.1 hx with hx | hx
  · exact h x hx
  · exact h2 x hx
theorem grp_one {G : List Cel} (h : RiseC G) : grpR [G].flatten = G := by
  have : [G].flatten = G := by simp
  rw [this]
  have h1 := two_grp h (show RiseC [] by simp [RiseC])
  rw [twoP_nil2, List.append_nil] at h1
  exact h1.symm
theorem mpk_two {d me : Nat} {J K : List Cel} (hJ : RiseC J) (hK : RiseC K) (oJ : OkL d me J) (oK : OkL d me K) (hd : d ≤ 1000000) (hl : J.length + K.length ≤ 1000) : MPk me [J, K] :=
  have hfl : [J, K].flatten = J ++ K := by simp
  MPk.of_ok (d := d) (fun G hG => by
    simp at hG
    rcases hG with rfl | rfl
    · exact hJ
    · exact hK) (by rw [hfl]; exact oJ.app oK) hd (by rw [hfl, List.length_append]; exact hl)
theorem rise_nil : RiseC [] := by simp [RiseC]
theorem okL_nil {d me : Nat} : OkL d me [] := fun x hx => absurd hx List.not_mem_nil
theorem grp_nil_right {G : List Cel} (h : RiseC G) : grpR (G ++ []) = G := by rw [← two_grp h rise_nil, twoP_nil2]
theorem grp_nil_left {G : List Cel} (h : RiseC G) : grpR ([] ++ G) = G := by rw [← two_grp rise_nil h, twoP_nil]
theorem rowC_nil {W : World} {P : Option Addr} : RowC W P 0 [] := fun h => absurd h (by omega)
theorem grp_turn (J K : List Cel) : grpR (J ++ K) = grpR (K ++ J) := grpR_perm List.perm_append_comm
end Go.Proofs.Ytmolfcccfekcpaa
/- The law MergeOne. -/
namespace Go.Proofs.Ytmolfcccfekcpaa
open Go.RowKit
attribute [local go_sem] Oper.semAt_some
set_option maxRecDepth 100000 in
set_option maxHeartbeats 8000000 in
theorem mergeOne_walk (a0 : Int) (a1 : Option Addr) (len1 cap1 : Nat) (z1 : List Int) (a2 : Int) (a3 : Option Addr) (len3 cap3 : Nat) (z3 : List Int) (a4 : Int) (a5 : Int) (w : World) (h0 : inK .i64 a0) (w1 : IsRow .i64 w a1 len1 cap1 z1) (h2 : inK .i64 a2) (w3 : IsRow .i64 w a3 len3 cap3 z3) (h4 : inK .i64 a4) (h5 : inK .i64 a5) :
    Calls Try.prog 9 #[.int .i64 a0, .slice a1 len1 cap1, .int .i64 a2, .slice a3 len3 cap3, .int .i64 a4, .int .i64 a5] w fun e w' => e = .returned (.bool true) ∧ Below w.heap.size w w' := by
  obtain ⟨n1, lc1, cm1⟩ := w1.nums
  obtain ⟨n3, lc3, cm3⟩ := w3.nums
  have HW := Lib.hid (fun (x n : Int) (W : World) (h : inK .i64 x) (e1 : 1 ≤ n) (e2 : n ≤ 100) => lwithin6 x n W h e1 (by omega))
  have N1 := Lib.hid n1
  have N3 := Lib.hid n3
  have HKn := Lib.hid (known6_any w)
  clear w1 w3 n1 n3
  go_enter Try.func9, Try.ntmps9
  go_wp2_with fail
  refine HKn.out.mono ?_
  rintro e w1 ⟨rfl, hb1⟩
  have Hb1 := Lib.hid hb1
  clear hb1 HKn
  go_wp2_with fail
  refine (Facts_res a0 a2 a1 a3 len1 cap1 len3 cap3 _ _ w1 (N1.out.keep (Keeps.of_below Hb1.out)) (N3.out.keep (Keeps.of_below Hb1.out)) (by omega) (by omega) h0 h2).mono ?_
  rintro e w2 ⟨A, c, D, d, C, q, mm, m, cs, l, rfl, hF⟩
  have F := Lib.hid hF
  obtain ⟨k1, k2, k3, k4⟩ : 1 ≤ q ∧ q ≤ 4 ∧ mm ≤ 2 ∧ m ≤ 40 := ⟨hF.q1, hF.q4, hF.m2, hF.m40⟩
  have hb2 : Below w.heap.size w w2 := Hb1.out.trans (hF.below.mono Hb1.out.size)
  have hb3 : Below w2.heap.size w2 (w2.alloc (.cells #[.slice A q c, .int .i64 mm] 25)) := (Below.refl _ _).alloc (Nat.le_refl _) _
  obtain ⟨s1, s2, s3⟩ := set_bd a4 q k1 k2
  have Hb2 := Lib.hid hb2
  have Hb3 := Lib.hid hb3
  clear hF hb2 hb3 N1 N3
  go_wp2_with fail
  refine (set_any A q c mm a4 _ k1 k2 h4).mono ?_
  rintro e w4 ⟨rfl, rfl⟩
  obtain ⟨sa, hsa⟩ : ∃ sa, sa = a4 % 2 ^ q := ⟨_, rfl⟩
  rw [← hsa] at s1 s2 s3 ⊢
  have HSA := Lib.hid hsa
  clear hsa
  have hb4 : Below w2.heap.size w2 ((w2.alloc (.cells #[.slice A q c, .int .i64 mm] 25)).alloc (.cells #[.slice A q c, .int .i64 mm] 25)) := Hb3.out.alloc Hb3.out.size _
  have HB4 := Lib.hid hb4
  clear hb4
  have os : Own 25 ((w2.alloc (.cells #[.slice A q c, .int .i64 mm] 25)).alloc (.cells #[.slice A q c, .int .i64 mm] 25)) w2.heap.size [.slice A q c, .int .i64 mm] := (Below.heap_alloc _ _ _ (by simp)).trans (heap_alloc_new w2 _)
  have OS := Lib.hid os
  clear os
  generalize (w2.alloc (.cells #[.slice A q c, .int .i64 mm] 25)).alloc (.cells #[.slice A q c, .int .i64 mm] 25) = w4 at HB4 OS ⊢
  have hl4 : ∀ r ∈ l, r.key.length = q ∧ r.m.length = mm := F.out.lens
  have HL4 := Lib.hid (fun r hr => (show r.key.length ≤ 4 ∧ r.m.length = mm from ⟨by rw [(hl4 r hr).1]; exact k2, (hl4 r hr).2⟩))
  have hmk := fun W (hW : Below w2.heap.size w2 W) => make_any D m d C sa l W (F.out.rows.below hW (Nat.le_refl _)) F.out.em k4 F.out.small (fun r hr => by have := hl4 r hr; omega) s1 s2
  obtain ⟨L, hL⟩ : ∃ L, L = l.map (ofC sa) := ⟨_, rfl⟩
  have hLm : L.length = m := by rw [hL, List.length_map, F.out.em]
  obtain ⟨dd, hdd⟩ : ∃ dd, dd = dimN sa q := ⟨_, rfl⟩
  have hdd4 : dd ≤ 4 := by rw [hdd]; exact Nat.le_trans (dimN_le sa q) k2
  have hLo : OkL dd mm L := by rw [hL, hdd]; exact ok_cells sa F.out.right hl4 F.out.c16
  rw [← hL] at hmk
  have HMK := Lib.hid hmk
  have HLo := Lib.hid hLo
  have HLm := Lib.hid hLm
  have HLL := Lib.hid hL
  have HFA := Lib.hid (fun (set : Int) (W : World) (hW : Below w2.heap.size w2 W) (e1 : 0 ≤ set) (e2 : set ≤ 15) => rFacts_any D m d C mm set l W (F.out.rows.below hW (Nat.le_refl _)) F.out.em k4 F.out.small HL4.out (by omega) e1 e2)
  have hLi : ∀ x ∈ L, inK .i64 x.cnt := by rw [hL]; exact ofC_cnt sa l
  have hL1 : ∀ x ∈ L, x.cnt = 1 := by rw [hL]; exact ofC_one sa l
  have HL1 := Lib.hid hL1
  have RUN := Lib.hid (fun (P : Option Addr) (c N k : Nat) (W : World) (hK : RowC W P N L) (hN : N = m) => rruns6 P c N k dd mm L W hK (by omega) (by omega) hLo (by omega) (by omega))
  have Hb24 := Lib.hid (Hb2.out.trans (HB4.out.mono Hb2.out.size))
  clear hl4 hL hLm hdd hLo hmk hLi hL1
  obtain ⟨NG, hNG⟩ : ∃ NG, NG = (grpR L).length := ⟨_, rfl⟩
  have hNm : NG ≤ 40 := by have := grp_le L; have := HLm.out; omega
  have HNG := Lib.hid hNG
  clear hNG
  have B4 := Lib.hid (Below.refl w4.heap.size w4)
  go_wp2_with fail
  have hm := HFA.out sa w4 HB4.out s1 s2
  rw [← HLL.out] at hm
  refine hm.mono ?_
  clear hm
  rintro e x5 ⟨v5, u5, rfl, g5, b5⟩
  obtain ⟨P5, c5, f5, n5, -⟩ := g5.form
  have l5 : u5.length = NG := by rw [g5.len, HNG.out]
  rw [l5] at f5 n5
  subst f5
  have R5 := Lib.hid g5.rowC.1
  have B5 := Lib.hid (B4.out.trans (b5.mono B4.out.size))
  clear g5 b5 l5
  obtain ⟨kf, hkf⟩ : ∃ kf : Nat, (kf : Int) = a5 % 100 := ⟨(a5 % 100).toNat, by omega⟩
  have hkfn : kf < 100 := by omega
  have Hkf := Lib.hid hkf
  clear hkf
  go_wp2_with fail
  refine (HW.out a5 100 x5 h5 (by omega) (by omega)).mono ?_
  rintro e w' ⟨rfl, hw'⟩
  subst hw'
  rw [← Hkf.out]
  obtain ⟨F, hF⟩ : ∃ F, F = kf + 2 := ⟨_, rfl⟩
  have hw2 : IntKind.i64.wrap (2 + (kf : Int)) = (F : Int) := by rw [IntWalk.i64_in _ (by omega), hF]; push_cast; omega
  have hFb : 2 ≤ F ∧ F ≤ 101 := by omega
  clear hF hkfn
  have hGo : OkL dd mm (grpR L) := grp_okL HLo.out
  have hGr : RiseC (grpR L) := grpR_rise L
  obtain ⟨G, hG⟩ : ∃ G, G = grpR L := ⟨_, rfl⟩
  rw [← hG] at R5 HNG hGo hGr
  have hMP1 : MPk mm [G] := MPk.of_ok (d := dd) (fun J hJ => by rw [List.mem_singleton] at hJ; rw [hJ]; exact hGr) (by simpa using hGo) (by omega) (by have := HNG.out; simp; omega)
  have hGG : OkL dd mm (G ++ G) := hGo.app hGo
  have hri : ∀ J ∈ [G, G], RiseC J := fun J hJ => by
    simp at hJ
    rw [hJ]
    exact hGr
  have hfl : [G, G].flatten = G ++ G := by simp
  have hMP2 : MPk mm [G, G] := MPk.of_ok (d := dd) hri (by rw [hfl]; exact hGG) (by omega) (by have := HNG.out; rw [hfl]; simp; omega)
  have hMO2 : MOk mm [G, G] := ⟨hri, fun x hx => by
    rw [hfl] at hx
    exact ⟨(hGG x hx).2.2, by have := (hGG x hx).1; omega⟩, by have := HNG.out; rw [hfl]; simp; omega⟩
  have hlen : (grpR (G ++ G)).length = NG := by rw [grp_self_len hGr, HNG.out]
  have HF1 := Lib.hid (hGo.few (by omega) (by omega))
  have HF2 := Lib.hid ((grp_okL hGG).few (by omega) (by omega))
  have e1 := grp_one hGr
  obtain ⟨X1, hX1⟩ : ∃ X, X = x5.alloc (.cells #[.slice P5 NG c5] 31) := ⟨_, rfl⟩
  obtain ⟨hc1, hx1⟩ := rcc_one hX1 R5.out HNG.out n5
  have hm1 := mMerge_any (some ⟨x5.heap.size, 0, none⟩) 1 1 mm F [G] X1 rfl (by omega) (by omega) (by omega) (by omega) hc1 hMP1 (by omega)
  rw [e1, passN_one (by omega)] at hm1
  have HX1 := Lib.hid hX1
  have HM1 := Lib.hid hm1
  have HMG2 := Lib.hid (fun (P : Option Addr) (W : World) (hC : RCc W P 2 [G, G]) => mMerge_any P 2 2 mm F [G, G] W rfl (by omega) (by omega) (by omega) (by omega) hC hMP2 (by omega))
  have HRM2 := Lib.hid (fun (P : Option Addr) (W : World) (hC : RC W P 2 [G, G]) => rMerge_any P 2 2 F mm [G, G] W hC rfl (by omega) (by omega) (by omega) hMO2 (by omega))
  rw [hfl, pass_two (by omega)] at HMG2 HRM2
  obtain ⟨H, hH⟩ : ∃ H, H = grpR (G ++ G) := ⟨_, rfl⟩
  rw [← hH] at HMG2 HRM2 HF2 hlen
  have HLN := Lib.hid hlen.symm
  have Hx1 := Lib.hid hx1
  clear hG hMP1 hGG hri hfl hMP2 hMO2 hlen e1 hX1 hc1 hm1 hH hx1 hGo hGr
  go_wp2_with fail
  rw [← HX1.out]
  refine HM1.out.mono ?_
  rintro e x6 ⟨⟨v6, u6, rfl, g6⟩, b6⟩
  obtain ⟨P6, c6, f6, -⟩ := g6.form
  have l6 : u6.length = NG := by rw [g6.len, HNG.out]
  rw [l6] at f6
  subst f6
  have R6 := Lib.hid g6.rowC.1
  have B56 := Lib.hid (Hx1.out.trans (b6.mono Hx1.out.size))
  clear g6 b6 l6
  go_wp2_with fail
  obtain ⟨X2, hX2⟩ : ∃ X, X = x6.alloc (.cells #[.slice P5 NG c5, .slice P5 NG c5] 31) := ⟨_, rfl⟩
  have R5' := R5.out.keep (Keeps.of_below B56.out)
  obtain ⟨hc2, hx2⟩ := rcc_two hX2 R5' HNG.out n5 R5' HNG.out n5
  rw [← hX2]
  refine (HMG2.out _ X2 hc2).mono ?_
  clear hX2 hc2 R5'
  rintro e x7 ⟨⟨v7, u7, rfl, g7⟩, b7⟩
  obtain ⟨P7, c7, f7, -⟩ := g7.form
  have l7 : u7.length = NG := by rw [g7.len, HLN.out]
  rw [l7] at f7
  subst f7
  have R7 := Lib.hid g7.rowC.1
  have B67 := Lib.hid (hx2.trans (b7.mono hx2.size))
  clear g7 b7 l7 hx2
  go_wp2_with fail
  obtain ⟨X3, hX3⟩ : ∃ X, X = x7.alloc (.cells #[.slice P5 NG c5, .slice P5 NG c5] 31) := ⟨_, rfl⟩
  have B57 := Lib.hid (B56.out.trans (B67.out.mono B56.out.size))
  have R5' := R5.out.keep (Keeps.of_below B57.out)
  obtain ⟨hc3, hx3⟩ := rcc_two hX3 R5' HNG.out n5 R5' HNG.out n5
  rw [← hX3]
  refine (HRM2.out _ X3 hc3.rc).mono ?_
  clear hX3 hc3 R5'
  rintro e x8 ⟨v8, u8, rfl, g8, b8⟩
  obtain ⟨P8, c8, f8, -⟩ := g8.form
  have l8 : u8.length = NG := by rw [g8.len, HLN.out]
  rw [l8] at f8
  subst f8
  have R8 := Lib.hid g8.rowC.1
  have B78 := Lib.hid (hx3.trans (b8.mono hx3.size))
  have B68 := Lib.hid (B67.out.trans (B78.out.mono B67.out.size))
  have B58 := Lib.hid (B57.out.trans (B78.out.mono B57.out.size))
  clear g8 b8 l8 hx3
  go_wp2_with fail
  refine (same_yes P6 P5 NG c6 c5 G x8 (R6.out.keep (Keeps.of_below B68.out)) (R5.out.keep (Keeps.of_below B58.out)) HNG.out HF1.out (by omega)).mono ?_
  rintro e x9 ⟨rfl, b9⟩
  have B89 := Lib.hid b9
  have B79 := Lib.hid (B78.out.trans (b9.mono B78.out.size))
  have B59 := Lib.hid (B58.out.trans (b9.mono B58.out.size))
  clear b9
  go_wp2_with fail
  refine (same_yes P7 P8 NG c7 c8 H x9 (R7.out.keep (Keeps.of_below B79.out)) (R8.out.keep (Keeps.of_below B89.out)) HLN.out HF2.out (by omega)).mono ?_
  rintro e x10 ⟨rfl, b10⟩
  have B10 := Lib.hid ((B5.out.trans (B59.out.mono B5.out.size)).trans (b10.mono (B5.out.trans (B59.out.mono B5.out.size)).size))
  clear b10
  have d1 : ((NG : Int) == (NG : Int)) = true := by simp
  have HB24 := Lib.hid (Hb2.out.trans (HB4.out.mono Hb2.out.size))
  have HEnd := Lib.hid (HB24.out.trans (B10.out.mono HB24.out.size))
  go_wp2
  go_ret
  exact ⟨rfl, HEnd.out⟩
end Go.Proofs.Ytmolfcccfekcpaa
