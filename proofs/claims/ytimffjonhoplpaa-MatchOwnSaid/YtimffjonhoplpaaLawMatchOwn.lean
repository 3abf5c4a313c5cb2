/- The law MatchOwn. -/
import Derived.Test.YtimffjonhoplpaaMatL
import Derived.Test.YtimffjonhoplpaaMatR3
import Derived.Test.YtimffjonhoplpaaRints
import Derived.Test.YtimffjonhoplpaaMatW
namespace Go.Proofs.Ytimffjonhoplpaa
open Go.RowKit Go.Shelf
attribute [local go_sem] Oper.semAt_some
set_option maxRecDepth 100000 in
set_option maxHeartbeats 8000000 in
theorem matchOwn_walk (a0 a1 : Int) (a2 : Option Addr) (len2 cap2 : Nat) (z2 : List Int) (a3 : Int) (w : World) (h0 : inK .i64 a0) (h1 : inK .i64 a1) (w2 : IsRow .i64 w a2 len2 cap2 z2) (h3 : inK .i64 a3) :
    Calls Try.prog 8 #[.int .i64 a0, .int .i64 a1, .slice a2 len2 cap2, .int .i64 a3] w fun e w' => e = .returned (.bool true) ∧ Below w.heap.size w w' := by
  have hnz := w2.nums.1
  have HNZ := Lib.hid hnz
  clear w2 hnz
  obtain ⟨n, hn⟩ : ∃ n : Nat, n = (a0 % 6).toNat := ⟨_, rfl⟩
  obtain ⟨m, hm⟩ : ∃ m : Nat, m = (a0 % 6).toNat + (a1 % 5).toNat := ⟨_, rfl⟩
  have n5 : n ≤ 5 := by omega
  have m9 : m ≤ 9 := by omega
  have hok := matC_ok (zs := z2.take len2) (sp := a3) (show m ≤ 12 by omega) (show n ≤ m by omega)
  have hrl : ∀ r ∈ matC (z2.take len2) a3 m n, r.length ≤ 1000000 := fun r hr => by rw [(matC_row r hr).1]; omega
  have hML := matC_len (z2.take len2) a3 m n
  have hCO := fun W hW => costs_any a0 a1 a3 a2 len2 cap2 (z2.take len2) W h0 h1 h3 hW
  obtain ⟨M, hM⟩ : ∃ M, M = matC (z2.take len2) a3 m n := ⟨_, rfl⟩
  rw [← hm, ← hn, ← hM] at hCO
  rw [← hM] at hok hrl hML
  have HCO := Lib.hid hCO
  have HR := Lib.hid hrl
  have HOK := Lib.hid hok
  have HML := Lib.hid hML
  clear hCO hrl hok hM hn hm hML
  go_enter Try.func8, Try.ntmps8
  go_wp2_with fail
  refine (known9_any w).mono ?_
  rintro e w1 ⟨rfl, hb1⟩
  have HB1 := Lib.hid hb1
  have hz1 := hb1.size
  clear hb1
  go_wp2_with fail
  refine (HCO.out w1 (HNZ.out.keep (Keeps.of_below HB1.out))).mono ?_
  rintro e w2 ⟨v, us, rfl, hom, hb2⟩
  have HB2 := Lib.hid (HB1.out.trans (hb2.mono hz1))
  have hz2 := hb2.size
  have HOM := Lib.hid hom
  clear hom hb2
  go_wp2_with fail
  refine (HCO.out w2 (HNZ.out.keep (Keeps.of_below HB2.out))).mono ?_
  rintro e w3 ⟨v', us', rfl, hom', hb3⟩
  have HB3 := Lib.hid (HB2.out.trans (hb3.mono HB2.out.size))
  have hz3 := hb3.size
  obtain ⟨A1, c1, rfl, hm1⟩ := (HOM.out.below hb3).mat
  obtain ⟨A2, c2, rfl, hm2⟩ := hom'.mat
  rw [HML.out] at hm1 hm2 ⊢
  have HM1 := Lib.hid hm1
  have HM2 := Lib.hid hm2
  clear HOM hom' hb3 hm1 hm2
  go_wp2_with fail
  refine (assign_any A1 n c1 M w3 HM1.out (by omega) HR.out).mono ?_
  rintro e w4 ⟨v1, rfl, ho1, hb4⟩
  rw [HOK.out]
  have HB4 := Lib.hid hb4
  obtain ⟨L, hL⟩ : ∃ L, L = (toL M).length := ⟨_, rfl⟩
  have hL12 : L ≤ 12 := by rw [hL]; exact toL_le M
  obtain ⟨P1, e1, rfl, -, -, -, -⟩ := ho1.form
  have HO1 := Lib.hid ho1
  have HLE := Lib.hid hL
  clear hb4 ho1
  rw [← hL]
  clear hL
  go_wp2
  go_loopw [14] (fun p wr => ∃ (i : Nat) (xs : List Int), p = .int .i64 i ∧ i ≤ L ∧ xs.length = L ∧ OI w3.heap.size wr (.slice P1 L e1) xs ∧ Below w3.heap.size w3 wr) (fun p _ => L - (intOf p).toNat)
  case atStart => exact ⟨0, toL M, rfl, Nat.zero_le _, HLE.out.symm, by rw [HLE.out]; exact HO1.out, HB4.out⟩
  case round =>
    obtain ⟨i, xs, rfl, hi, hxl, ho, hb⟩ := hrel
    rename World => wr
    have HO := Lib.hid ho
    have HB := Lib.hid hb
    have HXL := Lib.hid hxl
    clear ho hb hxl
    by_cases hlt : i < L
    · have hltz : (i : Int) < (L : Int) := by omega
      have i0 : (0 : Int) ≤ (i : Int) := by omega
      obtain ⟨x, hx⟩ : ∃ x, xs[i]? = some x := ⟨_, List.getElem?_eq_getElem (by rw [HXL.out]; exact hlt)⟩
      obtain ⟨g, c, e, hg, hgl, hc, hf⟩ := HO.out.cell hx
      injection e with e5 _ e6
      subst e5
      clear e6 hx
      go_wp2
      go_roundw
      case rel => exact ⟨i + 1, xs.set i (-1), by go_num, by omega, by rw [List.length_set]; exact HXL.out, HO.out.put _ (by constructor <;> omega), HB.out.setCell (p := ⟨g, i, none⟩) hg _⟩
      case measure => simp [intOf]; omega
    · obtain rfl : i = L := by omega
      have hll : decide ((i : Int) < (i : Int)) = false := by simp
      have HM1' := Lib.hid (HM1.out.keep (Keeps.of_below HB.out))
      go_wp2_with fail
      refine (assign_any A1 n c1 M wr HM1'.out (by omega) HR.out).mono ?_
      rintro e w5 ⟨v2, rfl, ho2, hb5⟩
      rw [HOK.out]
      have HB5 := Lib.hid (HB.out.trans (hb5.mono HB.out.size))
      have HO2 := Lib.hid ho2
      have HM2' := Lib.hid (HM2.out.keep (Keeps.of_below HB5.out))
      clear hb5 ho2
      go_wp2_with fail
      refine (rAssign_any A2 n c2 M w5 HM2'.out (by omega) HR.out).mono ?_
      rintro e w6 ⟨v3, rfl, ho3, hb6⟩
      rw [HOK.out]
      have HB6 := Lib.hid (HB5.out.trans (hb6.mono HB5.out.size))
      have HO2' := Lib.hid (HO2.out.below hb6)
      obtain ⟨P2, e2, rfl, -, -, hn2, -⟩ := HO2'.out.form
      obtain ⟨P3, e3, rfl, -, -, hn3, -⟩ := ho3.form
      have HX2 := Lib.hid hn2
      have HX3 := Lib.hid hn3
      clear hb6 ho3 hn2 hn3
      have hz3' : w.heap.size ≤ w3.heap.size := HB3.out.size
      go_wp2
      go_loopw [21] (fun p wr => ∃ k : Nat, p = .int .i64 k ∧ k ≤ n ∧ Below w6.heap.size w6 wr) (fun p _ => n - (intOf p).toNat)
      case atStart => exact ⟨0, rfl, Nat.zero_le _, Below.refl _ _⟩
      case round =>
        obtain ⟨i, rfl, hi, hbr⟩ := hrel
        clear HM1' HM2' HO HB
        rename World => wr
        have HBR := Lib.hid hbr
        have HBW := Lib.hid (HB6.out.trans (hbr.mono HB6.out.size))
        clear hbr
        by_cases hlt : i < n
        · have hltz : (i : Int) < (n : Int) := by omega
          have i0 : (0 : Int) ≤ (i : Int) := by omega
          obtain ⟨ad1, r, B1, d1, rfl, hr, hc1, hn1⟩ := (HM1.out.keep (Keeps.of_below HBW.out)).at_ hlt
          obtain ⟨ad2, r', B2, d2, rfl, hr', hc2, hn2⟩ := (HM2.out.keep (Keeps.of_below HBW.out)).at_ hlt
          obtain rfl : r = r' := Option.some.inj (hr.symm.trans hr')
          have hrl := HR.out r (List.mem_of_getElem? hr)
          have HN1 := Lib.hid (show Nums .i64 wr.drew B1 r.length r from hn1)
          have HN2 := Lib.hid (show Nums .i64 wr.drew B2 r.length r from hn2)
          have HCC : Hid (wr.drew.cell? (ad1.add i) = some (.slice B1 r.length d1) ∧ wr.drew.cell? (ad2.add i) = some (.slice B2 r.length d2)) := Lib.hid ⟨hc1, hc2⟩
          clear hr hr' hc1 hc2 hn1 hn2
          go_wp2
          refine wp_region_held_drew (S := fun W => W.cell? (ad1.add i) = some (.slice B1 r.length d1) ∧ W.cell? (ad2.add i) = some (.slice B2 r.length d2)) (by kernel_rfl) HCC.out (fun hHeld => ?_)
          refine wpAnyH_take (i := 0) (v := ?va0) rfl (by kernel_rfl) (by kernel_rfl) (by kernel_rfl) (fun _ _ _ h => h) (Or.inl ⟨by rfl, ?ya0⟩) hHeld ?ra0
          case ya0 => (intro W hW; obtain ⟨hA, hB⟩ := hW; go_simp; first | done | with_reducible rfl)
          try simp only [List.getElem_toArray, List.getElem_cons_zero, Act.put, List.setIfInBounds_toArray, List.set_cons_zero, List.set_cons_succ]
          refine wpAnyH_take (i := 1) (v := ?va1) rfl (by kernel_rfl) (by kernel_rfl) (by kernel_rfl) (fun _ _ _ h => h) (Or.inl ⟨by rfl, ?ya1⟩) hHeld ?ra1
          case ya1 => (intro W hW; obtain ⟨hA, hB⟩ := hW; go_simp; first | done | with_reducible rfl)
          try simp only [List.getElem_toArray, List.getElem_cons_succ, List.getElem_cons_zero, Act.put, List.setIfInBounds_toArray, List.set_cons_zero, List.set_cons_succ]
          refine wpAnyH_take (i := 2) (v := ?va2) rfl (by kernel_rfl) (by kernel_rfl) (by kernel_rfl) (fun _ _ _ h => h) (Or.inl ⟨by rfl, ?ya2⟩) hHeld ?ra2
          case ya2 => (intro W hW; obtain ⟨hA, hB⟩ := hW; go_simp; first | done | with_reducible rfl)
          try simp only [List.getElem_toArray, List.getElem_cons_succ, List.getElem_cons_zero, Act.put, List.setIfInBounds_toArray, List.set_cons_zero, List.set_cons_succ]
          refine wpAnyH_take (i := 3) (v := ?va3) rfl (by kernel_rfl) (by kernel_rfl) (by kernel_rfl) (fun _ _ _ h => h) (Or.inl ⟨by rfl, ?ya3⟩) hHeld ?ra3
          case ya3 => (intro W hW; obtain ⟨hA, hB⟩ := hW; go_simp; first | done | with_reducible rfl)
          try simp only [List.getElem_toArray, List.getElem_cons_succ, List.getElem_cons_zero, Act.put, List.setIfInBounds_toArray, List.set_cons_zero, List.set_cons_succ]
          refine wpAnyH_take (i := 4) (v := ?va4) rfl (by kernel_rfl) (by kernel_rfl) (by kernel_rfl) (fun _ _ _ h => h) (Or.inl ⟨by rfl, ?ya4⟩) hHeld ?ra4
          case ya4 => (intro W hW; obtain ⟨hA, hB⟩ := hW; go_simp; first | done | with_reducible rfl)
          try simp only [List.getElem_toArray, List.getElem_cons_succ, List.getElem_cons_zero, Act.put, List.setIfInBounds_toArray, List.set_cons_zero, List.set_cons_succ]
          refine wpAnyH_take (i := 5) (v := ?va5) rfl (by kernel_rfl) (by kernel_rfl) (by kernel_rfl) (fun _ _ _ h => h) (Or.inl ⟨by rfl, ?ya5⟩) hHeld ?ra5
          case ya5 => (intro W hW; obtain ⟨hA, hB⟩ := hW; go_simp; first | done | with_reducible rfl)
          try simp only [List.getElem_toArray, List.getElem_cons_succ, List.getElem_cons_zero, Act.put, List.setIfInBounds_toArray, List.set_cons_zero, List.set_cons_succ]
          refine wpAnyH_take (i := 6) (v := ?va6) rfl (by kernel_rfl) (by kernel_rfl) (by kernel_rfl) (fun _ _ _ h => h) (Or.inl ⟨by rfl, ?ya6⟩) hHeld ?ra6
          case ya6 => (intro W hW; obtain ⟨hA, hB⟩ := hW; go_simp; first | done | with_reducible rfl)
          try simp only [List.getElem_toArray, List.getElem_cons_succ, List.getElem_cons_zero, Act.put, List.setIfInBounds_toArray, List.set_cons_zero, List.set_cons_succ]
          refine wpAnyH_take (i := 7) (v := ?va7) rfl (by kernel_rfl) (by kernel_rfl) (by kernel_rfl) (fun _ _ _ h => h) (Or.inl ⟨by rfl, ?ya7⟩) hHeld ?ra7
          case ya7 => (intro W hW; obtain ⟨hA, hB⟩ := hW; go_simp; first | done | with_reducible rfl)
          try simp only [List.getElem_toArray, List.getElem_cons_succ, List.getElem_cons_zero, Act.put, List.setIfInBounds_toArray, List.set_cons_zero, List.set_cons_succ]
          refine wpAnyH_ready (rs := [8]) (by kernel_rfl) (by simp) ?_
          refine AllReadyH.cons rfl (fun K hK => ?_) (AllReadyH.nil)
          go_simp
          refine (rInts B1 B2 r.length r.length d1 d2 r r wr.drew (HN1.out) (HN2.out) (by omega)).mono ?_
          rintro e w' ⟨rfl, q, rfl⟩
          rw [decide_eq_true rfl]
          refine hK.out _ _ (HCC.out) (fun hHeld => ?_)
          clear hK K
          try simp only [List.getElem_toArray, List.getElem_cons_succ, List.getElem_cons_zero, Act.put, List.setIfInBounds_toArray, List.set_cons_zero, List.set_cons_succ]
          refine wpAnyH_take (i := 9) (v := ?va9) rfl (by kernel_rfl) (by kernel_rfl) (by kernel_rfl) (fun _ _ _ h => h) (Or.inl ⟨by rfl, ?ya9⟩) hHeld ?ra9
          case ya9 => (intro W hW; obtain ⟨hA, hB⟩ := hW; go_simp; first | done | with_reducible rfl)
          try simp only [List.getElem_toArray, List.getElem_cons_succ, List.getElem_cons_zero, Act.put, List.setIfInBounds_toArray, List.set_cons_zero, List.set_cons_succ]
          refine wpAnyH_done (by kernel_rfl) ?_ _
          go_wp2
          go_roundw
          case rel => exact ⟨i + 1, by go_num, by omega, below_drewN HBR.out (1 + q)⟩
          case measure => simp [intOf]; omega
        · obtain rfl : i = n := by omega
          have hnn2 : decide ((i : Int) < (i : Int)) = false := by simp
          have kk := Keeps.of_below HBR.out
          have HX2' := Lib.hid (HX2.out.keep kk)
          have HX3' := Lib.hid (HX3.out.keep kk)
          have hTl : (toL M).length ≤ 4611686018427387904 := by have := toL_le M; omega
          clear kk
          go_wp2_with fail
          refine (rInts P2 P3 _ _ e2 e3 _ _ wr HX2'.out HX3'.out hTl).mono ?_
          rintro e w7 ⟨rfl, q, rfl⟩
          rw [decide_eq_true rfl]
          go_wp2
          go_ret
          exact ⟨rfl, below_drewN (HB3.out.trans (HBW.out.mono HB3.out.size)) q⟩
end Go.Proofs.Ytimffjonhoplpaa
