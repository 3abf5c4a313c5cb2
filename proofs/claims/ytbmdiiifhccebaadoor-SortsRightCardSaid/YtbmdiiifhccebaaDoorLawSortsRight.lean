/- The law SortsRight. -/
import Derived.Test.YtbmdiiifhccebaaDoorKn10
import Derived.Test.YtbmdiiifhccebaaDoorRrig
import Derived.Test.YtbmdiiifhccebaaDoorEdPut
import Derived.Test.YtbmdiiifhccebaaDoorEdIn
import Derived.IntWalk
namespace Go.Proofs.YtbmdiiifhccebaaDoor
open Go.RowKit Go.Shelf
attribute [local go_sem] Oper.semAt_some
set_option maxRecDepth 100000 in
set_option maxHeartbeats 8000000 in
theorem sortsRight_walk (a0 : Option Addr) (len0 cap0 : Nat) (es0 : List Ed) (a1 : Int) (a2 : Option Addr) (len2 cap2 : Nat) (z2 : List Int) (a3 a4 a5 : Int) (w : World) (hE0 : Edgs w a0 len0 es0) (hlc : len0 ≤ cap0) (h1 : inK .i64 a1) (w2 : IsRow .i64 w a2 len2 cap2 z2) (h3 : inK .i64 a3) (h4 : inK .i64 a4) (h5 : inK .i64 a5) (hT : Tab w) (hw1 : 1 < w.heap.size) :
    Calls Tryd.prog 3 #[.slice a0 len0 cap0, .int .i64 a1, .slice a2 len2 cap2, .int .i64 a3, .int .i64 a4, .int .i64 a5] w fun e w' => e = .returned (.bool true) ∧ Below w.heap.size w w' := by
  obtain ⟨n2, -, -⟩ := w2.nums
  have N2 := Lib.hid n2
  have HE0 := Lib.hid hE0
  have HKn := Lib.hid (known10_any w hT hw1)
  have HT := Lib.hid hT
  clear hE0 w2 n2 hT
  go_enter Tryd.func3, Tryd.ntmps3
  go_wp2_with fail
  refine HKn.out.mono ?_
  rintro e w1 ⟨rfl, hb1⟩
  have HB1 := Lib.hid hb1
  clear hb1 HKn
  by_cases hl0 : len0 ≤ 40
  · have dl0 : ¬ (40 : Int) < (len0 : Int) := by omega
    obtain ⟨q, hq⟩ : ∃ q : Nat, 1 + a1 % 4 = (q : Int) := ⟨(1 + a1 % 4).toNat, by omega⟩
    have q1 : 1 ≤ q := by omega
    have q4 : q ≤ 4 := by omega
    have hwq : IntKind.i64.wrap (1 + a1 % 4) = (q : Int) := by rw [IntWalk.i64_in _ (by omega)]; exact hq
    have HWI := Lib.hid (lwithin10 a1 4 w1 h1 (by omega) (by omega))
    clear hq
    go_wp2_with fail
    refine HWI.out.mono ?_
    rintro e w' ⟨rfl, rfl⟩
    have HO := Lib.hid (other_any q a2 len2 cap2 (z2.take len2) w1 (N2.out.keep (Keeps.of_below HB1.out)) q1 q4)
    have hro := oth_right q q1 q4 (z2.take len2)
    have hln : (othM q (z2.take len2)).length = 2 ^ q := by rw [← setsL_len q q1 q4, othM, othTo_len]
    obtain ⟨n16, n1⟩ := pow_16 q q4
    have HI := Lib.hid (right_in q1 q4 hro)
    clear hro
    rw [← hln] at n16 n1
    clear hln
    obtain ⟨es, hes⟩ : ∃ es, es = othM q (z2.take len2) := ⟨_, rfl⟩
    rw [← hes] at HO HI n16 n1
    obtain ⟨L, hL⟩ : ∃ L, L = es.length := ⟨_, rfl⟩
    rw [← hL] at n16 n1
    have HL := Lib.hid hL
    clear hes hL HWI
    go_wp2_with fail
    refine HO.out.mono ?_
    rintro e w2 ⟨v, rfl, ho, hb2⟩
    have HOE := Lib.hid (ho.mono (HB1.out.size))
    have hbw := HB1.out.trans (hb2.mono HB1.out.size)
    have HBW := Lib.hid hbw
    obtain ⟨g, c, rfl, hLc, hwg, hgl, hcs, hfz⟩ := HOE.out.at_ (by rw [← HL.out]; omega)
    rw [← HL.out] at hLc ⊢
    obtain ⟨k, hk⟩ : ∃ k : Nat, a3 % (L : Int) = (k : Int) := ⟨(a3 % (L : Int)).toNat, by have := Int.emod_nonneg a3 (show (L : Int) ≠ 0 by omega); omega⟩
    have hkL : k < L := by have := Int.emod_lt_of_pos a3 (show (0 : Int) < (L : Int) by omega); omega
    have HWA := Lib.hid (lwithin10 a3 (L : Int) w2 h3 (by omega) (by omega))
    rw [hk] at HWA
    obtain ⟨e, he⟩ : ∃ e, es[k]? = some e := ⟨_, List.getElem?_eq_getElem (by rw [← HL.out]; exact hkL)⟩
    obtain ⟨y0, y1, y2⟩ := hcs k e he
    have f0 := hfz (k * 3)
    have f1 := hfz (k * 3 + 1)
    have f2 := hfz (k * 3 + 2)
    have HE := Lib.hid he
    have HWB := Lib.hid (lwithin10 a4 6 w2 h4 (by omega) (by omega))
    obtain ⟨t, ht⟩ : ∃ t, t = a4 % 6 := ⟨_, rfl⟩
    have ht6 : 0 ≤ t ∧ t < 6 := by omega
    rw [← ht] at HWB
    have hei := HI.out e (List.mem_of_getElem? he)
    have HEI := Lib.hid hei
    have k0 : (0 : Int) ≤ (k : Int) := by omega
    have kL : (k : Int) < (L : Int) := by omega
    have hz2 := hbw.size
    clear hk ho hb2 hbw hcs hfz he hei ht HO
    go_wp2_with fail
    refine HWA.out.mono ?_
    rintro e9 w' ⟨rfl, rfl⟩
    go_wp2_with fail
    refine HWB.out.mono ?_
    rintro e9 w' ⟨rfl, rfl⟩
    clear HWA HWB
    rcases (by omega : t = 0 ∨ t = 1 ∨ t = 2 ∨ t = 3 ∨ t = 4 ∨ t = 5) with rfl | rfl | rfl | rfl | rfl | rfl
    · have HWC := Lib.hid (lwithin10 a5 17 w2 h5 (by omega) (by omega))
      obtain ⟨v5, hv5'⟩ : ∃ v5, a5 % 17 - 1 = v5 := ⟨_, rfl⟩
      have hw5 : IntKind.i64.wrap (a5 % 17 - 1) = v5 := by rw [IntWalk.i64_in _ (by omega)]; exact hv5'
      have hv5 : inK .i64 v5 := by constructor <;> omega
      clear hv5'
      have HGB := Lib.hid hwg
      have hoe2 : OE w.heap.size (w2.setCell ⟨g, k * 3, none⟩ (.int .i64 v5)) _ _ := HOE.out.put (j := k) (r := 0) (e' := ⟨v5, e.p, e.sc⟩) (v := (.int .i64 v5)) (by omega) HE.out (by simp [eC])
      obtain ⟨wx, hwx⟩ : ∃ wx, wx = w2.setCell ⟨g, k * 3, none⟩ (.int .i64 v5) := ⟨_, rfl⟩
      rw [← hwx] at hoe2
      obtain ⟨A9, c9, ev, hEx, hc9⟩ := hoe2.form2 (fun x hx => by
        rcases List.mem_or_eq_of_mem_set hx with hx | rfl
        · exact HI.out x hx
        · exact ⟨hv5, HEI.out.2⟩)
      rw [List.length_set, ← HL.out] at ev hEx hc9
      injection ev with ev1 ev2 ev3
      subst ev1 ev3
      have hbx : Below w.heap.size w wx := by rw [hwx]; exact HBW.out.setCell HGB.out _
      have HEX := Lib.hid hEx
      have HNC := Lib.hid hLc
      have HN1 := Lib.hid (show L ≤ 1000 by omega)
      have HBX := Lib.hid hbx
      clear hEx hbx hoe2
      go_wp2_with fail
      refine HWC.out.mono ?_
      rintro e9 w' ⟨rfl, rfl⟩
      clear HWC
      have HZ := Lib.hid HBX.out.size
      go_wp2_with fail
      rw [← hwx]
      clear hwx
      go_loopw [16] (fun i wr => ∃ k : Nat, i = .int .i64 k ∧ 1 ≤ k ∧ k ≤ 5 ∧ Below wx.heap.size wx wr) (fun i _ => 5 - (intOf i).toNat)
      case atStart => exact ⟨1, rfl, by omega, by omega, Below.refl _ _⟩
      case round =>
        obtain ⟨j, rfl, j1, j5, hb⟩ := hrel
        rename World => wr
        have hbr : Below w.heap.size w wr := HBX.out.trans (hb.mono HZ.out)
        have HBR := Lib.hid hbr
        have HBQ := Lib.hid hb
        clear hb hbr
        by_cases hj : j ≤ 4
        · have HR1 := Lib.hid (right_any a0 len0 cap0 j es0 wr (HE0.out.keep (Keeps.of_below HBR.out)) hlc (by omega) j1 hj (HT.out.below HBR.out hw1) (by have := HBR.out.size; omega))
          have jz : (j : Int) ≤ 4 := by omega
          go_wp2_with fail
          refine HR1.out.mono ?_
          rintro e9 wA ⟨rfl, hbA⟩
          have hbA2 := HBR.out.trans (hbA.mono HBR.out.size)
          have HR2 := Lib.hid (rRight_any a0 len0 cap0 j es0 wA (HE0.out.keep (Keeps.of_below hbA2)) (by omega) j1 hj)
          have HBA := Lib.hid (HBQ.out.trans (hbA.mono HBQ.out.size))
          clear hbA hbA2 HR1
          go_wp2_with fail
          refine HR2.out.mono ?_
          rintro e9 wB ⟨rfl, hbB⟩
          have HBB := Lib.hid (HBA.out.trans (hbB.mono HBA.out.size))
          obtain ⟨b, hb⟩ : ∃ b, b = planB es0 j := ⟨_, rfl⟩
          have bne : (b != b) = false := by simp
          rw [← hb]
          clear hbB HR2 hb
          go_wp2
          go_roundw
          case rel => exact ⟨j + 1, by go_num, by omega, by omega, HBB.out⟩
          case measure => simp [intOf]; omega
        · have jz : ¬ (j : Int) ≤ 4 := by omega
          have HR1 := Lib.hid (right_any (some ⟨g, 0, none⟩) L c q (es.set k ⟨v5, e.p, e.sc⟩) wr (HEX.out.keep (Keeps.of_below HBQ.out)) HNC.out HN1.out q1 q4 (HT.out.below HBR.out hw1) (by have := HBR.out.size; omega))
          go_wp2_with fail
          refine HR1.out.mono ?_
          rintro e9 wA ⟨rfl, hbA⟩
          have hbA2 := HBQ.out.trans (hbA.mono HBQ.out.size)
          have HR2 := Lib.hid (rRight_any (some ⟨g, 0, none⟩) L c q (es.set k ⟨v5, e.p, e.sc⟩) wA (HEX.out.keep (Keeps.of_below hbA2)) HN1.out q1 q4)
          have HBA := Lib.hid (HBR.out.trans (hbA.mono HBR.out.size))
          clear hbA hbA2 HR1
          go_wp2_with fail
          refine HR2.out.mono ?_
          rintro e9 wB ⟨rfl, hbB⟩
          have HBB := Lib.hid (HBA.out.trans (hbB.mono HBA.out.size))
          obtain ⟨b, hb⟩ : ∃ b, b = planB (es.set k ⟨v5, e.p, e.sc⟩) q := ⟨_, rfl⟩
          have beq : (b == b) = true := by simp
          rw [← hb]
          clear hbB HR2 hb
          go_wp2
          go_ret
          exact ⟨rfl, HBB.out⟩
    · have HWC := Lib.hid (lwithin10 a5 18 w2 h5 (by omega) (by omega))
      obtain ⟨v5, hv5'⟩ : ∃ v5, a5 % 18 - 2 = v5 := ⟨_, rfl⟩
      have hw5 : IntKind.i64.wrap (a5 % 18 - 2) = v5 := by rw [IntWalk.i64_in _ (by omega)]; exact hv5'
      have hv5 : inK .i64 v5 := by constructor <;> omega
      clear hv5'
      have HGB := Lib.hid hwg
      have hoe2 := HOE.out.put (j := k) (r := 1) (e' := ⟨e.s, v5, e.sc⟩) (v := (.int .i64 v5)) (by omega) HE.out (by simp [eC])
      obtain ⟨wx, hwx⟩ : ∃ wx, wx = w2.setCell ⟨g, k * 3 + 1, none⟩ (.int .i64 v5) := ⟨_, rfl⟩
      rw [← hwx] at hoe2
      obtain ⟨A9, c9, ev, hEx, hc9⟩ := hoe2.form2 (fun x hx => by
        rcases List.mem_or_eq_of_mem_set hx with hx | rfl
        · exact HI.out x hx
        · exact ⟨HEI.out.1, hv5⟩)
      rw [List.length_set, ← HL.out] at ev hEx hc9
      injection ev with ev1 ev2 ev3
      subst ev1 ev3
      have hbx : Below w.heap.size w wx := by rw [hwx]; exact HBW.out.setCell HGB.out _
      have HEX := Lib.hid hEx
      have HNC := Lib.hid hLc
      have HN1 := Lib.hid (show L ≤ 1000 by omega)
      have HBX := Lib.hid hbx
      clear hEx hbx hoe2
      go_wp2_with fail
      refine HWC.out.mono ?_
      rintro e9 w' ⟨rfl, rfl⟩
      clear HWC
      have HZ := Lib.hid HBX.out.size
      go_wp2_with fail
      rw [← hwx]
      clear hwx
      go_loopw [16] (fun i wr => ∃ k : Nat, i = .int .i64 k ∧ 1 ≤ k ∧ k ≤ 5 ∧ Below wx.heap.size wx wr) (fun i _ => 5 - (intOf i).toNat)
      case atStart => exact ⟨1, rfl, by omega, by omega, Below.refl _ _⟩
      case round =>
        obtain ⟨j, rfl, j1, j5, hb⟩ := hrel
        rename World => wr
        have hbr : Below w.heap.size w wr := HBX.out.trans (hb.mono HZ.out)
        have HBR := Lib.hid hbr
        have HBQ := Lib.hid hb
        clear hb hbr
        by_cases hj : j ≤ 4
        · have HR1 := Lib.hid (right_any a0 len0 cap0 j es0 wr (HE0.out.keep (Keeps.of_below HBR.out)) hlc (by omega) j1 hj (HT.out.below HBR.out hw1) (by have := HBR.out.size; omega))
          have jz : (j : Int) ≤ 4 := by omega
          go_wp2_with fail
          refine HR1.out.mono ?_
          rintro e9 wA ⟨rfl, hbA⟩
          have hbA2 := HBR.out.trans (hbA.mono HBR.out.size)
          have HR2 := Lib.hid (rRight_any a0 len0 cap0 j es0 wA (HE0.out.keep (Keeps.of_below hbA2)) (by omega) j1 hj)
          have HBA := Lib.hid (HBQ.out.trans (hbA.mono HBQ.out.size))
          clear hbA hbA2 HR1
          go_wp2_with fail
          refine HR2.out.mono ?_
          rintro e9 wB ⟨rfl, hbB⟩
          have HBB := Lib.hid (HBA.out.trans (hbB.mono HBA.out.size))
          obtain ⟨b, hb⟩ : ∃ b, b = planB es0 j := ⟨_, rfl⟩
          have bne : (b != b) = false := by simp
          rw [← hb]
          clear hbB HR2 hb
          go_wp2
          go_roundw
          case rel => exact ⟨j + 1, by go_num, by omega, by omega, HBB.out⟩
          case measure => simp [intOf]; omega
        · have jz : ¬ (j : Int) ≤ 4 := by omega
          have HR1 := Lib.hid (right_any (some ⟨g, 0, none⟩) L c q (es.set k ⟨e.s, v5, e.sc⟩) wr (HEX.out.keep (Keeps.of_below HBQ.out)) HNC.out HN1.out q1 q4 (HT.out.below HBR.out hw1) (by have := HBR.out.size; omega))
          go_wp2_with fail
          refine HR1.out.mono ?_
          rintro e9 wA ⟨rfl, hbA⟩
          have hbA2 := HBQ.out.trans (hbA.mono HBQ.out.size)
          have HR2 := Lib.hid (rRight_any (some ⟨g, 0, none⟩) L c q (es.set k ⟨e.s, v5, e.sc⟩) wA (HEX.out.keep (Keeps.of_below hbA2)) HN1.out q1 q4)
          have HBA := Lib.hid (HBR.out.trans (hbA.mono HBR.out.size))
          clear hbA hbA2 HR1
          go_wp2_with fail
          refine HR2.out.mono ?_
          rintro e9 wB ⟨rfl, hbB⟩
          have HBB := Lib.hid (HBA.out.trans (hbB.mono HBA.out.size))
          obtain ⟨b, hb⟩ : ∃ b, b = planB (es.set k ⟨e.s, v5, e.sc⟩) q := ⟨_, rfl⟩
          have beq : (b == b) = true := by simp
          rw [← hb]
          clear hbB HR2 hb
          go_wp2
          go_ret
          exact ⟨rfl, HBB.out⟩
    · have HGB := Lib.hid hwg
      have hoe2 := HOE.out.put (j := k) (r := 2) (e' := ⟨e.s, e.p, !e.sc⟩) (v := (.bool (!e.sc))) (by omega) HE.out (by simp [eC])
      obtain ⟨wx, hwx⟩ : ∃ wx, wx = w2.setCell ⟨g, k * 3 + 2, none⟩ (.bool (!e.sc)) := ⟨_, rfl⟩
      rw [← hwx] at hoe2
      obtain ⟨A9, c9, ev, hEx, hc9⟩ := hoe2.form2 (fun x hx => by
        rcases List.mem_or_eq_of_mem_set hx with hx | rfl
        · exact HI.out x hx
        · exact ⟨HEI.out.1, HEI.out.2⟩)
      rw [List.length_set, ← HL.out] at ev hEx hc9
      injection ev with ev1 ev2 ev3
      subst ev1 ev3
      have hbx : Below w.heap.size w wx := by rw [hwx]; exact HBW.out.setCell HGB.out _
      have HEX := Lib.hid hEx
      have HNC := Lib.hid hLc
      have HN1 := Lib.hid (show L ≤ 1000 by omega)
      have HBX := Lib.hid hbx
      clear hEx hbx hoe2
      have HZ := Lib.hid HBX.out.size
      go_wp2_with fail
      rw [← hwx]
      clear hwx
      go_loopw [16] (fun i wr => ∃ k : Nat, i = .int .i64 k ∧ 1 ≤ k ∧ k ≤ 5 ∧ Below wx.heap.size wx wr) (fun i _ => 5 - (intOf i).toNat)
      case atStart => exact ⟨1, rfl, by omega, by omega, Below.refl _ _⟩
      case round =>
        obtain ⟨j, rfl, j1, j5, hb⟩ := hrel
        rename World => wr
        have hbr : Below w.heap.size w wr := HBX.out.trans (hb.mono HZ.out)
        have HBR := Lib.hid hbr
        have HBQ := Lib.hid hb
        clear hb hbr
        by_cases hj : j ≤ 4
        · have HR1 := Lib.hid (right_any a0 len0 cap0 j es0 wr (HE0.out.keep (Keeps.of_below HBR.out)) hlc (by omega) j1 hj (HT.out.below HBR.out hw1) (by have := HBR.out.size; omega))
          have jz : (j : Int) ≤ 4 := by omega
          go_wp2_with fail
          refine HR1.out.mono ?_
          rintro e9 wA ⟨rfl, hbA⟩
          have hbA2 := HBR.out.trans (hbA.mono HBR.out.size)
          have HR2 := Lib.hid (rRight_any a0 len0 cap0 j es0 wA (HE0.out.keep (Keeps.of_below hbA2)) (by omega) j1 hj)
          have HBA := Lib.hid (HBQ.out.trans (hbA.mono HBQ.out.size))
          clear hbA hbA2 HR1
          go_wp2_with fail
          refine HR2.out.mono ?_
          rintro e9 wB ⟨rfl, hbB⟩
          have HBB := Lib.hid (HBA.out.trans (hbB.mono HBA.out.size))
          obtain ⟨b, hb⟩ : ∃ b, b = planB es0 j := ⟨_, rfl⟩
          have bne : (b != b) = false := by simp
          rw [← hb]
          clear hbB HR2 hb
          go_wp2
          go_roundw
          case rel => exact ⟨j + 1, by go_num, by omega, by omega, HBB.out⟩
          case measure => simp [intOf]; omega
        · have jz : ¬ (j : Int) ≤ 4 := by omega
          have HR1 := Lib.hid (right_any (some ⟨g, 0, none⟩) L c q (es.set k ⟨e.s, e.p, !e.sc⟩) wr (HEX.out.keep (Keeps.of_below HBQ.out)) HNC.out HN1.out q1 q4 (HT.out.below HBR.out hw1) (by have := HBR.out.size; omega))
          go_wp2_with fail
          refine HR1.out.mono ?_
          rintro e9 wA ⟨rfl, hbA⟩
          have hbA2 := HBQ.out.trans (hbA.mono HBQ.out.size)
          have HR2 := Lib.hid (rRight_any (some ⟨g, 0, none⟩) L c q (es.set k ⟨e.s, e.p, !e.sc⟩) wA (HEX.out.keep (Keeps.of_below hbA2)) HN1.out q1 q4)
          have HBA := Lib.hid (HBR.out.trans (hbA.mono HBR.out.size))
          clear hbA hbA2 HR1
          go_wp2_with fail
          refine HR2.out.mono ?_
          rintro e9 wB ⟨rfl, hbB⟩
          have HBB := Lib.hid (HBA.out.trans (hbB.mono HBA.out.size))
          obtain ⟨b, hb⟩ : ∃ b, b = planB (es.set k ⟨e.s, e.p, !e.sc⟩) q := ⟨_, rfl⟩
          have beq : (b == b) = true := by simp
          rw [← hb]
          clear hbB HR2 hb
          go_wp2
          go_ret
          exact ⟨rfl, HBB.out⟩
    · obtain ⟨L1, hL1⟩ : ∃ L1 : Nat, L = L1 + 1 := ⟨L - 1, by omega⟩
      have hws : IntKind.i64.wrap ((L : Int) - 1) = (L1 : Int) := by rw [IntWalk.i64_in _ (by omega)]; omega
      obtain ⟨A9, c9, ev, hEx, hc9⟩ := HOE.out.form2 HI.out
      rw [← HL.out] at ev hEx hc9
      injection ev with ev1 ev2 ev3
      subst ev1 ev3
      have hEy : Edgs w2 (some ⟨g, 0, none⟩) L1 (es.take L1) := ⟨by rw [List.length_take, ← HL.out]; omega, fun x hx => HI.out x (List.mem_of_mem_take hx), fun _ => by
        obtain ⟨g9, o9, e9, hc⟩ := hEx.2.2 (by omega)
        refine ⟨g9, o9, e9, fun j x hx => hc j x ?_⟩
        have hj : j < L1 := by
          have h9 := (List.getElem?_eq_some_iff.1 hx).1
          rw [List.length_take] at h9
          omega
        rwa [List.getElem?_take, if_pos hj] at hx⟩
      have HEX := Lib.hid hEy
      have HNC := Lib.hid (show L1 ≤ c by omega)
      have HN1 := Lib.hid (show L1 ≤ 1000 by omega)
      have HBX := HBW
      have l1a : (0 : Int) ≤ (L1 : Int) := by omega
      have l1b : (L1 : Int) ≤ (c : Int) := by omega
      clear hEx hEy y0 y1 y2 hL1
      have HZ := Lib.hid HBX.out.size
      go_wp2_with fail
      go_loopw [16] (fun i wr => ∃ k : Nat, i = .int .i64 k ∧ 1 ≤ k ∧ k ≤ 5 ∧ Below w2.heap.size w2 wr) (fun i _ => 5 - (intOf i).toNat)
      case atStart => exact ⟨1, rfl, by omega, by omega, Below.refl _ _⟩
      case round =>
        obtain ⟨j, rfl, j1, j5, hb⟩ := hrel
        rename World => wr
        have hbr : Below w.heap.size w wr := HBX.out.trans (hb.mono HZ.out)
        have HBR := Lib.hid hbr
        have HBQ := Lib.hid hb
        clear hb hbr
        by_cases hj : j ≤ 4
        · have HR1 := Lib.hid (right_any a0 len0 cap0 j es0 wr (HE0.out.keep (Keeps.of_below HBR.out)) hlc (by omega) j1 hj (HT.out.below HBR.out hw1) (by have := HBR.out.size; omega))
          have jz : (j : Int) ≤ 4 := by omega
          go_wp2_with fail
          refine HR1.out.mono ?_
          rintro e9 wA ⟨rfl, hbA⟩
          have hbA2 := HBR.out.trans (hbA.mono HBR.out.size)
          have HR2 := Lib.hid (rRight_any a0 len0 cap0 j es0 wA (HE0.out.keep (Keeps.of_below hbA2)) (by omega) j1 hj)
          have HBA := Lib.hid (HBQ.out.trans (hbA.mono HBQ.out.size))
          clear hbA hbA2 HR1
          go_wp2_with fail
          refine HR2.out.mono ?_
          rintro e9 wB ⟨rfl, hbB⟩
          have HBB := Lib.hid (HBA.out.trans (hbB.mono HBA.out.size))
          obtain ⟨b, hb⟩ : ∃ b, b = planB es0 j := ⟨_, rfl⟩
          have bne : (b != b) = false := by simp
          rw [← hb]
          clear hbB HR2 hb
          go_wp2
          go_roundw
          case rel => exact ⟨j + 1, by go_num, by omega, by omega, HBB.out⟩
          case measure => simp [intOf]; omega
        · have jz : ¬ (j : Int) ≤ 4 := by omega
          have HR1 := Lib.hid (right_any (some ⟨g, 0, none⟩) L1 c q (es.take L1) wr (HEX.out.keep (Keeps.of_below HBQ.out)) HNC.out HN1.out q1 q4 (HT.out.below HBR.out hw1) (by have := HBR.out.size; omega))
          go_wp2_with fail
          refine HR1.out.mono ?_
          rintro e9 wA ⟨rfl, hbA⟩
          have hbA2 := HBQ.out.trans (hbA.mono HBQ.out.size)
          have HR2 := Lib.hid (rRight_any (some ⟨g, 0, none⟩) L1 c q (es.take L1) wA (HEX.out.keep (Keeps.of_below hbA2)) HN1.out q1 q4)
          have HBA := Lib.hid (HBR.out.trans (hbA.mono HBR.out.size))
          clear hbA hbA2 HR1
          go_wp2_with fail
          refine HR2.out.mono ?_
          rintro e9 wB ⟨rfl, hbB⟩
          have HBB := Lib.hid (HBA.out.trans (hbB.mono HBA.out.size))
          obtain ⟨b, hb⟩ : ∃ b, b = planB (es.take L1) q := ⟨_, rfl⟩
          have beq : (b == b) = true := by simp
          rw [← hb]
          clear hbB HR2 hb
          go_wp2
          go_ret
          exact ⟨rfl, HBB.out⟩
    · have hax := oe_push e HOE.out (OI.nil w.heap.size w2) (by rw [← HL.out]; omega) hz2
      obtain ⟨v', wx, hrun, hoe2, -, hb3⟩ := hax
      obtain ⟨A9, c9, rfl, hEx, hc9⟩ := hoe2.form2 (fun x hx => by
        rcases List.mem_append.1 hx with hx | hx
        · exact HI.out x hx
        · rw [List.mem_singleton.1 hx]; exact HEI.out)
      have hl9 : (es ++ [e]).length = L + 1 := by rw [List.length_append, ← HL.out]; rfl
      rw [hl9] at hEx hc9 hrun
      rw [← HL.out] at hrun
      have Hrun := Lib.hid hrun
      have HEX := Lib.hid hEx
      have HNC := Lib.hid hc9
      have HN1 := Lib.hid (show L + 1 ≤ 1000 by omega)
      have HBX := Lib.hid (HBW.out.trans hb3)
      clear hrun hoe2 hb3 hEx hc9 hl9
      go_wp2_with (at_builtin; have _t := Hrun; refine wpList_append_eq rfl (.tmp 73) (.tmp 78) 22 rfl _ _ _ _ rfl rfl Hrun.out ?_; clear _t Hrun)
      have HZ := Lib.hid HBX.out.size
      go_loopw [16] (fun i wr => ∃ k : Nat, i = .int .i64 k ∧ 1 ≤ k ∧ k ≤ 5 ∧ Below wx.heap.size wx wr) (fun i _ => 5 - (intOf i).toNat)
      case atStart => exact ⟨1, rfl, by omega, by omega, Below.refl _ _⟩
      case round =>
        obtain ⟨j, rfl, j1, j5, hb⟩ := hrel
        rename World => wr
        have hbr : Below w.heap.size w wr := HBX.out.trans (hb.mono HZ.out)
        have HBR := Lib.hid hbr
        have HBQ := Lib.hid hb
        clear hb hbr
        by_cases hj : j ≤ 4
        · have HR1 := Lib.hid (right_any a0 len0 cap0 j es0 wr (HE0.out.keep (Keeps.of_below HBR.out)) hlc (by omega) j1 hj (HT.out.below HBR.out hw1) (by have := HBR.out.size; omega))
          have jz : (j : Int) ≤ 4 := by omega
          go_wp2_with fail
          refine HR1.out.mono ?_
          rintro e9 wA ⟨rfl, hbA⟩
          have hbA2 := HBR.out.trans (hbA.mono HBR.out.size)
          have HR2 := Lib.hid (rRight_any a0 len0 cap0 j es0 wA (HE0.out.keep (Keeps.of_below hbA2)) (by omega) j1 hj)
          have HBA := Lib.hid (HBQ.out.trans (hbA.mono HBQ.out.size))
          clear hbA hbA2 HR1
          go_wp2_with fail
          refine HR2.out.mono ?_
          rintro e9 wB ⟨rfl, hbB⟩
          have HBB := Lib.hid (HBA.out.trans (hbB.mono HBA.out.size))
          obtain ⟨b, hb⟩ : ∃ b, b = planB es0 j := ⟨_, rfl⟩
          have bne : (b != b) = false := by simp
          rw [← hb]
          clear hbB HR2 hb
          go_wp2
          go_roundw
          case rel => exact ⟨j + 1, by go_num, by omega, by omega, HBB.out⟩
          case measure => simp [intOf]; omega
        · have jz : ¬ (j : Int) ≤ 4 := by omega
          have HR1 := Lib.hid (right_any A9 (L + 1) c9 q (es ++ [e]) wr (HEX.out.keep (Keeps.of_below HBQ.out)) HNC.out HN1.out q1 q4 (HT.out.below HBR.out hw1) (by have := HBR.out.size; omega))
          go_wp2_with fail
          refine HR1.out.mono ?_
          rintro e9 wA ⟨rfl, hbA⟩
          have hbA2 := HBQ.out.trans (hbA.mono HBQ.out.size)
          have HR2 := Lib.hid (rRight_any A9 (L + 1) c9 q (es ++ [e]) wA (HEX.out.keep (Keeps.of_below hbA2)) HN1.out q1 q4)
          have HBA := Lib.hid (HBR.out.trans (hbA.mono HBR.out.size))
          clear hbA hbA2 HR1
          go_wp2_with fail
          refine HR2.out.mono ?_
          rintro e9 wB ⟨rfl, hbB⟩
          have HBB := Lib.hid (HBA.out.trans (hbB.mono HBA.out.size))
          obtain ⟨b, hb⟩ : ∃ b, b = planB (es ++ [e]) q := ⟨_, rfl⟩
          have beq : (b == b) = true := by simp
          rw [← hb]
          clear hbB HR2 hb
          go_wp2
          go_ret
          exact ⟨rfl, HBB.out⟩
    · obtain ⟨A9, c9, ev, hEx, hc9⟩ := HOE.out.form2 HI.out
      rw [← HL.out] at ev hEx hc9
      injection ev with ev1 ev2 ev3
      subst ev1 ev3
      have HEX := Lib.hid hEx
      have HNC := Lib.hid hLc
      have HN1 := Lib.hid (show L ≤ 1000 by omega)
      have HBX := HBW
      clear hEx y0 y1 y2
      have HZ := Lib.hid HBX.out.size
      go_wp2_with fail
      go_loopw [16] (fun i wr => ∃ k : Nat, i = .int .i64 k ∧ 1 ≤ k ∧ k ≤ 5 ∧ Below w2.heap.size w2 wr) (fun i _ => 5 - (intOf i).toNat)
      case atStart => exact ⟨1, rfl, by omega, by omega, Below.refl _ _⟩
      case round =>
        obtain ⟨j, rfl, j1, j5, hb⟩ := hrel
        rename World => wr
        have hbr : Below w.heap.size w wr := HBX.out.trans (hb.mono HZ.out)
        have HBR := Lib.hid hbr
        have HBQ := Lib.hid hb
        clear hb hbr
        by_cases hj : j ≤ 4
        · have HR1 := Lib.hid (right_any a0 len0 cap0 j es0 wr (HE0.out.keep (Keeps.of_below HBR.out)) hlc (by omega) j1 hj (HT.out.below HBR.out hw1) (by have := HBR.out.size; omega))
          have jz : (j : Int) ≤ 4 := by omega
          go_wp2_with fail
          refine HR1.out.mono ?_
          rintro e9 wA ⟨rfl, hbA⟩
          have hbA2 := HBR.out.trans (hbA.mono HBR.out.size)
          have HR2 := Lib.hid (rRight_any a0 len0 cap0 j es0 wA (HE0.out.keep (Keeps.of_below hbA2)) (by omega) j1 hj)
          have HBA := Lib.hid (HBQ.out.trans (hbA.mono HBQ.out.size))
          clear hbA hbA2 HR1
          go_wp2_with fail
          refine HR2.out.mono ?_
          rintro e9 wB ⟨rfl, hbB⟩
          have HBB := Lib.hid (HBA.out.trans (hbB.mono HBA.out.size))
          obtain ⟨b, hb⟩ : ∃ b, b = planB es0 j := ⟨_, rfl⟩
          have bne : (b != b) = false := by simp
          rw [← hb]
          clear hbB HR2 hb
          go_wp2
          go_roundw
          case rel => exact ⟨j + 1, by go_num, by omega, by omega, HBB.out⟩
          case measure => simp [intOf]; omega
        · have jz : ¬ (j : Int) ≤ 4 := by omega
          have HR1 := Lib.hid (right_any (some ⟨g, 0, none⟩) L c q es wr (HEX.out.keep (Keeps.of_below HBQ.out)) HNC.out HN1.out q1 q4 (HT.out.below HBR.out hw1) (by have := HBR.out.size; omega))
          go_wp2_with fail
          refine HR1.out.mono ?_
          rintro e9 wA ⟨rfl, hbA⟩
          have hbA2 := HBQ.out.trans (hbA.mono HBQ.out.size)
          have HR2 := Lib.hid (rRight_any (some ⟨g, 0, none⟩) L c q es wA (HEX.out.keep (Keeps.of_below hbA2)) HN1.out q1 q4)
          have HBA := Lib.hid (HBR.out.trans (hbA.mono HBR.out.size))
          clear hbA hbA2 HR1
          go_wp2_with fail
          refine HR2.out.mono ?_
          rintro e9 wB ⟨rfl, hbB⟩
          have HBB := Lib.hid (HBA.out.trans (hbB.mono HBA.out.size))
          obtain ⟨b, hb⟩ : ∃ b, b = planB es q := ⟨_, rfl⟩
          have beq : (b == b) = true := by simp
          rw [← hb]
          clear hbB HR2 hb
          go_wp2
          go_ret
          exact ⟨rfl, HBB.out⟩
  · have dl0 : (40 : Int) < (len0 : Int) := by omega
    go_wp2
    go_ret
    exact ⟨rfl, HB1.out⟩
end Go.Proofs.YtbmdiiifhccebaaDoor
