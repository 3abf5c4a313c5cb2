/- The law LatticeNone. -/
import Derived.Test.YtaopanclnaimpaaDoorL8
import Derived.IntWalk
namespace Go.Proofs.YtaopanclnaimpaaDoor
open Go.RowKit Go.Shelf
attribute [local go_sem] Oper.semAt_some
theorem sizeB_0 {cs : List Int} {k : Int} (hc : ∀ x ∈ cs, 1 ≤ x ∧ x ≤ 16) (h1 : 0 ≤ k) (h2 : k ≤ fullB cs.length) (h4 : cs.length ≤ 4) : sizeB cs 0 k = 0 := by
  have := keysN_bd hc h1 h2 h4
  unfold sizeB
  omega
theorem sizeB_1 {cs : List Int} {k : Int} (hc : ∀ x ∈ cs, 1 ≤ x ∧ x ≤ 16) (h1 : 0 ≤ k) (h2 : k ≤ fullB cs.length) (h4 : cs.length ≤ 4) : sizeB cs 1 k = 1 := by
  have := keysN_bd hc h1 h2 h4
  unfold sizeB
  omega
theorem sortB_0 {cs : List Int} {k : Int} (hc : ∀ x ∈ cs, 1 ≤ x ∧ x ≤ 16) (h1 : 0 ≤ k) (h2 : k ≤ fullB cs.length) (h4 : cs.length ≤ 4) : sortB cs 0 k = 0 := by
  unfold sortB
  rw [sizeB_0 hc h1 h2 h4]
  decide
theorem sortB_1 {cs : List Int} {k : Int} (hc : ∀ x ∈ cs, 1 ≤ x ∧ x ≤ 16) (h1 : 0 ≤ k) (h2 : k ≤ fullB cs.length) (h4 : cs.length ≤ 4) : sortB cs 1 k = 2 := by
  unfold sortB
  rw [sizeB_1 hc h1 h2 h4]
  decide
set_option maxRecDepth 100000 in
set_option maxHeartbeats 8000000 in
theorem latticeNone_walk (a0 : Int) (a1 : Option Addr) (len1 cap1 : Nat) (z1 : List Int) (a2 : Int) (w : World) (h0 : inK .i64 a0) (w1 : IsRow .i64 w a1 len1 cap1 z1) (h2 : inK .i64 a2) (hT : Tab w) (hw1 : 1 < w.heap.size) :
    Calls Tryd.prog 11 #[.int .i64 a0, .slice a1 len1 cap1, .int .i64 a2] w fun e w' => e = .returned (.bool true) ∧ Below w.heap.size w w' := by
  obtain ⟨n1, lc1, cm1⟩ := w1.nums
  have N1 := Lib.hid n1
  have HKn := Lib.hid (known8_any w hT hw1)
  have HT := Lib.hid hT
  clear w1 n1 hT
  go_enter Tryd.func11, Tryd.ntmps11
  go_wp2_with fail
  refine HKn.out.mono ?_
  rintro e w1 ⟨rfl, hb1⟩
  have Hb1 := Lib.hid hb1
  clear hb1 HKn
  go_wp2_with fail
  refine (Facts_res a0 0 a1 none len1 cap1 0 0 _ [] w1 (N1.out.keep (Keeps.of_below Hb1.out)) (Nums.nil _ _ _) (by omega) (by omega) h0 (by constructor <;> omega)).mono ?_
  rintro e w2 ⟨A, c, D, d, C, q, mm, m, cs, l, rfl, hF⟩
  obtain ⟨k1, k2, k3⟩ : 1 ≤ q ∧ q ≤ 4 ∧ mm ≤ 2 := ⟨hF.q1, hF.q4, hF.m2⟩
  have hb2 : Below w.heap.size w w2 := Hb1.out.trans (hF.below.mono Hb1.out.size)
  have CS := Lib.hid hF.c16
  have NQ := Lib.hid hF.nums
  have HLQ := Lib.hid hF.eq
  have hb3 : Below w.heap.size w (w2.alloc (.cells #[.slice A q c, .int .i64 mm] 25)) := hb2.alloc hb2.size _
  have hbx : Box2 25 (w2.alloc (.cells #[.slice A q c, .int .i64 mm] 25)) w2.heap.size (.slice A q c) (.int .i64 mm) := Box2.new _ _ _ _
  have hnq : Nums .i64 (w2.alloc (.cells #[.slice A q c, .int .i64 mm] 25)) A q cs := hF.nums.keep (Keeps.of_below ((Below.refl _ w2).alloc (Nat.le_refl _) _))
  have h31 : 1 < (w2.alloc (.cells #[.slice A q c, .int .i64 mm] 25)).heap.size := by have := hb3.size; omega
  have HB3 := Lib.hid hb3
  have HBX := Lib.hid hbx
  have HNQ := Lib.hid hnq
  obtain ⟨W3, hW3⟩ : ∃ W3, W3 = w2.alloc (.cells #[.slice A q c, .int .i64 mm] 25) := ⟨_, rfl⟩
  rw [← hW3] at HB3 HBX HNQ h31
  have HW3 := Lib.hid hW3
  have HT3 := Lib.hid (HT.out.below HB3.out hw1)
  have hg3 := HBX.out.lt
  obtain ⟨s1, s2⟩ := set8_bd a2 q k1 k2
  have hsh := shl_wrap q k2
  have hsp := pow_bd q k2
  have HWI := Lib.hid (lwithin8 a2 (2 ^ q) W3 h2 hsp.1 (Int.le_trans hsp.2 (by decide)))
  obtain ⟨k, hk⟩ : ∃ k, k = a2 % 2 ^ q := ⟨_, rfl⟩
  rw [← hk] at HWI s1 s2
  obtain ⟨gb, hgb⟩ : ∃ gb, gb = w2.heap.size := ⟨_, rfl⟩
  rw [← hgb] at HBX hg3
  have HGB := Lib.hid hgb
  have c0 := HBX.out.cell0
  have c1 := HBX.out.cell1
  clear hF hnq hb3 hb2 hbx hk hW3 hgb
  have h0HA := fun (W : World) (hb : Below W3.heap.size W3 W) => size_any A q c mm cs 0 k W (HNQ.out.keep (Keeps.of_below hb)) k1 k2 k3 CS.out (by omega) (by omega) s1 s2 (HT3.out.below hb h31) (Nat.lt_of_lt_of_le h31 hb.size)
  rw [show sizeB cs 0 k = 0 from sizeB_0 CS.out s1 (by rw [HLQ.out]; exact s2) (by rw [HLQ.out]; exact k2)] at h0HA
  have HA := Lib.hid h0HA
  clear h0HA
  have h0HB := fun (W : World) (hb : Below W3.heap.size W3 W) => sort_any A q c mm cs 0 k W (HNQ.out.keep (Keeps.of_below hb)) k1 k2 k3 CS.out (by omega) (by omega) s1 s2 (HT3.out.below hb h31) (Nat.lt_of_lt_of_le h31 hb.size)
  rw [show sortB cs 0 k = 0 from sortB_0 CS.out s1 (by rw [HLQ.out]; exact s2) (by rw [HLQ.out]; exact k2)] at h0HB
  have HB := Lib.hid h0HB
  clear h0HB
  have h0HC := fun (W : World) (hb : Below W3.heap.size W3 W) => size_any A q c mm cs 1 k W (HNQ.out.keep (Keeps.of_below hb)) k1 k2 k3 CS.out (by omega) (by omega) s1 s2 (HT3.out.below hb h31) (Nat.lt_of_lt_of_le h31 hb.size)
  rw [show sizeB cs 1 k = 1 from sizeB_1 CS.out s1 (by rw [HLQ.out]; exact s2) (by rw [HLQ.out]; exact k2)] at h0HC
  have HC := Lib.hid h0HC
  clear h0HC
  have h0HD := fun (W : World) (hb : Below W3.heap.size W3 W) => scan_any A q c mm cs 1 k W (HNQ.out.keep (Keeps.of_below hb)) k1 k2 k3 CS.out (by omega) (by omega) s1 s2 (HT3.out.below hb h31) (Nat.lt_of_lt_of_le h31 hb.size)
  rw [show sizeB cs 1 k = 1 from sizeB_1 CS.out s1 (by rw [HLQ.out]; exact s2) (by rw [HLQ.out]; exact k2)] at h0HD
  have HD := Lib.hid h0HD
  clear h0HD
  have h0HE := fun (W : World) (hb : Below W3.heap.size W3 W) => sort_any A q c mm cs 1 k W (HNQ.out.keep (Keeps.of_below hb)) k1 k2 k3 CS.out (by omega) (by omega) s1 s2 (HT3.out.below hb h31) (Nat.lt_of_lt_of_le h31 hb.size)
  rw [show sortB cs 1 k = 2 from sortB_1 CS.out s1 (by rw [HLQ.out]; exact s2) (by rw [HLQ.out]; exact k2)] at h0HE
  have HE := Lib.hid h0HE
  clear h0HE
  have B0 := Lib.hid (Below.refl W3.heap.size W3)
  go_wp2_with fail
  rw [← HW3.out, ← HGB.out]
  have c0 := HBX.out.cell0
  have c1 := HBX.out.cell1
  go_wp2_with fail
  refine HWI.out.mono ?_
  rintro e w' ⟨rfl, rfl⟩
  go_wp2_with fail
  refine (HA.out _ B0.out).mono ?_
  rintro e v1 ⟨rfl, hb⟩
  have B1 := Lib.hid (B0.out.trans (hb.mono B0.out.size))
  have hx := HBX.out.below B1.out hg3
  have d0 := hx.cell0
  have d1 := hx.cell1
  clear hb hx
  go_wp2_with fail
  refine (HB.out _ B1.out).mono ?_
  rintro e v2 ⟨rfl, hb⟩
  have B2 := Lib.hid (B1.out.trans (hb.mono B1.out.size))
  have hx := HBX.out.below B2.out hg3
  have d0 := hx.cell0
  have d1 := hx.cell1
  clear hb hx
  go_wp2_with fail
  refine (HC.out _ B2.out).mono ?_
  rintro e v3 ⟨rfl, hb⟩
  have B3 := Lib.hid (B2.out.trans (hb.mono B2.out.size))
  have hx := HBX.out.below B3.out hg3
  have d0 := hx.cell0
  have d1 := hx.cell1
  clear hb hx
  go_wp2_with fail
  refine (HD.out _ B3.out).mono ?_
  rintro e v4 ⟨rfl, hb⟩
  have B4 := Lib.hid (B3.out.trans (hb.mono B3.out.size))
  have hx := HBX.out.below B4.out hg3
  have d0 := hx.cell0
  have d1 := hx.cell1
  clear hb hx
  go_wp2_with fail
  refine (HE.out _ B4.out).mono ?_
  rintro e v5 ⟨rfl, hb⟩
  have B5 := Lib.hid (B4.out.trans (hb.mono B4.out.size))
  have hx := HBX.out.below B5.out hg3
  have d0 := hx.cell0
  have d1 := hx.cell1
  clear hb hx
  go_wp2
  go_ret
  exact ⟨rfl, HB3.out.trans (B5.out.mono HB3.out.size)⟩
end Go.Proofs.YtaopanclnaimpaaDoor
