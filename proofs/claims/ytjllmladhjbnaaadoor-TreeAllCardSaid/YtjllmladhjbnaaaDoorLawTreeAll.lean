/- The law TreeAll. -/
import Derived.IntWalk
import Derived.Test.YtjllmladhjbnaaaDoorKn11
import Derived.Test.YtjllmladhjbnaaaDoorL8
import Derived.Test.YtjllmladhjbnaaaDoorRegion
import Derived.Test.YtjllmladhjbnaaaDoorRegP
import Derived.Test.YtjllmladhjbnaaaDoorRtree
import Derived.Test.YtjllmladhjbnaaaDoorSameE
import Derived.Test.YtjllmladhjbnaaaDoorRrig
namespace Go.Proofs.YtjllmladhjbnaaaDoor
open Go.RowKit Go.Shelf
attribute [local go_sem] Oper.semAt_some
set_option maxRecDepth 100000 in
set_option maxHeartbeats 8000000 in
theorem treeAll_walk (a0 : Int) (a1 : Option Addr) (len1 cap1 : Nat) (z1 : List Int) (a2 : Int) (w : World) (h0 : inK .i64 a0) (w1 : IsRow .i64 w a1 len1 cap1 z1) (h2 : inK .i64 a2) (hT : Tab w) (hw1 : 1 < w.heap.size) :
    Calls Tryd.prog 3 #[.int .i64 a0, .slice a1 len1 cap1, .int .i64 a2] w fun e w' => e = .returned (.bool true) ∧ Below w.heap.size w w' := by
  obtain ⟨n1, lc1, cm1⟩ := w1.nums
  have N1 := Lib.hid n1
  have HKn := Lib.hid (known11_any w hT hw1)
  have HT := Lib.hid hT
  clear w1 n1 hT
  go_enter Tryd.func3, Tryd.ntmps3
  go_wp2_with fail
  refine HKn.out.mono ?_
  rintro e w1 ⟨rfl, hb1⟩
  have Hb1 := Lib.hid hb1
  clear hb1 HKn
  go_wp2_with fail
  refine (Facts_res a0 0 a1 none len1 cap1 0 0 _ [] w1 (N1.out.keep (Keeps.of_below Hb1.out)) (Nums.nil _ _ _) (by omega) (by omega) h0 (by constructor <;> omega)).mono ?_
  rintro e w2 ⟨A, c, D, d, C, q, mm, m, cs, l, rfl, hF⟩
  obtain ⟨k1, k2, k3⟩ : 1 ≤ q ∧ q ≤ 4 ∧ mm ≤ 2 := ⟨hF.q1, hF.q4, hF.m2⟩
  have hb2 : Below w.heap.size w w2 := Hb1.out.trans (hF.below.mono Hb1.out.size)
  have hck : checkB cs (mm : Int) = true := by rw [hF.ecs, hF.emm]; exact fCards_check _ _ _
  have hcl := hF.eq
  obtain ⟨W3, hW3⟩ : ∃ W3, W3 = w2.alloc (.cells #[.slice A q c, .int .i64 mm] 25) := ⟨_, rfl⟩
  have hb3 : Below w.heap.size w W3 := by rw [hW3]; exact hb2.alloc hb2.size _
  have hbx : Bx W3 w2.heap.size #[.slice A q c, .int .i64 mm] := by rw [hW3]; exact Bx.new _ _ _
  have hnq : Nums .i64 W3 A q cs := by rw [hW3]; exact hF.nums.keep (Keeps.of_below (below_box w2 _))
  have HFQ := Lib.hid (fun (n : Int) (W : World) (hb : Below W3.heap.size W3 W) (n0 : 0 ≤ n) (n3 : n ≤ 300) => (⟨hnq.keep (Keeps.of_below hb), k1, k2, k3, hF.c16, n0, n3, HT.out.below (hb3.trans (hb.mono hb3.size)) hw1, by have := hb3.size; have := hb.size; omega⟩ : FQ W A q mm cs n))
  have HGD := Lib.hid (fun (n : Int) (n0 : 0 ≤ n) (n3 : n ≤ 300) => (⟨hF.c16, by omega, by omega, n0, n3⟩ : Good cs n))
  have HNQ := Lib.hid hnq
  have HCK := Lib.hid hck
  have HB3 := Lib.hid hb3
  have HBX := Lib.hid hbx
  have HW3 := Lib.hid hW3
  have hg3 : w2.heap.size < W3.heap.size := block_lt (hbx 0 _ rfl)
  clear hF hnq hb3 hb2 hbx hck hW3
  have HWI := Lib.hid (lwithin11 a2 301 W3 h2 (by omega) (by omega))
  obtain ⟨r, hr⟩ : ∃ r, r = a2 % 301 := ⟨_, rfl⟩
  rw [← hr] at HWI
  have r0 : 0 ≤ r := by omega
  have r3 : r ≤ 300 := by omega
  have HPL := Lib.hid (tplan_any A q c mm cs r W3 (HFQ.out r W3 (Below.refl _ _) r0 r3) HCK.out)
  have hrp := tree_right r (cs := cs) (by omega) (by omega)
  rw [hcl] at hrp
  have HTM := Lib.hid (fun e (h : e ∈ treeM cs r) => h)
  obtain ⟨es, hes⟩ : ∃ es, es = treeM cs r := ⟨_, rfl⟩
  rw [← hes] at HPL hrp
  have hlen : es.length = 2 ^ q := by rw [← setsL_len q k1 k2, ← hrp.sets, List.length_map]
  have hin := right_in k1 k2 hrp
  have HIN := Lib.hid hin
  obtain ⟨N, hN⟩ : ∃ N, N = 2 ^ q := ⟨_, rfl⟩
  have n16 := pow_16 q k2
  rw [← hN] at hlen n16
  have x0 : W3.cell? ⟨w2.heap.size, 0, none⟩ = some (.slice A q c) := HBX.out 0 _ rfl
  have x1 : W3.cell? ⟨w2.heap.size, 1, none⟩ = some (.int .i64 mm) := HBX.out 1 _ rfl
  have HES := Lib.hid hes
  have HRP := Lib.hid hrp
  have HNN := Lib.hid hN
  clear hr hes hin hN hrp HTM
  go_wp2_with fail
  rw [← HW3.out]
  refine HWI.out.mono ?_
  rintro e w' ⟨rfl, rfl⟩
  go_wp2_with fail
  refine HPL.out.mono ?_
  rintro e w4 ⟨v, rfl, ho, hb4⟩
  obtain ⟨P, cP, rfl, hE, hnc⟩ := ho.form2 HIN.out
  rw [hlen] at hE hnc ⊢
  have HE := Lib.hid hE
  have HB4 := Lib.hid hb4
  have HX4 := Lib.hid (HBX.out.keep (Keeps.of_below hb4))
  clear hE hb4 ho x0 x1
  have hfq4 := HFQ.out r w4 HB4.out r0 r3
  have HRT := Lib.hid (rtplan_any A q c mm cs r w4 hfq4)
  rw [← HES.out] at HRT
  have hpb := (plan_iff k1 k2 es).2 HRP.out
  have y0 : w4.cell? ⟨w2.heap.size, 0, none⟩ = some (.slice A q c) := HX4.out 0 _ rfl
  have y1 : w4.cell? ⟨w2.heap.size, 1, none⟩ = some (.int .i64 mm) := HX4.out 1 _ rfl
  have HBW4 := Lib.hid (HB3.out.trans (HB4.out.mono HB3.out.size))
  have HPB := Lib.hid hpb
  clear hfq4 hpb
  go_wp2_with fail
  refine HRT.out.mono ?_
  rintro e w5 ⟨v5, rfl, ho5, hb5⟩
  obtain ⟨P5, c5, rfl, hE5, -⟩ := ho5.form2 HIN.out
  rw [hlen] at hE5 ⊢
  have HSA := Lib.hid (sameE_any P P5 N cP c5 es w5 (HE.out.keep (Keeps.of_below hb5)) hE5 (by omega))
  have HX5 := Lib.hid (HX4.out.keep (Keeps.of_below hb5))
  have HE5 := Lib.hid (HE.out.keep (Keeps.of_below hb5))
  have HBW5 := Lib.hid (HBW4.out.trans (hb5.mono HBW4.out.size))
  clear hb5 hE5 ho5 y0 y1
  go_wp2_with fail
  refine HSA.out.mono ?_
  rintro e w6 ⟨rfl, hb6⟩
  have HX6 := Lib.hid (HX5.out.keep (Keeps.of_below hb6))
  have HR := Lib.hid (rRight_any P N cP q es w6 (HE5.out.keep (Keeps.of_below hb6)) (by omega) k1 k2)
  rw [HPB.out] at HR
  have HBW6 := Lib.hid (HBW5.out.trans (hb6.mono HBW5.out.size))
  have z0 : w6.cell? ⟨w2.heap.size, 0, none⟩ = some (.slice A q c) := HX6.out 0 _ rfl
  clear hb6
  go_wp2_with fail
  refine HR.out.mono ?_
  rintro e w7 ⟨rfl, hb7⟩
  have HBW7 := Lib.hid (HBW6.out.trans (hb7.mono HBW6.out.size))
  clear hb7
  go_wp2
  go_ret
  exact ⟨rfl, HBW7.out⟩
end Go.Proofs.YtjllmladhjbnaaaDoor
