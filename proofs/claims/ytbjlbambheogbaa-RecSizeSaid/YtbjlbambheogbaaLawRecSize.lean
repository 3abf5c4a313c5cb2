/- The walk of the law RecSize: the Go text returns true, and writes nothing that was there. -/
import Derived.Test.YtbjlbambheogbaaFactsLaw
import Derived.IntWalk
namespace Go.Proofs.Ytbjlbambheogbaa
open Go.RowKit
set_option maxRecDepth 100000 in
set_option maxHeartbeats 4000000 in
theorem size_walk (a0 : Int) (a1 : Option Addr) (len1 cap1 : Nat) (z1 : List Int) (a2 : Int) (a3 : Option Addr) (len3 cap3 : Nat) (z3 : List Int) (w : World) (h0 : inK .i64 a0) (w1 : IsRow .i64 w a1 len1 cap1 z1) (h2 : inK .i64 a2) (w3 : IsRow .i64 w a3 len3 cap3 z3) :
    Calls Try.prog 11 #[.int .i64 a0, .slice a1 len1 cap1, .int .i64 a2, .slice a3 len3 cap3] w fun e w' => e = .returned (.bool true) ∧ Below w.heap.size w w' := by
  obtain ⟨n1, lc1, cm1⟩ := w1.nums
  obtain ⟨n3, lc3, cm3⟩ := w3.nums
  have N1 := Lib.hid n1
  have N3 := Lib.hid n3
  clear w1 w3 n1 n3
  go_enter Try.func11, Try.ntmps11
  go_wp2_with fail
  refine (known_any w).mono ?_
  rintro e w1 ⟨rfl, hb1⟩
  have Hb1 := Lib.hid hb1
  clear hb1
  go_wp2_with fail
  refine (Facts_res a0 a2 a1 a3 len1 cap1 len3 cap3 _ _ w1 (N1.out.keep (Keeps.of_below Hb1.out)) (N3.out.keep (Keeps.of_below Hb1.out)) (by omega) (by omega) h0 h2).mono ?_
  rintro e w2 ⟨A, c, D, d, C, q, mm, m, cs, l, rfl, hF⟩
  have F := Lib.hid hF
  obtain ⟨k1, k2, k3, k4⟩ : 1 ≤ q ∧ q ≤ 4 ∧ mm ≤ 2 ∧ m ≤ 40 := ⟨hF.q1, hF.q4, hF.m2, hF.m40⟩
  clear hF
  go_upto_region 5 with (fail)
  have hs := Box2.new w2 24 (.slice A q c) (.int .i64 mm)
  have hb := (Below.refl w2.heap.size w2).alloc (Nat.le_refl _) (.cells #[.slice A q c, .int .i64 mm] 24)
  obtain ⟨p, hp⟩ : ∃ p, p = m * (q + 8 * mm) := ⟨_, rfl⟩
  have hpi : (m : Int) * ((q : Int) + 8 * (mm : Int)) = (p : Int) := by rw [hp]; push_cast; rfl
  have hp8 : p ≤ 40 * 20 := by rw [hp]; exact Nat.mul_le_mul k4 (by omega)
  have hbd : Below w2.heap.size w2 (w2.alloc (.cells #[.slice A q c, .int .i64 mm] 24)).drew := below_drewN hb 1
  have hE := Encode_any A D q c m d cs mm l (w2.alloc (.cells #[.slice A q c, .int .i64 mm] 24)).drew (F.out.nums.keep (Keeps.of_below hbd)) (F.out.facts.keep (Keeps.of_below hbd)) (by omega) F.out.right
  have hlen : (encB cs (mm : Int) l).length = 8 + q + p := by rw [F.out.enc_len, hp]
  unfold NewBytes at hE
  rw [hlen] at hE
  have HE := Lib.hid hE
  have c1 := hs.cell1
  have c0 := hs.cell0
  have hsl := hs.lt
  have Hs := Lib.hid hs
  have Hb := Lib.hid (Hb1.out.trans ((F.out.below.trans (hb.mono F.out.below.size)).mono Hb1.out.size))
  have e1 : IntKind.i64.wrap (8 * (mm : Int)) = 8 * (mm : Int) := IntWalk.i64_in _ (by omega)
  have e2 : IntKind.i64.wrap ((q : Int) + 8 * (mm : Int)) = (q : Int) + 8 * (mm : Int) := IntWalk.i64_in _ (by omega)
  have e3 : IntKind.i64.wrap ((m : Int) * ((q : Int) + 8 * (mm : Int))) = (p : Int) := by rw [hpi]; exact IntWalk.i64_in _ (by omega)
  have e4 : IntKind.i64.wrap (8 + (q : Int)) = 8 + (q : Int) := IntWalk.i64_in _ (by omega)
  have e5 : IntKind.i64.wrap (8 + (q : Int) + (p : Int)) = 8 + (q : Int) + (p : Int) := IntWalk.i64_in _ (by omega)
  clear hb hbd hs hE hlen hp hpi
  generalize w2.alloc _ = wb at HE c0 c1 hsl Hs Hb ⊢
  obtain ⟨S, hS⟩ : ∃ S, S = w2.heap.size := ⟨_, rfl⟩
  rw [← hS] at c0 c1 hsl Hs ⊢
  clear hS
  go_region_law (first | (go_simp; go_at_call 22; refine HE.out.mono ?_; rintro e w3 ⟨g, rfl, hbuf, hb3, hg⟩; have c1' := ((Hs.out.drewN 1).below hb3 hsl).cell1; have Hb3 := Lib.hid hb3; clear hbuf hb3 hg) | fail)
  all_goals
    go_wp2
    go_ret
    exact ⟨rfl, (show Below w.heap.size w wb.drew from below_drewN Hb.out 1).trans (Hb3.out.mono (by exact Hb.out.size))⟩
end Go.Proofs.Ytbjlbambheogbaa
