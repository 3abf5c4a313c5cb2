/- The law SortsKnown. -/
import Derived.Test.YtbmdiiifhccebaaDoorKn10
import Derived.Test.YtbmdiiifhccebaaDoorRcost
import Derived.Test.YtbmdiiifhccebaaDoorRegion
import Derived.IntWalk
namespace Go.Proofs.YtbmdiiifhccebaaDoor
open Go.RowKit Go.Shelf
attribute [local go_sem] Oper.semAt_some
theorem kn_all : (planB (planM [1] 100) 1 = true ∧ costP [1] 100 (planM [1] 100) = 1) ∧ (planB (planM [4] 100) 1 = true ∧ costP [4] 100 (planM [4] 100) = 4) ∧ (planB (planM [2, 3] 100) 2 = true ∧ costP [2, 3] 100 (planM [2, 3] 100) = 32) ∧
    (planB (planM [3, 2] 100) 2 = true ∧ costP [3, 2] 100 (planM [3, 2] 100) = 32) ∧ (planB (planM [1, 1] 100) 2 = true ∧ costP [1, 1] 100 (planM [1, 1] 100) = 4) := by decide +kernel
theorem kn_check : checkB [1] ((0 : Nat) : Int) = true ∧ checkB [4] ((0 : Nat) : Int) = true ∧ checkB [2, 3] ((0 : Nat) : Int) = true ∧ checkB [3, 2] ((0 : Nat) : Int) = true ∧ checkB [1, 1] ((0 : Nat) : Int) = true := by decide +kernel
theorem bx_nums {w W : World} {g : Nat} {xs : List Int} (h : Arr .i64 3 w g xs) (hk : Keeps w W) (hb : ∀ x ∈ xs, inK .i64 x) : Nums .i64 W (some ⟨g, 0, none⟩) xs.length xs := (h.nums hb).keep hk
set_option maxRecDepth 100000 in
set_option maxHeartbeats 8000000 in
theorem sortsKnown_walk (a0 : Int) (w : World) (h0 : inK .i64 a0) (hT : Tab w) (hw1 : 1 < w.heap.size) :
    Calls Tryd.prog 7 #[.int .i64 a0] w fun e w' => e = .returned (.bool true) ∧ Below w.heap.size w w' := by
  have HKn := Lib.hid (known10_any w hT hw1)
  have HT := Lib.hid hT
  clear hT
  go_enter Tryd.func7, Tryd.ntmps7
  go_wp2_with fail
  refine HKn.out.mono ?_
  rintro e w1 ⟨rfl, hb1⟩
  obtain ⟨u1, hu1⟩ : ∃ u, u = w1.alloc (.cells #[.int .i64 1] 3) := ⟨_, rfl⟩
  obtain ⟨u2, hu2⟩ : ∃ u, u = u1.alloc (.cells #[.int .i64 4] 3) := ⟨_, rfl⟩
  obtain ⟨u3, hu3⟩ : ∃ u, u = u2.alloc (.cells #[.int .i64 2, .int .i64 3] 3) := ⟨_, rfl⟩
  obtain ⟨u4, hu4⟩ : ∃ u, u = u3.alloc (.cells #[.int .i64 3, .int .i64 2] 3) := ⟨_, rfl⟩
  obtain ⟨u5, hu5⟩ : ∃ u, u = u4.alloc (.cells #[.int .i64 1, .int .i64 1] 3) := ⟨_, rfl⟩
  have a1 : Arr .i64 3 u1 w1.heap.size [1] := by rw [hu1]; exact heap_alloc_new w1 _
  have a2 : Arr .i64 3 u2 u1.heap.size [4] := by rw [hu2]; exact heap_alloc_new u1 _
  have a3 : Arr .i64 3 u3 u2.heap.size [2, 3] := by rw [hu3]; exact heap_alloc_new u2 _
  have a4 : Arr .i64 3 u4 u3.heap.size [3, 2] := by rw [hu4]; exact heap_alloc_new u3 _
  have a5 : Arr .i64 3 u5 u4.heap.size [1, 1] := by rw [hu5]; exact heap_alloc_new u4 _
  have b1 : Below w1.heap.size w1 u1 := by rw [hu1]; exact below_box w1 _
  have b2 : Below u1.heap.size u1 u2 := by rw [hu2]; exact below_box u1 _
  have b3 : Below u2.heap.size u2 u3 := by rw [hu3]; exact below_box u2 _
  have b4 : Below u3.heap.size u3 u4 := by rw [hu4]; exact below_box u3 _
  have b5 : Below u4.heap.size u4 u5 := by rw [hu5]; exact below_box u4 _
  have z1 : u1.heap.size = w1.heap.size + 1 := by rw [hu1]; simp
  have z2 : u2.heap.size = w1.heap.size + 2 := by rw [hu2]; simp; omega
  have z3 : u3.heap.size = w1.heap.size + 3 := by rw [hu3]; simp; omega
  have z4 : u4.heap.size = w1.heap.size + 4 := by rw [hu4]; simp; omega
  have z5 : u5.heap.size = w1.heap.size + 5 := by rw [hu5]; simp; omega
  rw [z1] at a2; rw [z2] at a3; rw [z3] at a4; rw [z4] at a5
  obtain ⟨g0, hg0⟩ : ∃ g, g = w1.heap.size := ⟨_, rfl⟩
  obtain ⟨u6, hu6⟩ : ∃ u, u = u5.alloc (.cells #[.slice (some ⟨g0, 0, none⟩) 1 1, .int .i64 0, .slice (some ⟨g0 + 1, 0, none⟩) 1 1, .int .i64 0, .slice (some ⟨g0 + 2, 0, none⟩) 2 2, .int .i64 0, .slice (some ⟨g0 + 3, 0, none⟩) 2 2, .int .i64 0, .slice (some ⟨g0 + 4, 0, none⟩) 2 2, .int .i64 0] 32) := ⟨_, rfl⟩
  obtain ⟨u7, hu7⟩ : ∃ u, u = u6.alloc (.cells #[.int .i64 1, .int .i64 4, .int .i64 32, .int .i64 32, .int .i64 4] 3) := ⟨_, rfl⟩
  have b6 : Below u5.heap.size u5 u6 := by rw [hu6]; exact below_box u5 _
  have b7 : Below u6.heap.size u6 u7 := by rw [hu7]; exact below_box u6 _
  have z6 : u6.heap.size = w1.heap.size + 6 := by rw [hu6]; simp; omega
  have hx6 := Bx.new u5 #[.slice (some ⟨g0, 0, none⟩) 1 1, .int .i64 0, .slice (some ⟨g0 + 1, 0, none⟩) 1 1, .int .i64 0, .slice (some ⟨g0 + 2, 0, none⟩) 2 2, .int .i64 0, .slice (some ⟨g0 + 3, 0, none⟩) 2 2, .int .i64 0, .slice (some ⟨g0 + 4, 0, none⟩) 2 2, .int .i64 0] 32
  have hx7 := Bx.new u6 #[.int .i64 1, .int .i64 4, .int .i64 32, .int .i64 32, .int .i64 4] 3
  rw [← hu6, z5] at hx6
  rw [← hu7, z6] at hx7
  have hx67 := hx6.keep (Keeps.of_below b7)
  have q6 := (Keeps.of_below b6).trans (Keeps.of_below b7)
  have q5 := (Keeps.of_below b5).trans q6
  have q4 := (Keeps.of_below b4).trans q5
  have q3 := (Keeps.of_below b3).trans q4
  have q2 := (Keeps.of_below b2).trans q3
  have n1 := bx_nums a1 q2 (by intro x hx; simp at hx; subst hx; constructor <;> omega)
  have n2 := bx_nums a2 q3 (by intro x hx; simp at hx; subst hx; constructor <;> omega)
  have n3 := bx_nums a3 q4 (by intro x hx; simp at hx; rcases hx with rfl | rfl <;> constructor <;> omega)
  have n4 := bx_nums a4 q5 (by intro x hx; simp at hx; rcases hx with rfl | rfl <;> constructor <;> omega)
  have n5 := bx_nums a5 q6 (by intro x hx; simp at hx; subst hx; constructor <;> omega)
  rw [← hg0] at n1 n2 n3 n4 n5 hx67 hx7
  have bw : Below w1.heap.size w1 u7 := by
    have c1 := b1.trans (b2.mono (by omega))
    have c2 := c1.trans (b3.mono (by omega))
    have c3 := c2.trans (b4.mono (by omega))
    have c4 := c3.trans (b5.mono (by omega))
    have c5 := c4.trans (b6.mono (by omega))
    exact c5.trans (b7.mono (by omega))
  have BW := Lib.hid (hb1.trans (bw.mono hb1.size))
  have hT7 := HT.out.below BW.out hw1
  have hz7 : 1 < u7.heap.size := by have := BW.out.size; omega
  obtain ⟨k, hk⟩ : ∃ k : Nat, a0 % 5 = (k : Int) := ⟨(a0 % 5).toNat, by omega⟩
  have hk5 : k < 5 := by omega
  obtain ⟨⟨c11, c12⟩, ⟨c21, c22⟩, ⟨c31, c32⟩, ⟨c41, c42⟩, c51, c52⟩ := kn_all
  obtain ⟨d1, d2, d3, d4, d5⟩ := kn_check
  have hcase : ∃ (A : Option Addr) (q : Nat) (cs : List Int) (wv : Int), FQ u7 A q 0 cs 100 ∧ checkB cs ((0 : Nat) : Int) = true ∧ planB (planM cs 100) q = true ∧ costP cs 100 (planM cs 100) = wv ∧
      u7.cell? ⟨g0 + 5, k * 2, none⟩ = some (.slice A q q) ∧ u7.cell? ⟨g0 + 5, k * 2 + 1, none⟩ = some (.int .i64 0) ∧ u7.cell? ⟨g0 + 6, k, none⟩ = some (.int .i64 wv) := by
    rcases (by omega : k = 0 ∨ k = 1 ∨ k = 2 ∨ k = 3 ∨ k = 4) with rfl | rfl | rfl | rfl | rfl
    · exact ⟨_, 1, [1], 1, ⟨n1, by omega, by omega, by omega, by intro x hx; simp at hx; omega, by omega, by omega, hT7, hz7⟩, d1, c11, c12, hx67 0 _ rfl, hx67 1 _ rfl, hx7 0 _ rfl⟩
    · exact ⟨_, 1, [4], 4, ⟨n2, by omega, by omega, by omega, by intro x hx; simp at hx; omega, by omega, by omega, hT7, hz7⟩, d2, c21, c22, hx67 2 _ rfl, hx67 3 _ rfl, hx7 1 _ rfl⟩
    · exact ⟨_, 2, [2, 3], 32, ⟨n3, by omega, by omega, by omega, by intro x hx; simp at hx; omega, by omega, by omega, hT7, hz7⟩, d3, c31, c32, hx67 4 _ rfl, hx67 5 _ rfl, hx7 2 _ rfl⟩
    · exact ⟨_, 2, [3, 2], 32, ⟨n4, by omega, by omega, by omega, by intro x hx; simp at hx; omega, by omega, by omega, hT7, hz7⟩, d4, c41, c42, hx67 6 _ rfl, hx67 7 _ rfl, hx7 3 _ rfl⟩
    · exact ⟨_, 2, [1, 1], 4, ⟨n5, by omega, by omega, by omega, by intro x hx; simp at hx; omega, by omega, by omega, hT7, hz7⟩, d5, c51, c52, hx67 8 _ rfl, hx67 9 _ rfl, hx7 4 _ rfl⟩
  obtain ⟨A, q, cs, wv, hfq, hck, hpb, hcp, x0, x1, x2⟩ := hcase
  have HW7 := Lib.hid (show u7 = ((((((w1.alloc (.cells #[.int .i64 1] 3)).alloc (.cells #[.int .i64 4] 3)).alloc (.cells #[.int .i64 2, .int .i64 3] 3)).alloc (.cells #[.int .i64 3, .int .i64 2] 3)).alloc (.cells #[.int .i64 1, .int .i64 1] 3)).alloc (.cells #[.slice (some ⟨w1.heap.size, 0, none⟩) 1 1, .int .i64 0, .slice (some ⟨w1.heap.size + 1, 0, none⟩) 1 1, .int .i64 0, .slice (some ⟨w1.heap.size + 1 + 1, 0, none⟩) 2 2, .int .i64 0, .slice (some ⟨w1.heap.size + 1 + 1 + 1, 0, none⟩) 2 2, .int .i64 0, .slice (some ⟨w1.heap.size + 1 + 1 + 1 + 1, 0, none⟩) 2 2, .int .i64 0] 32)).alloc (.cells #[.int .i64 1, .int .i64 4, .int .i64 32, .int .i64 32, .int .i64 4] 3) by rw [hu7, hu6, hu5, hu4, hu3, hu2, hu1, hg0])
  have HG0 := Lib.hid hg0
  have HFQ := Lib.hid hfq
  have HCK := Lib.hid hck
  have HPB := Lib.hid hpb
  have HCP := Lib.hid hcp
  have HWI := Lib.hid (lwithin10 a0 5 u7 h0 (by omega) (by omega))
  rw [hk] at HWI
  clear hu1 hu2 hu3 hu4 hu5 hu6 hu7 a1 a2 a3 a4 a5 b1 b2 b3 b4 b5 b6 b7 z1 z2 z3 z4 z5 z6 hx6 hx7 hx67 q6 q5 q4 q3 q2 n1 n2 n3 n4 n5 bw hT7 hb1 c11 c12 c21 c22 c31 c32 c41 c42 c51 c52 d1 d2 d3 d4 d5 hfq hck hpb hcp hk hg0 hz7
  go_wp2_with fail
  rw [← HW7.out]
  rw [show w1.heap.size + 1 + 1 + 1 + 1 + 1 + 1 = g0 + 6 by rw [HG0.out], show w1.heap.size + 1 + 1 + 1 + 1 + 1 = g0 + 5 by rw [HG0.out]]
  obtain ⟨gl, hgl⟩ : ∃ gl, gl = g0 + 5 := ⟨_, rfl⟩
  obtain ⟨gw, hgw⟩ : ∃ gw, gw = g0 + 6 := ⟨_, rfl⟩
  rw [← hgl] at x0 x1 ⊢
  rw [← hgw] at x2 ⊢
  have kz : (k : Int) < 5 := by omega
  have kz0 : (0 : Int) ≤ (k : Int) := by omega
  have hcl := HFQ.out.len
  have hrp : RightP q (planM cs 100) := by have := plan_right HFQ.out.good; rwa [hcl] at this
  have hin := right_in HFQ.out.q1 HFQ.out.q4 hrp
  have HPL := Lib.hid (plan_any A q q 0 cs 100 u7 HFQ.out HCK.out)
  have hcb : costB cs 100 (planM cs 100) = wv := by
    unfold costB
    rw [hcl, HPB.out, if_pos rfl, HCP.out]
  have HCB := Lib.hid hcb
  obtain ⟨es, hes⟩ : ∃ es, es = planM cs 100 := ⟨_, rfl⟩
  rw [← hes] at HPL HPB HCP HCB hrp hin
  have he16 : es.length ≤ 1000 := by
    have : es.length = 2 ^ q := by rw [← setsL_len q HFQ.out.q1 HFQ.out.q4, ← hrp.sets, List.length_map]
    rw [this]; have := (pow_16 q HFQ.out.q4).1; omega
  have HIN := Lib.hid hin
  have HRP := Lib.hid hrp
  have HCL := Lib.hid hcl
  clear hgl hgw hcl hrp hin hcb hes HG0
  go_wp2_with fail
  refine HWI.out.mono ?_
  rintro e w' ⟨rfl, rfl⟩
  go_wp2_with fail
  refine HPL.out.mono ?_
  rintro e w4 ⟨v, rfl, ho, hb4⟩
  obtain ⟨P, cP, rfl, hE, hnc⟩ := ho.form2 HIN.out
  obtain ⟨N, hN⟩ : ∃ N, N = es.length := ⟨_, rfl⟩
  rw [← hN] at hE hnc he16 ⊢
  have k4 := Keeps.of_below hb4
  have y0 := k4 _ _ x0
  have y1 := k4 _ _ x1
  have y2 := k4 _ _ x2
  have HB4 := Lib.hid hb4
  have HE := Lib.hid hE
  have hbd : Below u7.heap.size u7 w4.drew := hb4.drew
  have HCA := Lib.hid (cost_any A q q 0 cs 100 P N cP es w4.drew (HFQ.out.below hbd (Nat.le_refl _)) HCK.out (hE.keep (Keeps.of_below (Below.refl _ w4).drew)) hnc he16)
  rw [HCB.out] at HCA
  clear hE hb4 ho hN x0 x1 x2 k4 hbd
  go_wp2_with fail
  refine wp_region_held_drew (S := fun W => W.cell? ⟨gl, k * 2, none⟩ = some (.slice A q q) ∧ W.cell? ⟨gl, k * 2 + 1, none⟩ = some (.int .i64 0) ∧ W.cell? ⟨gw, k, none⟩ = some (.int .i64 wv)) (by kernel_rfl) ⟨y0, y1, y2⟩ (fun hHeld => ?_)
  refine wpAnyH_take (i := 0) (v := ?va0) rfl (by kernel_rfl) (by kernel_rfl) (by kernel_rfl) (fun _ _ _ h => h) (Or.inl ⟨by rfl, ?ya0⟩) hHeld ?ra0
  case ya0 => (intro W hW; obtain ⟨hW0, hW1, hW2⟩ := hW; go_simp; first | done | with_reducible rfl)
  try simp only [List.getElem_toArray, List.getElem_cons_zero, Act.put, List.setIfInBounds_toArray, List.set_cons_zero, List.set_cons_succ]
  refine wpAnyH_take (i := 1) (v := ?va1) rfl (by kernel_rfl) (by kernel_rfl) (by kernel_rfl) (fun _ _ _ h => h) (Or.inl ⟨by rfl, ?ya1⟩) hHeld ?ra1
  case ya1 => (intro W hW; obtain ⟨hW0, hW1, hW2⟩ := hW; go_simp; first | done | with_reducible rfl)
  try simp only [List.getElem_toArray, List.getElem_cons_succ, List.getElem_cons_zero, Act.put, List.setIfInBounds_toArray, List.set_cons_zero, List.set_cons_succ]
  refine wpAnyH_take (i := 2) (v := ?va2) rfl (by kernel_rfl) (by kernel_rfl) (by kernel_rfl) (fun _ _ _ h => h) (Or.inl ⟨by rfl, ?ya2⟩) hHeld ?ra2
  case ya2 => (intro W hW; obtain ⟨hW0, hW1, hW2⟩ := hW; go_simp; first | done | with_reducible rfl)
  try simp only [List.getElem_toArray, List.getElem_cons_succ, List.getElem_cons_zero, Act.put, List.setIfInBounds_toArray, List.set_cons_zero, List.set_cons_succ]
  refine wpAnyH_take (i := 3) (v := ?va3) rfl (by kernel_rfl) (by kernel_rfl) (by kernel_rfl) (fun _ _ _ h => h) (Or.inl ⟨by rfl, ?ya3⟩) hHeld ?ra3
  case ya3 => (intro W hW; obtain ⟨hW0, hW1, hW2⟩ := hW; go_simp; first | done | with_reducible rfl)
  try simp only [List.getElem_toArray, List.getElem_cons_succ, List.getElem_cons_zero, Act.put, List.setIfInBounds_toArray, List.set_cons_zero, List.set_cons_succ]
  refine wpAnyH_take (i := 4) (v := ?va4) rfl (by kernel_rfl) (by kernel_rfl) (by kernel_rfl) (fun _ _ _ h => h) (Or.inl ⟨by rfl, ?ya4⟩) hHeld ?ra4
  case ya4 => (intro W hW; obtain ⟨hW0, hW1, hW2⟩ := hW; go_simp; first | done | with_reducible rfl)
  try simp only [List.getElem_toArray, List.getElem_cons_succ, List.getElem_cons_zero, Act.put, List.setIfInBounds_toArray, List.set_cons_zero, List.set_cons_succ]
  refine wpAnyH_take (i := 6) (v := ?va6) rfl (by kernel_rfl) (by kernel_rfl) (by kernel_rfl) (fun _ _ _ h => h) (Or.inl ⟨by rfl, ?ya6⟩) hHeld ?ra6
  case ya6 => (intro W hW; obtain ⟨hW0, hW1, hW2⟩ := hW; go_simp; first | done | with_reducible rfl)
  try simp only [List.getElem_toArray, List.getElem_cons_succ, List.getElem_cons_zero, Act.put, List.setIfInBounds_toArray, List.set_cons_zero, List.set_cons_succ]
  refine wpAnyH_take (i := 7) (v := ?va7) rfl (by kernel_rfl) (by kernel_rfl) (by kernel_rfl) (fun _ _ _ h => h) (Or.inl ⟨by rfl, ?ya7⟩) hHeld ?ra7
  case ya7 => (intro W hW; obtain ⟨hW0, hW1, hW2⟩ := hW; go_simp; first | done | with_reducible rfl)
  try simp only [List.getElem_toArray, List.getElem_cons_succ, List.getElem_cons_zero, Act.put, List.setIfInBounds_toArray, List.set_cons_zero, List.set_cons_succ]
  refine wpAnyH_take (i := 8) (v := ?va8) rfl (by kernel_rfl) (by kernel_rfl) (by kernel_rfl) (fun _ _ _ h => h) (Or.inl ⟨by rfl, ?ya8⟩) hHeld ?ra8
  case ya8 => (intro W hW; obtain ⟨hW0, hW1, hW2⟩ := hW; go_simp; first | done | with_reducible rfl)
  try simp only [List.getElem_toArray, List.getElem_cons_succ, List.getElem_cons_zero, Act.put, List.setIfInBounds_toArray, List.set_cons_zero, List.set_cons_succ]
  refine wpAnyH_take (i := 9) (v := ?va9) rfl (by kernel_rfl) (by kernel_rfl) (by kernel_rfl) (fun _ _ _ h => h) (Or.inl ⟨by rfl, ?ya9⟩) hHeld ?ra9
  case ya9 => (intro W hW; obtain ⟨hW0, hW1, hW2⟩ := hW; go_simp; first | done | with_reducible rfl)
  try simp only [List.getElem_toArray, List.getElem_cons_succ, List.getElem_cons_zero, Act.put, List.setIfInBounds_toArray, List.set_cons_zero, List.set_cons_succ]
  refine wpAnyH_ready (rs := [5]) (by kernel_rfl) (by simp) ?_
  refine AllReadyH.cons rfl (fun K hK => ?_) (AllReadyH.nil)
  go_simp
  refine HCA.out.mono ?_
  rintro e w5 ⟨rfl, hb5⟩
  have k5 := Keeps.of_below hb5
  have HB5 := Lib.hid ((HB4.out.drew).trans (hb5.mono HB4.out.size))
  have HE5 := Lib.hid (HE.out.keep k5)
  have hf5 := HFQ.out.below HB5.out (Nat.le_refl _)
  have hr5 := right_any P N cP q es w5 HE5.out hnc he16 hf5.q1 hf5.q4 hf5.tab hf5.w1
  rw [HPB.out] at hr5
  have HR5 := Lib.hid hr5
  clear hb5 hf5 hr5
  refine hK.out _ _ (⟨k5 _ _ y0, k5 _ _ y1, k5 _ _ y2⟩) (fun hHeld => ?_)
  clear hK K
  try simp only [List.getElem_toArray, List.getElem_cons_succ, List.getElem_cons_zero, Act.put, List.setIfInBounds_toArray, List.set_cons_zero, List.set_cons_succ]
  refine wpAnyH_take (i := 10) (v := ?va10) rfl (by kernel_rfl) (by kernel_rfl) (by kernel_rfl) (fun _ _ _ h => h) (Or.inl ⟨by rfl, ?ya10⟩) hHeld ?ra10
  case ya10 => (intro W hW; obtain ⟨hW0, hW1, hW2⟩ := hW; go_simp; first | done | with_reducible rfl)
  try simp only [List.getElem_toArray, List.getElem_cons_succ, List.getElem_cons_zero, Act.put, List.setIfInBounds_toArray, List.set_cons_zero, List.set_cons_succ]
  refine wpAnyH_take (i := 11) (v := ?va11) rfl (by kernel_rfl) (by kernel_rfl) (by kernel_rfl) (fun _ _ _ h => h) (Or.inl ⟨by rfl, ?ya11⟩) hHeld ?ra11
  case ya11 => (intro W hW; obtain ⟨hW0, hW1, hW2⟩ := hW; go_simp; first | done | with_reducible rfl)
  try simp only [List.getElem_toArray, List.getElem_cons_succ, List.getElem_cons_zero, Act.put, List.setIfInBounds_toArray, List.set_cons_zero, List.set_cons_succ]
  refine wpAnyH_take (i := 12) (v := ?va12) rfl (by kernel_rfl) (by kernel_rfl) (by kernel_rfl) (fun _ _ _ h => h) (Or.inl ⟨by rfl, ?ya12⟩) hHeld ?ra12
  case ya12 => (intro W hW; obtain ⟨hW0, hW1, hW2⟩ := hW; go_simp; first | done | with_reducible rfl)
  try simp only [List.getElem_toArray, List.getElem_cons_succ, List.getElem_cons_zero, Act.put, List.setIfInBounds_toArray, List.set_cons_zero, List.set_cons_succ]
  refine wpAnyH_take (i := 13) (v := ?va13) rfl (by kernel_rfl) (by kernel_rfl) (by kernel_rfl) (fun _ _ _ h => h) (Or.inl ⟨by rfl, ?ya13⟩) hHeld ?ra13
  case ya13 => (intro W hW; obtain ⟨hW0, hW1, hW2⟩ := hW; go_simp; first | done | with_reducible rfl)
  try simp only [List.getElem_toArray, List.getElem_cons_succ, List.getElem_cons_zero, Act.put, List.setIfInBounds_toArray, List.set_cons_zero, List.set_cons_succ]
  refine wpAnyH_take (i := 14) (v := ?va14) rfl (by kernel_rfl) (by kernel_rfl) (by kernel_rfl) (fun _ _ _ h => h) (Or.inl ⟨by rfl, ?ya14⟩) hHeld ?ra14
  case ya14 => (intro W hW; obtain ⟨hW0, hW1, hW2⟩ := hW; go_simp; first | done | with_reducible rfl)
  try simp only [List.getElem_toArray, List.getElem_cons_succ, List.getElem_cons_zero, Act.put, List.setIfInBounds_toArray, List.set_cons_zero, List.set_cons_succ]
  refine wpAnyH_take (i := 15) (v := ?va15) rfl (by kernel_rfl) (by kernel_rfl) (by kernel_rfl) (fun _ _ _ h => h) (Or.inl ⟨by rfl, ?ya15⟩) hHeld ?ra15
  case ya15 => (intro W hW; obtain ⟨hW0, hW1, hW2⟩ := hW; go_simp; first | done | with_reducible rfl)
  try simp only [List.getElem_toArray, List.getElem_cons_succ, List.getElem_cons_zero, Act.put, List.setIfInBounds_toArray, List.set_cons_zero, List.set_cons_succ]
  refine wpAnyH_take (i := 16) (v := ?va16) rfl (by kernel_rfl) (by kernel_rfl) (by kernel_rfl) (fun _ _ _ h => h) (Or.inl ⟨by rfl, ?ya16⟩) hHeld ?ra16
  case ya16 => (intro W hW; obtain ⟨hW0, hW1, hW2⟩ := hW; go_simp; first | done | with_reducible rfl)
  try simp only [List.getElem_toArray, List.getElem_cons_succ, List.getElem_cons_zero, Act.put, List.setIfInBounds_toArray, List.set_cons_zero, List.set_cons_succ]
  refine wpAnyH_take (i := 17) (v := ?va17) rfl (by kernel_rfl) (by kernel_rfl) (by kernel_rfl) (fun _ _ _ h => h) (Or.inl ⟨by rfl, ?ya17⟩) hHeld ?ra17
  case ya17 => (intro W hW; obtain ⟨hW0, hW1, hW2⟩ := hW; go_simp; first | done | with_reducible rfl)
  try simp only [List.getElem_toArray, List.getElem_cons_succ, List.getElem_cons_zero, Act.put, List.setIfInBounds_toArray, List.set_cons_zero, List.set_cons_succ]
  refine wpAnyH_take (i := 18) (v := ?va18) rfl (by kernel_rfl) (by kernel_rfl) (by kernel_rfl) (fun _ _ _ h => h) (Or.inl ⟨by rfl, ?ya18⟩) hHeld ?ra18
  case ya18 => (intro W hW; obtain ⟨hW0, hW1, hW2⟩ := hW; go_simp; first | done | with_reducible rfl)
  try simp only [List.getElem_toArray, List.getElem_cons_succ, List.getElem_cons_zero, Act.put, List.setIfInBounds_toArray, List.set_cons_zero, List.set_cons_succ]
  refine wpAnyH_ready (rs := [19]) (by kernel_rfl) (by simp) ?_
  refine AllReadyH.cons rfl (fun K hK => ?_) (AllReadyH.nil)
  go_simp
  refine HR5.out.mono ?_
  rintro e w6 ⟨rfl, hb6⟩
  have k6 := Keeps.of_below hb6
  have HB6 := Lib.hid (HB5.out.trans (hb6.mono HB5.out.size))
  have HE6 := Lib.hid (HE5.out.keep k6)
  clear hb6
  refine hK.out _ _ (⟨k6 _ _ hHeld.1, k6 _ _ hHeld.2.1, k6 _ _ hHeld.2.2⟩) (fun hHeld => ?_)
  clear hK K
  try simp only [List.getElem_toArray, List.getElem_cons_succ, List.getElem_cons_zero, Act.put, List.setIfInBounds_toArray, List.set_cons_zero, List.set_cons_succ]
  refine wpAnyH_take (i := 20) (v := ?va20) rfl (by kernel_rfl) (by kernel_rfl) (by kernel_rfl) (fun _ _ _ h => h) (Or.inl ⟨by rfl, ?ya20⟩) hHeld ?ra20
  case ya20 => (intro W hW; obtain ⟨hW0, hW1, hW2⟩ := hW; go_simp; first | done | with_reducible rfl)
  try simp only [List.getElem_toArray, List.getElem_cons_succ, List.getElem_cons_zero, Act.put, List.setIfInBounds_toArray, List.set_cons_zero, List.set_cons_succ]
  refine wpAnyH_take (i := 21) (v := ?va21) rfl (by kernel_rfl) (by kernel_rfl) (by kernel_rfl) (fun _ _ _ h => h) (Or.inl ⟨by rfl, ?ya21⟩) hHeld ?ra21
  case ya21 => (intro W hW; obtain ⟨hW0, hW1, hW2⟩ := hW; go_simp; first | done | with_reducible rfl)
  try simp only [List.getElem_toArray, List.getElem_cons_succ, List.getElem_cons_zero, Act.put, List.setIfInBounds_toArray, List.set_cons_zero, List.set_cons_succ]
  refine wpAnyH_take (i := 22) (v := ?va22) rfl (by kernel_rfl) (by kernel_rfl) (by kernel_rfl) (fun _ _ _ h => h) (Or.inl ⟨by rfl, ?ya22⟩) hHeld ?ra22
  case ya22 => (intro W hW; obtain ⟨hW0, hW1, hW2⟩ := hW; go_simp; first | done | with_reducible rfl)
  try simp only [List.getElem_toArray, List.getElem_cons_succ, List.getElem_cons_zero, Act.put, List.setIfInBounds_toArray, List.set_cons_zero, List.set_cons_succ]
  refine wpAnyH_take (i := 23) (v := ?va23) rfl (by kernel_rfl) (by kernel_rfl) (by kernel_rfl) (fun _ _ _ h => h) (Or.inl ⟨by rfl, ?ya23⟩) hHeld ?ra23
  case ya23 => (intro W hW; obtain ⟨hW0, hW1, hW2⟩ := hW; go_simp; first | done | with_reducible rfl)
  try simp only [List.getElem_toArray, List.getElem_cons_succ, List.getElem_cons_zero, Act.put, List.setIfInBounds_toArray, List.set_cons_zero, List.set_cons_succ]
  refine wpAnyH_take (i := 24) (v := ?va24) rfl (by kernel_rfl) (by kernel_rfl) (by kernel_rfl) (fun _ _ _ h => h) (Or.inl ⟨by rfl, ?ya24⟩) hHeld ?ra24
  case ya24 => (intro W hW; obtain ⟨hW0, hW1, hW2⟩ := hW; go_simp; first | done | with_reducible rfl)
  try simp only [List.getElem_toArray, List.getElem_cons_succ, List.getElem_cons_zero, Act.put, List.setIfInBounds_toArray, List.set_cons_zero, List.set_cons_succ]
  refine wpAnyH_take (i := 25) (v := ?va25) rfl (by kernel_rfl) (by kernel_rfl) (by kernel_rfl) (fun _ _ _ h => h) (Or.inl ⟨by rfl, ?ya25⟩) hHeld ?ra25
  case ya25 => (intro W hW; obtain ⟨hW0, hW1, hW2⟩ := hW; go_simp; first | done | with_reducible rfl)
  try simp only [List.getElem_toArray, List.getElem_cons_succ, List.getElem_cons_zero, Act.put, List.setIfInBounds_toArray, List.set_cons_zero, List.set_cons_succ]
  refine wpAnyH_take (i := 26) (v := ?va26) rfl (by kernel_rfl) (by kernel_rfl) (by kernel_rfl) (fun _ _ _ h => h) (Or.inl ⟨by rfl, ?ya26⟩) hHeld ?ra26
  case ya26 => (intro W hW; obtain ⟨hW0, hW1, hW2⟩ := hW; go_simp; first | done | with_reducible rfl)
  try simp only [List.getElem_toArray, List.getElem_cons_succ, List.getElem_cons_zero, Act.put, List.setIfInBounds_toArray, List.set_cons_zero, List.set_cons_succ]
  refine wpAnyH_take (i := 28) (v := ?va28) rfl (by kernel_rfl) (by kernel_rfl) (by kernel_rfl) (fun _ _ _ h => h) (Or.inl ⟨by rfl, ?ya28⟩) hHeld ?ra28
  case ya28 => (intro W hW; obtain ⟨hW0, hW1, hW2⟩ := hW; go_simp; first | done | with_reducible rfl)
  try simp only [List.getElem_toArray, List.getElem_cons_succ, List.getElem_cons_zero, Act.put, List.setIfInBounds_toArray, List.set_cons_zero, List.set_cons_succ]
  refine wpAnyH_take (i := 29) (v := ?va29) rfl (by kernel_rfl) (by kernel_rfl) (by kernel_rfl) (fun _ _ _ h => h) (Or.inl ⟨by rfl, ?ya29⟩) hHeld ?ra29
  case ya29 => (intro W hW; obtain ⟨hW0, hW1, hW2⟩ := hW; go_simp; first | done | with_reducible rfl)
  try simp only [List.getElem_toArray, List.getElem_cons_succ, List.getElem_cons_zero, Act.put, List.setIfInBounds_toArray, List.set_cons_zero, List.set_cons_succ]
  refine wpAnyH_take (i := 30) (v := ?va30) rfl (by kernel_rfl) (by kernel_rfl) (by kernel_rfl) (fun _ _ _ h => h) (Or.inl ⟨by rfl, ?ya30⟩) hHeld ?ra30
  case ya30 => (intro W hW; obtain ⟨hW0, hW1, hW2⟩ := hW; go_simp; first | done | with_reducible rfl)
  try simp only [List.getElem_toArray, List.getElem_cons_succ, List.getElem_cons_zero, Act.put, List.setIfInBounds_toArray, List.set_cons_zero, List.set_cons_succ]
  refine wpAnyH_take (i := 31) (v := ?va31) rfl (by kernel_rfl) (by kernel_rfl) (by kernel_rfl) (fun _ _ _ h => h) (Or.inl ⟨by rfl, ?ya31⟩) hHeld ?ra31
  case ya31 => (intro W hW; obtain ⟨hW0, hW1, hW2⟩ := hW; go_simp; first | done | with_reducible rfl)
  try simp only [List.getElem_toArray, List.getElem_cons_succ, List.getElem_cons_zero, Act.put, List.setIfInBounds_toArray, List.set_cons_zero, List.set_cons_succ]
  refine wpAnyH_ready (rs := [27]) (by kernel_rfl) (by simp) ?_
  refine AllReadyH.cons rfl (fun K hK => ?_) (AllReadyH.nil)
  go_simp
  refine (rCost_any A q q 0 cs 100 P N cP es w6 (HFQ.out.below HB6.out (Nat.le_refl _)) HE6.out he16 HRP.out).mono ?_
  rintro e w7 ⟨rfl, hb7⟩
  rw [HCP.out]
  have k7 := Keeps.of_below hb7
  have HB7 := Lib.hid (HB6.out.trans (hb7.mono HB6.out.size))
  clear hb7
  refine hK.out _ _ (⟨k7 _ _ hHeld.1, k7 _ _ hHeld.2.1, k7 _ _ hHeld.2.2⟩) (fun hHeld => ?_)
  clear hK K
  try simp only [List.getElem_toArray, List.getElem_cons_succ, List.getElem_cons_zero, Act.put, List.setIfInBounds_toArray, List.set_cons_zero, List.set_cons_succ]
  refine wpAnyH_take (i := 32) (v := ?va32) rfl (by kernel_rfl) (by kernel_rfl) (by kernel_rfl) (fun _ _ _ h => h) (Or.inl ⟨by rfl, ?ya32⟩) hHeld ?ra32
  case ya32 => (intro W hW; obtain ⟨hW0, hW1, hW2⟩ := hW; go_simp; first | done | with_reducible rfl)
  try simp only [List.getElem_toArray, List.getElem_cons_succ, List.getElem_cons_zero, Act.put, List.setIfInBounds_toArray, List.set_cons_zero, List.set_cons_succ]
  refine wpAnyH_take (i := 33) (v := ?va33) rfl (by kernel_rfl) (by kernel_rfl) (by kernel_rfl) (fun _ _ _ h => h) (Or.inl ⟨by rfl, ?ya33⟩) hHeld ?ra33
  case ya33 => (intro W hW; obtain ⟨hW0, hW1, hW2⟩ := hW; go_simp; first | done | with_reducible rfl)
  try simp only [List.getElem_toArray, List.getElem_cons_succ, List.getElem_cons_zero, Act.put, List.setIfInBounds_toArray, List.set_cons_zero, List.set_cons_succ]
  refine wpAnyH_take (i := 34) (v := ?va34) rfl (by kernel_rfl) (by kernel_rfl) (by kernel_rfl) (fun _ _ _ h => h) (Or.inl ⟨by rfl, ?ya34⟩) hHeld ?ra34
  case ya34 => (intro W hW; obtain ⟨hW0, hW1, hW2⟩ := hW; go_simp; first | done | with_reducible rfl)
  try simp only [List.getElem_toArray, List.getElem_cons_succ, List.getElem_cons_zero, Act.put, List.setIfInBounds_toArray, List.set_cons_zero, List.set_cons_succ]
  refine wpAnyH_done (by kernel_rfl) ?_ _
  go_wp2
  go_ret
  exact ⟨by simp, BW.out.trans (HB7.out.mono BW.out.size)⟩
end Go.Proofs.YtbmdiiifhccebaaDoor
