/- The law SortsMany. -/
import Derived.Test.YtbmdiiifhccebaaDoorKn10
import Derived.Test.YtbmdiiifhccebaaDoorL8
import Derived.Test.YtbmdiiifhccebaaDoorRegion
import Derived.Test.YtbmdiiifhccebaaDoorRegP
import Derived.IntWalk
import Derived.Test.YtbmdiiifhccebaaDoorRlat
import Derived.Test.YtbmdiiifhccebaaDoorSameE
namespace Go.Proofs.YtbmdiiifhccebaaDoor
open Go.RowKit Go.Shelf
attribute [local go_sem] Oper.semAt_some
/-- The product of the first cards. -/
def prodTo (cs : List Int) : Nat → Int
  | 0 => 1
  | i + 1 => prodTo cs i * cs.getD i 0
theorem prodTo_bd {cs : List Int} (hc : ∀ x ∈ cs, 1 ≤ x ∧ x ≤ 16) : ∀ i, i ≤ cs.length → 1 ≤ prodTo cs i ∧ prodTo cs i ≤ 16 ^ i
  | 0, _ => ⟨Int.le_refl 1, Int.le_refl 1⟩
  | i + 1, h => by
    obtain ⟨a, b⟩ := prodTo_bd hc i (by omega)
    obtain ⟨c, d⟩ := getD_in hc (i := i) (by omega)
    have p := Int.mul_le_mul a c (by omega) (by omega)
    have q := Int.mul_le_mul b d (by omega) (by have : (0 : Int) ≤ 16 ^ i := Int.pow_nonneg (by omega); exact this)
    unfold prodTo
    rw [Int.pow_succ]
    exact ⟨by simpa using p, q⟩
theorem keysTo_le {cs : List Int} (hc : ∀ x ∈ cs, 1 ≤ x ∧ x ≤ 16) (s : Int) : ∀ i, i ≤ cs.length → keysTo cs s i ≤ prodTo cs i
  | 0, _ => Int.le_refl 1
  | i + 1, h => by
    have ih := keysTo_le hc s i (by omega)
    obtain ⟨c, d⟩ := getD_in hc (i := i) (by omega)
    have a := (prodTo_bd hc i (by omega)).1
    unfold keysTo prodTo
    split
    · exact Int.mul_le_mul_of_nonneg_right ih (by omega)
    · have := Int.mul_le_mul_of_nonneg_left c (show (0 : Int) ≤ prodTo cs i by omega)
      rw [Int.mul_one] at this
      omega
theorem size_same {cs : List Int} (hc : ∀ x ∈ cs, 1 ≤ x ∧ x ≤ 16) (h4 : cs.length ≤ 4) {n m k : Int} (hn : prodTo cs cs.length ≤ n) (hm : prodTo cs cs.length ≤ m) (h1 : 0 ≤ k) (h2 : k ≤ fullB cs.length) : sizeB cs n k = sizeB cs m k := by
  have a := keysTo_le hc k cs.length (Nat.le_refl _)
  rw [keysTo_all cs k h1 h2 h4] at a
  unfold sizeB
  omega
theorem cheapL_congr {f g : Int → Int} : ∀ {l : List Int}, (∀ x ∈ l, f x = g x) → cheapL f l = cheapL g l := by
  intro l
  induction l using snoc_ind with
  | h0 => intro _; rfl
  | h1 l x ih =>
    intro h
    by_cases hl : l = []
    · subst hl; rfl
    · have e := ih fun y hy => h y (List.mem_append_left _ hy)
      rw [cheapL_snoc f l x hl, cheapL_snoc g l x hl, e, h x (by simp), h (cheapL g l) (List.mem_append_left _ (cheapL_spec g l hl).1)]
theorem plan_same {cs : List Int} {n m : Int} (d1 : 1 ≤ cs.length) (d4 : cs.length ≤ 4) (h : ∀ k, 0 ≤ k → k ≤ fullB cs.length → sizeB cs n k = sizeB cs m k) : planM cs n = planM cs m := by
  have hs : ∀ k, 0 ≤ k → k ≤ fullB cs.length → sortB cs n k = sortB cs m k := fun k a b => by unfold sortB; rw [h k a b]
  have hp : ∀ l, l < cs.length → ∀ s ∈ levL cs.length l, ∀ p ∈ parL s cs.length, 0 ≤ p ∧ p ≤ fullB cs.length := fun l hl s hs p hp => lev_bd d1 d4 ((lev_par _ d1 d4 l hl s hs).2 p hp)
  have ho : ∀ l, l < cs.length → ∀ s ∈ levL cs.length l, own cs n s = own cs m s := fun l hl s hsl => cheapL_congr fun p hpp => hs p (hp l hl s hsl p hpp).1 (hp l hl s hsl p hpp).2
  have hso : ∀ l, l < cs.length → ∀ s ∈ levL cs.length l, sortB cs n (own cs n s) = sortB cs m (own cs m s) := fun l hl s hsl => by
    rw [ho l hl s hsl]
    have hm := (cheapL_spec (sortB cs m) _ (lev_par _ d1 d4 l hl s hsl).1).1
    exact hs _ (hp l hl s hsl _ hm).1 (hp l hl s hsl _ hm).2
  have hc : ∀ l, l < cs.length → ∀ s ∈ levL cs.length l, ∀ p, scanC cs n s p = scanC cs m s p := fun l hl s hsl p => by
    unfold scanC
    split
    · rename_i hpp; exact h p (hp l hl s hsl p hpp).1 (hp l hl s hsl p hpp).2
    · rfl
  have hM : ∀ l, l < cs.length → costM cs n l = costM cs m l := fun l hl => by
    apply List.ext_getElem?
    intro i
    unfold costM
    rw [List.getElem?_mapIdx, List.getElem?_mapIdx]
    cases hsi : (levL cs.length l)[i]? with
    | none => simp
    | some s =>
      have hsl := List.mem_of_getElem? hsi
      simp only [Option.map_some]
      unfold rowM
      rw [hso l hl s hsl, List.map_congr_left fun p _ => hc l hl s hsl p]
  have hE : ∀ l, l < cs.length → edsM cs n l = edsM cs m l := fun l hl => by
    apply List.ext_getElem?
    intro i
    unfold edsM
    rw [List.getElem?_zipWith, List.getElem?_zipWith, hM l hl]
    cases hsi : (levL cs.length l)[i]? with
    | none => simp
    | some s =>
      cases (fst1 (costM cs m l) 0)[i]? with
      | none => simp
      | some k =>
        simp only []
        unfold edM
        rw [ho l hl s (List.mem_of_getElem? hsi)]
  unfold planM
  congr 1
  exact flat_congr fun t ht => hE _ (by have := List.mem_range.1 ht; omega)
theorem cost_same {cs : List Int} {n m : Int} {es : List Ed} (d1 : 1 ≤ cs.length) (d4 : cs.length ≤ 4) (h : ∀ k, 0 ≤ k → k ≤ fullB cs.length → sizeB cs n k = sizeB cs m k) (hr : RightP cs.length es) : costB cs n es = costB cs m es := by
  unfold costB
  split
  · unfold costP
    congr 1
    apply List.map_congr_left
    intro e he
    unfold costE
    split
    · rfl
    · rename_i hp
      have ht : e ∈ es.tail := by
        rw [hr.cons] at he
        rcases List.mem_cons.1 he with rfl | h2
        · exact absurd (show (-1 : Int) < 0 by omega) hp
        · exact h2
      obtain ⟨p0, p1⟩ := right_p d1 d4 hr ht
      split
      · exact h _ p0 p1
      · unfold sortB; rw [h _ p0 p1]
  · rfl
set_option maxRecDepth 100000 in
set_option maxHeartbeats 8000000 in
theorem sortsMany_walk (a0 : Int) (a1 : Option Addr) (len1 cap1 : Nat) (z1 : List Int) (a2 : Int) (w : World) (h0 : inK .i64 a0) (w1 : IsRow .i64 w a1 len1 cap1 z1) (h2 : inK .i64 a2) (hT : Tab w) (hw1 : 1 < w.heap.size) :
    Calls Tryd.prog 8 #[.int .i64 a0, .slice a1 len1 cap1, .int .i64 a2] w fun e w' => e = .returned (.bool true) ∧ Below w.heap.size w w' := by
  obtain ⟨n1, lc1, cm1⟩ := w1.nums
  have N1 := Lib.hid n1
  have HKn := Lib.hid (known10_any w hT hw1)
  have HT := Lib.hid hT
  clear w1 n1 hT
  go_enter Tryd.func8, Tryd.ntmps8
  go_wp2_with fail
  refine HKn.out.mono ?_
  rintro e w1 ⟨rfl, hb1⟩
  have Hb1 := Lib.hid hb1
  clear hb1 HKn
  go_wp2_with fail
  refine (Facts_res a0 0 a1 none len1 cap1 0 0 _ [] w1 (N1.out.keep (Keeps.of_below Hb1.out)) (Nums.nil _ _ _) (by omega) (by omega) h0 (by constructor <;> omega)).mono ?_
  rintro e w2 ⟨A, c, D, d, C, q, mm, m, cs, l, rfl, hF⟩
  obtain ⟨k1, k2, k3⟩ : 1 ≤ q ∧ q ≤ 4 ∧ mm ≤ 2 := ⟨hF.q1, hF.q4, hF.m2⟩
  have hb2 : Below w.heap.size w w2 := Hb1.out.trans (hF.below.mono Hb1.out.size)
  have hck : checkB cs (mm : Int) = true := by rw [hF.ecs, hF.emm]; exact fCards_check _ _ _
  have hcl := hF.eq
  obtain ⟨W3, hW3⟩ : ∃ W3, W3 = w2.alloc (.cells #[.slice A q c, .int .i64 mm] 32) := ⟨_, rfl⟩
  have hb3 : Below w.heap.size w W3 := by rw [hW3]; exact hb2.alloc hb2.size _
  have hbx : Bx W3 w2.heap.size #[.slice A q c, .int .i64 mm] := by rw [hW3]; exact Bx.new _ _ _
  have hnq : Nums .i64 W3 A q cs := by rw [hW3]; exact hF.nums.keep (Keeps.of_below (below_box w2 _))
  have HFQ := Lib.hid (fun (n : Int) (W : World) (hb : Below W3.heap.size W3 W) (n0 : 0 ≤ n) (n3 : n ≤ 300) => (⟨hnq.keep (Keeps.of_below hb), k1, k2, k3, hF.c16, n0, n3, HT.out.below (hb3.trans (hb.mono hb3.size)) hw1, by have := hb3.size; have := hb.size; omega⟩ : FQ W A q mm cs n))
  have HGD := Lib.hid (fun (n : Int) (n0 : 0 ≤ n) (n3 : n ≤ 300) => (⟨hF.c16, by omega, by omega, n0, n3⟩ : Good cs n))
  have HNQ := Lib.hid hnq
  have HCK := Lib.hid hck
  have HB3 := Lib.hid hb3
  have HBX := Lib.hid hbx
  have HW3 := Lib.hid hW3
  have hg3 : w2.heap.size < W3.heap.size := block_lt (hbx 0 _ rfl)
  clear hF hnq hb3 hb2 hbx hck hW3
  have x0 : W3.cell? ⟨w2.heap.size, 0, none⟩ = some (.slice A q c) := HBX.out 0 _ rfl
  have x1 : W3.cell? ⟨w2.heap.size, 1, none⟩ = some (.int .i64 mm) := HBX.out 1 _ rfl
  have hc16 := (HGD.out 0 (by omega) (by omega)).c
  have HC16 := Lib.hid hc16
  have HPB := Lib.hid (prodTo_bd hc16)
  have HCL := Lib.hid hcl
  clear hc16 hcl
  go_wp2_with fail
  rw [← HW3.out]
  go_loopw [9, 10] (fun p i wr => ∃ k : Nat, i = .int .i64 k ∧ k ≤ q ∧ p = .int .i64 (prodTo cs k) ∧ W3 = wr) (fun _ i _ => q - (intOf i).toNat)
  case atStart => exact ⟨0, rfl, Nat.zero_le _, rfl, rfl⟩
  case round =>
    obtain ⟨k, rfl, hk, rfl, rfl⟩ := hrel
    by_cases hkq : k < q
    · obtain ⟨ad, x, rfl, hx, -, hcx⟩ := HNQ.out.at_ hkq
      have hxb := HC16.out x (List.mem_of_getElem? hx)
      have hpb := HPB.out k (by rw [HCL.out]; omega)
      have hp4 : prodTo cs k ≤ 4096 := by
        refine Int.le_trans hpb.2 ?_
        rcases (by omega : k = 0 ∨ k = 1 ∨ k = 2 ∨ k = 3) with rfl | rfl | rfl | rfl <;> decide
      have hst : prodTo cs (k + 1) = prodTo cs k * x := by
        show prodTo cs k * cs.getD k 0 = _
        rw [List.getD_eq_getElem?_getD, hx]; rfl
      obtain ⟨pr, hpr⟩ : ∃ pr, pr = prodTo cs k := ⟨_, rfl⟩
      rw [← hpr] at hpb hp4 hst ⊢
      have m1 : 0 ≤ pr * x := Int.mul_nonneg (by omega) (by omega)
      have m2 : pr * x ≤ 4096 * 16 := Int.mul_le_mul hp4 hxb.2 (by omega) (by omega)
      have HST := Lib.hid hst
      have hpb1 := hpb.1
      have k0 : (0 : Int) ≤ (k : Int) := by omega
      have k1' : (k : Int) < (q : Int) := by omega
      clear hst hpr hx hpb
      go_wp2
      go_roundw
      case rel => exact ⟨k + 1, by go_num, by omega, by rw [HST.out], trivial⟩
      case measure => simp [intOf]; omega
    · obtain rfl : k = q := by omega
      have hpb := HPB.out k (by rw [HCL.out]; omega)
      obtain ⟨n, hn⟩ : ∃ n, n = prodTo cs k := ⟨_, rfl⟩
      rw [← hn] at hpb ⊢
      have n1 := hpb.1
      have hpf : n ≤ 65536 := Int.le_trans hpb.2 (by rcases (by omega : k = 1 ∨ k = 2 ∨ k = 3 ∨ k = 4) with rfl | rfl | rfl | rfl <;> decide)
      have HN := Lib.hid hn
      clear hpb hn
      by_cases hbig : 300 < n
      · go_wp2
        go_ret
        exact ⟨rfl, HB3.out⟩
      · obtain ⟨r, hr⟩ : ∃ r, r = a2 % (301 - n) := ⟨_, rfl⟩
        have HWI := Lib.hid (lwithin10 a2 (301 - n) W3 h2 (by omega) (by omega))
        rw [← hr] at HWI
        have r0 : 0 ≤ r := by rw [hr]; exact Int.emod_nonneg _ (by omega)
        have r1 : r < 301 - n := by rw [hr]; exact Int.emod_lt_of_pos _ (by omega)
        obtain ⟨m, hm⟩ : ∃ m, m = n + r := ⟨_, rfl⟩
        have hmw : IntKind.i64.wrap (n + r) = m := by rw [hm]; exact IntWalk.i64_in _ (by omega)
        have hss : ∀ k', 0 ≤ k' → k' ≤ fullB cs.length → sizeB cs n k' = sizeB cs m k' := fun k' a b => size_same HC16.out (by rw [HCL.out]; omega) (by rw [HCL.out, ← HN.out]; exact Int.le_refl _) (by rw [HCL.out, ← HN.out]; omega) a b
        have hps := plan_same (cs := cs) (n := n) (m := m) (by rw [HCL.out]; omega) (by rw [HCL.out]; omega) hss
        have hrp := plan_right (HGD.out n (by omega) (by omega))
        have hcs := cost_same (cs := cs) (n := n) (m := m) (by rw [HCL.out]; omega) (by rw [HCL.out]; omega) hss hrp
        have HPL := Lib.hid (fun (W : World) (hb : Below W3.heap.size W3 W) => plan_any A k c mm cs n W (HFQ.out n W hb (by omega) (by omega)) HCK.out)
        have HPM := Lib.hid (fun (W : World) (hb : Below W3.heap.size W3 W) => plan_any A k c mm cs m W (HFQ.out m W hb (by omega) (by omega)) HCK.out)
        rw [← hps] at HPM
        obtain ⟨es, hes⟩ : ∃ es, es = planM cs n := ⟨_, rfl⟩
        rw [← hes] at HPL HPM hrp hcs
        rw [HCL.out] at hrp
        have hin := right_in k1 k2 hrp
        have hlen : es.length ≤ 1000 := by
          have : es.length = 2 ^ k := by rw [← setsL_len k k1 k2, ← hrp.sets, List.length_map]
          rw [this]; have := (pow_16 k k2).1; omega
        have HIN := Lib.hid hin
        have HCS := Lib.hid hcs
        have m0 : 0 ≤ m := by omega
        have m3 : m ≤ 300 := by omega
        have hb3' : n ≤ 300 := by omega
        clear hr hm hss hps hrp hcs hes hin
        go_wp2_with fail
        refine HWI.out.mono ?_
        rintro e w' ⟨rfl, rfl⟩
        go_wp2_with fail
        refine wp_region_held_drew (S := fun W => W.cell? ⟨w2.heap.size, 0, none⟩ = some (.slice A k c) ∧ W.cell? ⟨w2.heap.size, 1, none⟩ = some (.int .i64 mm)) (by kernel_rfl) ⟨x0, x1⟩ (fun hHeld => ?_)
        refine wpAnyH_take (i := 0) (v := ?va0) rfl (by kernel_rfl) (by kernel_rfl) (by kernel_rfl) (fun _ _ _ h => h) (Or.inl ⟨by rfl, ?ya0⟩) hHeld ?ra0
        case ya0 => (intro W hW; obtain ⟨hW0, hW1⟩ := hW; go_simp; first | done | with_reducible rfl)
        try simp only [List.getElem_toArray, List.getElem_cons_zero, Act.put, List.setIfInBounds_toArray, List.set_cons_zero, List.set_cons_succ]
        refine wpAnyH_take (i := 1) (v := ?va1) rfl (by kernel_rfl) (by kernel_rfl) (by kernel_rfl) (fun _ _ _ h => h) (Or.inl ⟨by rfl, ?ya1⟩) hHeld ?ra1
        case ya1 => (intro W hW; obtain ⟨hW0, hW1⟩ := hW; go_simp; first | done | with_reducible rfl)
        try simp only [List.getElem_toArray, List.getElem_cons_succ, List.getElem_cons_zero, Act.put, List.setIfInBounds_toArray, List.set_cons_zero, List.set_cons_succ]
        refine wpAnyH_take (i := 3) (v := ?va3) rfl (by kernel_rfl) (by kernel_rfl) (by kernel_rfl) (fun _ _ _ h => h) (Or.inl ⟨by rfl, ?ya3⟩) hHeld ?ra3
        case ya3 => (intro W hW; obtain ⟨hW0, hW1⟩ := hW; go_simp; first | done | with_reducible rfl)
        try simp only [List.getElem_toArray, List.getElem_cons_succ, List.getElem_cons_zero, Act.put, List.setIfInBounds_toArray, List.set_cons_zero, List.set_cons_succ]
        refine wpAnyH_take (i := 4) (v := ?va4) rfl (by kernel_rfl) (by kernel_rfl) (by kernel_rfl) (fun _ _ _ h => h) (Or.inl ⟨by rfl, ?ya4⟩) hHeld ?ra4
        case ya4 => (intro W hW; obtain ⟨hW0, hW1⟩ := hW; go_simp; first | done | with_reducible rfl)
        try simp only [List.getElem_toArray, List.getElem_cons_succ, List.getElem_cons_zero, Act.put, List.setIfInBounds_toArray, List.set_cons_zero, List.set_cons_succ]
        refine wpAnyH_ready (rs := [2]) (by kernel_rfl) (by simp) ?_
        refine AllReadyH.cons rfl (fun K hK => ?_) (AllReadyH.nil)
        go_simp
        refine (HPL.out W3.drew (Below.refl _ W3).drew).mono ?_
        rintro e w4 ⟨v1, rfl, ho1, hb4⟩
        have k4 := Keeps.of_below hb4
        have HB4 := Lib.hid ((Below.refl W3.heap.size W3).drew.trans (hb4.mono (Nat.le_refl _)))
        have HO1 := Lib.hid ho1
        clear hb4 ho1
        refine hK.out _ _ (⟨k4 _ _ x0, k4 _ _ x1⟩) (fun hHeld => ?_)
        clear hK K
        try simp only [List.getElem_toArray, List.getElem_cons_succ, List.getElem_cons_zero, Act.put, List.setIfInBounds_toArray, List.set_cons_zero, List.set_cons_succ]
        refine wpAnyH_ready (rs := [5]) (by kernel_rfl) (by simp) ?_
        refine AllReadyH.cons rfl (fun K hK => ?_) (AllReadyH.nil)
        go_simp
        refine (HPM.out w4 HB4.out).mono ?_
        rintro e w5 ⟨v2, rfl, ho2, hb5⟩
        have k5 := Keeps.of_below hb5
        have HB5 := Lib.hid (HB4.out.trans (hb5.mono HB4.out.size))
        have HO1' := Lib.hid (HO1.out.below hb5)
        have HO2 := Lib.hid ho2
        clear hb5 ho2
        refine hK.out _ _ (⟨k5 _ _ hHeld.1, k5 _ _ hHeld.2⟩) (fun hHeld => ?_)
        clear hK K
        try simp only [List.getElem_toArray, List.getElem_cons_succ, List.getElem_cons_zero, Act.put, List.setIfInBounds_toArray, List.set_cons_zero, List.set_cons_succ]
        refine wpAnyH_take (i := 6) (v := ?va6) rfl (by kernel_rfl) (by kernel_rfl) (by kernel_rfl) (fun _ _ _ h => h) (Or.inl ⟨by rfl, ?ya6⟩) hHeld ?ra6
        case ya6 => (intro W hW; obtain ⟨hW0, hW1⟩ := hW; go_simp; first | done | with_reducible rfl)
        try simp only [List.getElem_toArray, List.getElem_cons_succ, List.getElem_cons_zero, Act.put, List.setIfInBounds_toArray, List.set_cons_zero, List.set_cons_succ]
        refine wpAnyH_take (i := 7) (v := ?va7) rfl (by kernel_rfl) (by kernel_rfl) (by kernel_rfl) (fun _ _ _ h => h) (Or.inl ⟨by rfl, ?ya7⟩) hHeld ?ra7
        case ya7 => (intro W hW; obtain ⟨hW0, hW1⟩ := hW; go_simp; first | done | with_reducible rfl)
        try simp only [List.getElem_toArray, List.getElem_cons_succ, List.getElem_cons_zero, Act.put, List.setIfInBounds_toArray, List.set_cons_zero, List.set_cons_succ]
        refine wpAnyH_done (by kernel_rfl) ?_ _
        obtain ⟨P1, c1, rfl, hE1, hc1⟩ := HO1'.out.form2 HIN.out
        obtain ⟨P2, c2, rfl, hE2, hc2⟩ := HO2.out.form2 HIN.out
        obtain ⟨N, hN⟩ : ∃ N, N = es.length := ⟨_, rfl⟩
        rw [← hN] at hE1 hE2 hc1 hc2 hlen ⊢
        have HE1 := Lib.hid hE1
        have HE2 := Lib.hid hE2
        have y0 := hHeld.1
        have y1 := hHeld.2
        have HSA := Lib.hid (sameE_any P1 P2 N c1 c2 es w5.drew (hE1.keep (Keeps.of_below (Below.refl _ w5).drew)) (hE2.keep (Keeps.of_below (Below.refl _ w5).drew)) hlen)
        clear hE1 hE2 hN hHeld
        clear k5 hHeld
        try clear hHeld
        go_wp2_with fail
        refine wp_region_held_drew (S := fun W => W.cell? ⟨w2.heap.size, 0, none⟩ = some (.slice A k c) ∧ W.cell? ⟨w2.heap.size, 1, none⟩ = some (.int .i64 mm)) (by kernel_rfl) ⟨y0, y1⟩ (fun hHeld => ?_)
        refine wpAnyH_take (i := 0) (v := ?vb0) rfl (by kernel_rfl) (by kernel_rfl) (by kernel_rfl) (fun _ _ _ h => h) (Or.inl ⟨by rfl, ?yb0⟩) hHeld ?rb0
        case yb0 => (intro W hW; obtain ⟨hW0, hW1⟩ := hW; go_simp; first | done | with_reducible rfl)
        try simp only [List.getElem_toArray, List.getElem_cons_zero, Act.put, List.setIfInBounds_toArray, List.set_cons_zero, List.set_cons_succ]
        refine wpAnyH_take (i := 1) (v := ?vb1) rfl (by kernel_rfl) (by kernel_rfl) (by kernel_rfl) (fun _ _ _ h => h) (Or.inl ⟨by rfl, ?yb1⟩) hHeld ?rb1
        case yb1 => (intro W hW; obtain ⟨hW0, hW1⟩ := hW; go_simp; first | done | with_reducible rfl)
        try simp only [List.getElem_toArray, List.getElem_cons_succ, List.getElem_cons_zero, Act.put, List.setIfInBounds_toArray, List.set_cons_zero, List.set_cons_succ]
        refine wpAnyH_ready (rs := [2]) (by kernel_rfl) (by simp) ?_
        refine AllReadyH.cons rfl (fun K hK => ?_) (AllReadyH.nil)
        go_simp
        refine HSA.out.mono ?_
        rintro e w6 ⟨rfl, hb6⟩
        have k6 := Keeps.of_below hb6
        have hb56 := (HB5.out.drew).trans (hb6.mono HB5.out.size)
        have HB6 := Lib.hid hb56
        have HE16 := Lib.hid (HE1.out.keep k6)
        have HE26 := Lib.hid (HE2.out.keep k6)
        clear hb6 hb56
        refine hK.out _ _ (⟨k6 _ _ y0, k6 _ _ y1⟩) (fun hHeld => ?_)
        clear hK K
        try simp only [List.getElem_toArray, List.getElem_cons_succ, List.getElem_cons_zero, Act.put, List.setIfInBounds_toArray, List.set_cons_zero, List.set_cons_succ]
        refine wpAnyH_take (i := 3) (v := ?vb3) rfl (by kernel_rfl) (by kernel_rfl) (by kernel_rfl) (fun _ _ _ h => h) (Or.inl ⟨by rfl, ?yb3⟩) hHeld ?rb3
        case yb3 => (intro W hW; obtain ⟨hW0, hW1⟩ := hW; go_simp; first | done | with_reducible rfl)
        try simp only [List.getElem_toArray, List.getElem_cons_succ, List.getElem_cons_zero, Act.put, List.setIfInBounds_toArray, List.set_cons_zero, List.set_cons_succ]
        refine wpAnyH_take (i := 4) (v := ?vb4) rfl (by kernel_rfl) (by kernel_rfl) (by kernel_rfl) (fun _ _ _ h => h) (Or.inl ⟨by rfl, ?yb4⟩) hHeld ?rb4
        case yb4 => (intro W hW; obtain ⟨hW0, hW1⟩ := hW; go_simp; first | done | with_reducible rfl)
        try simp only [List.getElem_toArray, List.getElem_cons_succ, List.getElem_cons_zero, Act.put, List.setIfInBounds_toArray, List.set_cons_zero, List.set_cons_succ]
        refine wpAnyH_take (i := 5) (v := ?vb5) rfl (by kernel_rfl) (by kernel_rfl) (by kernel_rfl) (fun _ _ _ h => h) (Or.inl ⟨by rfl, ?yb5⟩) hHeld ?rb5
        case yb5 => (intro W hW; obtain ⟨hW0, hW1⟩ := hW; go_simp; first | done | with_reducible rfl)
        try simp only [List.getElem_toArray, List.getElem_cons_succ, List.getElem_cons_zero, Act.put, List.setIfInBounds_toArray, List.set_cons_zero, List.set_cons_succ]
        refine wpAnyH_take (i := 6) (v := ?vb6) rfl (by kernel_rfl) (by kernel_rfl) (by kernel_rfl) (fun _ _ _ h => h) (Or.inl ⟨by rfl, ?yb6⟩) hHeld ?rb6
        case yb6 => (intro W hW; obtain ⟨hW0, hW1⟩ := hW; go_simp; first | done | with_reducible rfl)
        try simp only [List.getElem_toArray, List.getElem_cons_succ, List.getElem_cons_zero, Act.put, List.setIfInBounds_toArray, List.set_cons_zero, List.set_cons_succ]
        refine wpAnyH_take (i := 8) (v := ?vb8) rfl (by kernel_rfl) (by kernel_rfl) (by kernel_rfl) (fun _ _ _ h => h) (Or.inl ⟨by rfl, ?yb8⟩) hHeld ?rb8
        case yb8 => (intro W hW; obtain ⟨hW0, hW1⟩ := hW; go_simp; first | done | with_reducible rfl)
        try simp only [List.getElem_toArray, List.getElem_cons_succ, List.getElem_cons_zero, Act.put, List.setIfInBounds_toArray, List.set_cons_zero, List.set_cons_succ]
        refine wpAnyH_take (i := 9) (v := ?vb9) rfl (by kernel_rfl) (by kernel_rfl) (by kernel_rfl) (fun _ _ _ h => h) (Or.inl ⟨by rfl, ?yb9⟩) hHeld ?rb9
        case yb9 => (intro W hW; obtain ⟨hW0, hW1⟩ := hW; go_simp; first | done | with_reducible rfl)
        try simp only [List.getElem_toArray, List.getElem_cons_succ, List.getElem_cons_zero, Act.put, List.setIfInBounds_toArray, List.set_cons_zero, List.set_cons_succ]
        refine wpAnyH_take (i := 10) (v := ?vb10) rfl (by kernel_rfl) (by kernel_rfl) (by kernel_rfl) (fun _ _ _ h => h) (Or.inl ⟨by rfl, ?yb10⟩) hHeld ?rb10
        case yb10 => (intro W hW; obtain ⟨hW0, hW1⟩ := hW; go_simp; first | done | with_reducible rfl)
        try simp only [List.getElem_toArray, List.getElem_cons_succ, List.getElem_cons_zero, Act.put, List.setIfInBounds_toArray, List.set_cons_zero, List.set_cons_succ]
        refine wpAnyH_ready (rs := [7]) (by kernel_rfl) (by simp) ?_
        refine AllReadyH.cons rfl (fun K hK => ?_) (AllReadyH.nil)
        go_simp
        refine (cost_any A k c mm cs n P1 N c1 es w6 (HFQ.out n w6 HB6.out (by omega) hb3') HCK.out HE16.out hc1 hlen).mono ?_
        rintro e w7 ⟨rfl, hb7⟩
        have k7 := Keeps.of_below hb7
        have HB7 := Lib.hid (HB6.out.trans (hb7.mono HB6.out.size))
        have HE27 := Lib.hid (HE26.out.keep k7)
        clear hb7
        refine hK.out _ _ (⟨k7 _ _ hHeld.1, k7 _ _ hHeld.2⟩) (fun hHeld => ?_)
        clear hK K
        try simp only [List.getElem_toArray, List.getElem_cons_succ, List.getElem_cons_zero, Act.put, List.setIfInBounds_toArray, List.set_cons_zero, List.set_cons_succ]
        refine wpAnyH_ready (rs := [11]) (by kernel_rfl) (by simp) ?_
        refine AllReadyH.cons rfl (fun K hK => ?_) (AllReadyH.nil)
        go_simp
        refine (cost_any A k c mm cs m P2 N c2 es w7 (HFQ.out m w7 HB7.out m0 m3) HCK.out HE27.out hc2 hlen).mono ?_
        rintro e w8 ⟨rfl, hb8⟩
        rw [← HCS.out]
        have k8 := Keeps.of_below hb8
        have HB8 := Lib.hid (HB7.out.trans (hb8.mono HB7.out.size))
        clear hb8
        refine hK.out _ _ (⟨k8 _ _ hHeld.1, k8 _ _ hHeld.2⟩) (fun hHeld => ?_)
        clear hK K
        try simp only [List.getElem_toArray, List.getElem_cons_succ, List.getElem_cons_zero, Act.put, List.setIfInBounds_toArray, List.set_cons_zero, List.set_cons_succ]
        refine wpAnyH_take (i := 12) (v := ?vb12) rfl (by kernel_rfl) (by kernel_rfl) (by kernel_rfl) (fun _ _ _ h => h) (Or.inl ⟨by rfl, ?yb12⟩) hHeld ?rb12
        case yb12 => (intro W hW; obtain ⟨hW0, hW1⟩ := hW; go_simp; first | done | with_reducible rfl)
        try simp only [List.getElem_toArray, List.getElem_cons_succ, List.getElem_cons_zero, Act.put, List.setIfInBounds_toArray, List.set_cons_zero, List.set_cons_succ]
        refine wpAnyH_take (i := 13) (v := ?vb13) rfl (by kernel_rfl) (by kernel_rfl) (by kernel_rfl) (fun _ _ _ h => h) (Or.inl ⟨by rfl, ?yb13⟩) hHeld ?rb13
        case yb13 => (intro W hW; obtain ⟨hW0, hW1⟩ := hW; go_simp; first | done | with_reducible rfl)
        try simp only [List.getElem_toArray, List.getElem_cons_succ, List.getElem_cons_zero, Act.put, List.setIfInBounds_toArray, List.set_cons_zero, List.set_cons_succ]
        refine wpAnyH_take (i := 14) (v := ?vb14) rfl (by kernel_rfl) (by kernel_rfl) (by kernel_rfl) (fun _ _ _ h => h) (Or.inl ⟨by rfl, ?yb14⟩) hHeld ?rb14
        case yb14 => (intro W hW; obtain ⟨hW0, hW1⟩ := hW; go_simp; first | done | with_reducible rfl)
        try simp only [List.getElem_toArray, List.getElem_cons_succ, List.getElem_cons_zero, Act.put, List.setIfInBounds_toArray, List.set_cons_zero, List.set_cons_succ]
        refine wpAnyH_done (by kernel_rfl) ?_ _
        go_wp2
        go_ret
        exact ⟨by simp, HB3.out.trans (HB8.out.mono HB3.out.size)⟩
end Go.Proofs.YtbmdiiifhccebaaDoor
