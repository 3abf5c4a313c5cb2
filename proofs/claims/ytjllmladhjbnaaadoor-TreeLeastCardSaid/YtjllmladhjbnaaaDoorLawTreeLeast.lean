/- The law TreeLeast. -/
import Derived.IntWalk
import Derived.Test.YtjllmladhjbnaaaDoorKn11
import Derived.Test.YtjllmladhjbnaaaDoorL8
import Derived.Test.YtjllmladhjbnaaaDoorRegion
import Derived.Test.YtjllmladhjbnaaaDoorRegP
import Derived.Test.YtjllmladhjbnaaaDoorRset
import Derived.Test.YtjllmladhjbnaaaDoorOth
namespace Go.Proofs.YtjllmladhjbnaaaDoor
open Go.RowKit Go.Shelf
attribute [local go_sem] Oper.semAt_some
theorem cheapL_first (f : Int → Int) (l : List Int) (hp : l.Pairwise (· < ·)) : l ≠ [] → ∀ x ∈ l, f x = f (cheapL f l) → cheapL f l ≤ x := by
  induction l using snoc_ind with
  | h0 => intro h; exact absurd rfl h
  | h1 l x ih =>
    intro _ y hy he
    rw [List.pairwise_append] at hp
    by_cases h : l = []
    · subst h
      simp at hy
      subst hy
      exact Int.le_refl _
    · have hs := cheapL_spec f l h
      rw [cheapL_snoc f l x h] at he ⊢
      split at he
      · rename_i hlt
        rw [if_pos hlt]
        rcases List.mem_append.1 hy with g | g
        · have := hs.2 y g; omega
        · simp at g; subst g; exact Int.le_refl _
      · rename_i hlt
        rw [if_neg hlt]
        rcases List.mem_append.1 hy with g | g
        · exact ih hp.1 h y g he
        · simp at g; subst g
          exact Int.le_of_lt (hp.2.2 _ hs.1 y (by simp))
theorem par_rise : ∀ d, 1 ≤ d → d ≤ 4 → ∀ s ∈ setsL d, (parL s d).Pairwise (· < ·) := by
  intro d h1 h2
  rcases (by omega : d = 1 ∨ d = 2 ∨ d = 3 ∨ d = 4) with rfl | rfl | rfl | rfl <;> decide +kernel
theorem tree_first {cs : List Int} {n : Int} {e : Ed} (d1 : 1 ≤ cs.length) (d4 : cs.length ≤ 4) (h : e ∈ treeM cs n) (hp : parL e.s cs.length ≠ []) : ∀ x ∈ parL e.s cs.length, sizeB cs n x = sizeB cs n e.p → e.p ≤ x := by
  obtain ⟨hs, he⟩ := tree_mem h
  have e1 : e.p = cheapL (sizeB cs n) (parL e.s cs.length) := by rw [he]; show leastP _ _ = _; unfold leastP; rw [if_neg hp]; rw [he]; rfl
  rw [e1]
  exact cheapL_first _ _ (par_rise _ d1 d4 _ hs) hp
set_option maxRecDepth 100000 in
set_option maxHeartbeats 8000000 in
theorem treeLeast_walk (a0 : Int) (a1 : Option Addr) (len1 cap1 : Nat) (z1 : List Int) (a2 : Int) (w : World) (h0 : inK .i64 a0) (w1 : IsRow .i64 w a1 len1 cap1 z1) (h2 : inK .i64 a2) (hT : Tab w) (hw1 : 1 < w.heap.size) :
    Calls Tryd.prog 4 #[.int .i64 a0, .slice a1 len1 cap1, .int .i64 a2] w fun e w' => e = .returned (.bool true) ∧ Below w.heap.size w w' := by
  obtain ⟨n1, lc1, cm1⟩ := w1.nums
  have N1 := Lib.hid n1
  have HKn := Lib.hid (known11_any w hT hw1)
  have HT := Lib.hid hT
  clear w1 n1 hT
  go_enter Tryd.func4, Tryd.ntmps4
  go_wp2_with fail
  refine HKn.out.mono ?_
  rintro e w1 ⟨rfl, hb1⟩
  have Hb1 := Lib.hid hb1
  clear hb1 HKn
  go_wp2_with fail
  refine (Facts_res a0 0 a1 none len1 cap1 0 0 _ [] w1 (N1.out.keep (Keeps.of_below Hb1.out)) (Nums.nil _ _ _) (by omega) (by omega) h0 (by constructor <;> omega)).mono ?_
  rintro e w2 ⟨A, c, D, d, C, q, mm, m, cs, l, rfl, hF⟩
  obtain ⟨k1, k2, k3⟩ : 1 ≤ q ∧ q ≤ 4 ∧ mm ≤ 2 := ⟨hF.q1, hF.q4, hF.m2⟩
  have hb2 : Below w.heap.size w w2 := Hb1.out.trans (hF.below.mono Hb1.out.size)
  have hck : checkB cs (mm : Int) = true := by rw [hF.ecs, hF.emm]; exact fCards_check _ _ _
  have hcl := hF.eq
  obtain ⟨W3, hW3⟩ : ∃ W3, W3 = w2.alloc (.cells #[.slice A q c, .int .i64 mm] 25) := ⟨_, rfl⟩
  have hb3 : Below w.heap.size w W3 := by rw [hW3]; exact hb2.alloc hb2.size _
  have hbx : Bx W3 w2.heap.size #[.slice A q c, .int .i64 mm] := by rw [hW3]; exact Bx.new _ _ _
  have hnq : Nums .i64 W3 A q cs := by rw [hW3]; exact hF.nums.keep (Keeps.of_below (below_box w2 _))
  have HFQ := Lib.hid (fun (n : Int) (W : World) (hb : Below W3.heap.size W3 W) (n0 : 0 ≤ n) (n3 : n ≤ 300) => (⟨hnq.keep (Keeps.of_below hb), k1, k2, k3, hF.c16, n0, n3, HT.out.below (hb3.trans (hb.mono hb3.size)) hw1, by have := hb3.size; have := hb.size; omega⟩ : FQ W A q mm cs n))
  have HGD := Lib.hid (fun (n : Int) (n0 : 0 ≤ n) (n3 : n ≤ 300) => (⟨hF.c16, by omega, by omega, n0, n3⟩ : Good cs n))
  have HNQ := Lib.hid hnq
  have HCK := Lib.hid hck
  have HB3 := Lib.hid hb3
  have HBX := Lib.hid hbx
  have HW3 := Lib.hid hW3
  have hg3 : w2.heap.size < W3.heap.size := block_lt (hbx 0 _ rfl)
  clear hF hnq hb3 hb2 hbx hck hW3
  have HWI := Lib.hid (lwithin11 a2 301 W3 h2 (by omega) (by omega))
  obtain ⟨r, hr⟩ : ∃ r, r = a2 % 301 := ⟨_, rfl⟩
  rw [← hr] at HWI
  have r0 : 0 ≤ r := by omega
  have r3_ : r ≤ 300 := by omega
  have HPL := Lib.hid (tplan_any A q c mm cs r W3 (HFQ.out r W3 (Below.refl _ _) r0 r3_) HCK.out)
  have hrp := tree_right r (cs := cs) (by omega) (by omega)
  rw [hcl] at hrp
  have HTM := Lib.hid (fun e (h : e ∈ treeM cs r) => h)
  obtain ⟨es, hes⟩ : ∃ es, es = treeM cs r := ⟨_, rfl⟩
  rw [← hes] at HPL hrp
  have hlen : es.length = 2 ^ q := by rw [← setsL_len q k1 k2, ← hrp.sets, List.length_map]
  have hin := right_in k1 k2 hrp
  have HIN := Lib.hid hin
  obtain ⟨N, hN⟩ : ∃ N, N = 2 ^ q := ⟨_, rfl⟩
  have n16 := pow_16 q k2
  rw [← hN] at hlen n16
  have x0 : W3.cell? ⟨w2.heap.size, 0, none⟩ = some (.slice A q c) := HBX.out 0 _ rfl
  have x1 : W3.cell? ⟨w2.heap.size, 1, none⟩ = some (.int .i64 mm) := HBX.out 1 _ rfl
  have HES := Lib.hid hes
  have HRP := Lib.hid hrp
  have HNN := Lib.hid hN
  clear hr hes hin hN hrp HTM
  go_wp2_with fail
  rw [← HW3.out]
  refine HWI.out.mono ?_
  rintro e w' ⟨rfl, rfl⟩
  go_wp2_with fail
  refine HPL.out.mono ?_
  rintro e w4 ⟨v, rfl, ho, hb4⟩
  obtain ⟨P, cP, rfl, hE, hnc⟩ := ho.form2 HIN.out
  rw [hlen] at hE hnc ⊢
  have HE := Lib.hid hE
  have HB4 := Lib.hid hb4
  have HX4 := Lib.hid (HBX.out.keep (Keeps.of_below hb4))
  clear hE hb4 ho x0 x1
  have HBW4 := Lib.hid (HB3.out.trans (HB4.out.mono HB3.out.size))
  have hfe : ∀ e ∈ es, e.sc = false ∧ 0 ≤ e.s ∧ e.s ≤ fullB q ∧ (parL e.s q = [] → e.p = -1) ∧ (parL e.s q ≠ [] → e.p ∈ parL e.s q ∧ (∀ x ∈ parL e.s q, sizeB cs r e.p ≤ sizeB cs r x) ∧ ∀ x ∈ parL e.s q, sizeB cs r x = sizeB cs r e.p → e.p ≤ x) ∧ e.s ∈ setsL q := fun e he => by
    have ht : e ∈ treeM cs r := by rw [← HES.out]; exact he
    have hsb := sets_bd q k1 k2 _ (HRP.out.mem he)
    have hn := tree_none ht
    have hl := tree_least ht
    have hf := tree_first (by omega) (by omega) ht
    rw [hcl] at hn hl hf
    exact ⟨tree_sc ht, hsb.1, hsb.2, hn, fun h => ⟨(hl h).1, (hl h).2, hf h⟩, HRP.out.mem he⟩
  have HFE := Lib.hid hfe
  have hwq : IntKind.i64.wrap (2 ^ min (IntKind.u64.wrap (q : Int)).toNat 64) = (N : Int) := by
    rw [HNN.out]
    rcases (by omega : q = 1 ∨ q = 2 ∨ q = 3 ∨ q = 4) with rfl | rfl | rfl | rfl <;> decide +kernel
  have HWQ := Lib.hid hwq
  have hfb : fullB q = (N : Int) - 1 := by unfold fullB; rw [HNN.out]; push_cast; rfl
  have HFB := Lib.hid hfb
  obtain ⟨g, o, rfl, hcs⟩ := HE.out.2.2 (by omega)
  have HCS := Lib.hid hcs
  clear hfe hwq hfb hcs
  go_wp2_with fail
  go_loopw [11] (fun i wr => ∃ k : Nat, i = .int .i64 k ∧ k ≤ N ∧ Below w4.heap.size w4 wr) (fun i _ => N - (intOf i).toNat)
  case atStart => exact ⟨0, rfl, Nat.zero_le _, Below.refl _ _⟩
  case round =>
    obtain ⟨i, rfl, hi, hb⟩ := hrel
    rename World => wr
    have HB := Lib.hid hb
    have hz := hb.size
    clear hb
    by_cases hiN : i < N
    · obtain ⟨e, he⟩ : ∃ e, es[i]? = some e := ⟨_, List.getElem?_eq_getElem (by omega)⟩
      have kw := Keeps.of_below HB.out
      obtain ⟨y0, y1, y2⟩ := HCS.out i e he
      have u0 := kw _ _ y0
      have u1 := kw _ _ y1
      have u2 := kw _ _ y2
      have hxr := HX4.out.keep kw
      have v0 : wr.cell? ⟨w2.heap.size, 0, none⟩ = some (.slice A q c) := hxr 0 _ rfl
      have v1 : wr.cell? ⟨w2.heap.size, 1, none⟩ = some (.int .i64 mm) := hxr 1 _ rfl
      obtain ⟨hsc, s0, s1, hnone, hsome, hsm⟩ := HFE.out e (List.mem_of_getElem? he)
      rw [hsc] at u2
      obtain ⟨s, hse⟩ : ∃ s, s = e.s := ⟨_, rfl⟩
      obtain ⟨p, hpe⟩ : ∃ s, s = e.p := ⟨_, rfl⟩
      rw [← hse] at u0 s0 s1 hnone hsome hsm
      rw [← hpe] at u1 hnone hsome
      rw [HFB.out] at s1
      have hgeq : decide (s ≥ IntKind.i64.wrap (2 ^ min (IntKind.u64.wrap (q : Int)).toNat 64)) = false := by rw [HWQ.out]; simp; omega
      have hgeq2 : ¬ IntKind.i64.wrap (2 ^ min (IntKind.u64.wrap (q : Int)).toNat 64) ≤ s := by rw [HWQ.out]; omega
      have hgeq3 : decide (IntKind.i64.wrap (2 ^ min (IntKind.u64.wrap (q : Int)).toNat 64) ≤ s) = false := by rw [HWQ.out]; simp; omega
      have hs0 : decide (s < 0) = false := by simp; omega
      obtain ⟨sN, hsN⟩ : ∃ sN : Nat, s = (sN : Int) := ⟨s.toNat, by omega⟩
      have HPA := Lib.hid (fun W => rPar_any sN q W (by rw [← HNN.out]; omega) k2)
      rw [← hsN] at HPA
      have HNO := Lib.hid hnone
      have HSO := Lib.hid hsome
      have HSM := Lib.hid hsm
      have i0 : (0 : Int) ≤ (i : Int) := by omega
      have i1 : (i : Int) < (N : Int) := by omega
      clear y0 y1 y2 he kw hxr hsc hnone hsome hsm hse hpe hsN
      go_wp2_with fail
      refine wp_region_held_drew (S := fun W => W.cell? ⟨g, o + i * 3, none⟩ = some (.int .i64 s) ∧ W.cell? ⟨g, o + i * 3 + 2, none⟩ = some (.bool false) ∧ W.cell? ⟨w2.heap.size, 0, none⟩ = some (.slice A q c)) (by kernel_rfl) ⟨u0, u2, v0⟩ (fun hHeld => ?_)
      refine wpAnyH_take (i := 0) (v := ?va0) rfl (by kernel_rfl) (by kernel_rfl) (by kernel_rfl) (fun _ _ _ h => h) (Or.inl ⟨by rfl, ?ya0⟩) hHeld ?ra0
      case ya0 => (intro W hW; obtain ⟨hW0, hW1, hW2⟩ := hW; go_simp; first | done | with_reducible rfl)
      try simp only [List.getElem_toArray, List.getElem_cons_zero, Act.put, List.setIfInBounds_toArray, List.set_cons_zero, List.set_cons_succ]
      refine wpAnyH_take (i := 1) (v := ?va1) rfl (by kernel_rfl) (by kernel_rfl) (by kernel_rfl) (fun _ _ _ h => h) (Or.inl ⟨by rfl, ?ya1⟩) hHeld ?ra1
      case ya1 => (intro W hW; obtain ⟨hW0, hW1, hW2⟩ := hW; go_simp; first | done | with_reducible rfl)
      try simp only [List.getElem_toArray, List.getElem_cons_succ, List.getElem_cons_zero, Act.put, List.setIfInBounds_toArray, List.set_cons_zero, List.set_cons_succ]
      refine wpAnyH_take (i := 2) (v := ?va2) rfl (by kernel_rfl) (by kernel_rfl) (by kernel_rfl) (fun _ _ _ h => h) (Or.inl ⟨by rfl, ?ya2⟩) hHeld ?ra2
      case ya2 => (intro W hW; obtain ⟨hW0, hW1, hW2⟩ := hW; go_simp; first | done | with_reducible rfl)
      try simp only [List.getElem_toArray, List.getElem_cons_succ, List.getElem_cons_zero, Act.put, List.setIfInBounds_toArray, List.set_cons_zero, List.set_cons_succ]
      refine wpAnyH_take (i := 3) (v := ?va3) rfl (by kernel_rfl) (by kernel_rfl) (by kernel_rfl) (fun _ _ _ h => h) (Or.inl ⟨by rfl, ?ya3⟩) hHeld ?ra3
      case ya3 => (intro W hW; obtain ⟨hW0, hW1, hW2⟩ := hW; go_simp; first | done | with_reducible rfl)
      try simp only [List.getElem_toArray, List.getElem_cons_succ, List.getElem_cons_zero, Act.put, List.setIfInBounds_toArray, List.set_cons_zero, List.set_cons_succ]
      refine wpAnyH_take (i := 4) (v := ?va4) rfl (by kernel_rfl) (by kernel_rfl) (by kernel_rfl) (fun _ _ _ h => h) (Or.inl ⟨by rfl, ?ya4⟩) hHeld ?ra4
      case ya4 => (intro W hW; obtain ⟨hW0, hW1, hW2⟩ := hW; go_simp; first | done | with_reducible rfl)
      try simp only [List.getElem_toArray, List.getElem_cons_succ, List.getElem_cons_zero, Act.put, List.setIfInBounds_toArray, List.set_cons_zero, List.set_cons_succ]
      refine wpAnyH_take (i := 5) (v := ?va5) rfl (by kernel_rfl) (by kernel_rfl) (by kernel_rfl) (fun _ _ _ h => h) (Or.inl ⟨by rfl, ?ya5⟩) hHeld ?ra5
      case ya5 => (intro W hW; obtain ⟨hW0, hW1, hW2⟩ := hW; go_simp; first | done | with_reducible rfl)
      try simp only [List.getElem_toArray, List.getElem_cons_succ, List.getElem_cons_zero, Act.put, List.setIfInBounds_toArray, List.set_cons_zero, List.set_cons_succ]
      refine wpAnyH_take (i := 6) (v := ?va6) rfl (by kernel_rfl) (by kernel_rfl) (by kernel_rfl) (fun _ _ _ h => h) (Or.inl ⟨by rfl, ?ya6⟩) hHeld ?ra6
      case ya6 => (intro W hW; obtain ⟨hW0, hW1, hW2⟩ := hW; go_simp; first | done | with_reducible rfl)
      try simp only [List.getElem_toArray, List.getElem_cons_succ, List.getElem_cons_zero, Act.put, List.setIfInBounds_toArray, List.set_cons_zero, List.set_cons_succ]
      refine wpAnyH_take (i := 7) (v := ?va7) rfl (by kernel_rfl) (by kernel_rfl) (by kernel_rfl) (fun _ _ _ h => h) (Or.inl ⟨by rfl, ?ya7⟩) hHeld ?ra7
      case ya7 => (intro W hW; obtain ⟨hW0, hW1, hW2⟩ := hW; go_simp; first | done | with_reducible rfl)
      try simp only [List.getElem_toArray, List.getElem_cons_succ, List.getElem_cons_zero, Act.put, List.setIfInBounds_toArray, List.set_cons_zero, List.set_cons_succ]
      refine wpAnyH_take (i := 8) (v := ?va8) rfl (by kernel_rfl) (by kernel_rfl) (by kernel_rfl) (fun _ _ _ h => h) (Or.inl ⟨by rfl, ?ya8⟩) hHeld ?ra8
      case ya8 => (intro W hW; obtain ⟨hW0, hW1, hW2⟩ := hW; go_simp; first | done | with_reducible rfl)
      try simp only [List.getElem_toArray, List.getElem_cons_succ, List.getElem_cons_zero, Act.put, List.setIfInBounds_toArray, List.set_cons_zero, List.set_cons_succ]
      refine wpAnyH_take (i := 9) (v := ?va9) rfl (by kernel_rfl) (by kernel_rfl) (by kernel_rfl) (fun _ _ _ h => h) (Or.inl ⟨by rfl, ?ya9⟩) hHeld ?ra9
      case ya9 => (intro W hW; obtain ⟨hW0, hW1, hW2⟩ := hW; go_simp; first | done | with_reducible rfl)
      try simp only [List.getElem_toArray, List.getElem_cons_succ, List.getElem_cons_zero, Act.put, List.setIfInBounds_toArray, List.set_cons_zero, List.set_cons_succ]
      refine wpAnyH_take (i := 10) (v := ?va10) rfl (by kernel_rfl) (by kernel_rfl) (by kernel_rfl) (fun _ _ _ h => h) (Or.inl ⟨by rfl, ?ya10⟩) hHeld ?ra10
      case ya10 => (intro W hW; obtain ⟨hW0, hW1, hW2⟩ := hW; go_simp; first | done | with_reducible rfl)
      try simp only [List.getElem_toArray, List.getElem_cons_succ, List.getElem_cons_zero, Act.put, List.setIfInBounds_toArray, List.set_cons_zero, List.set_cons_succ]
      refine wpAnyH_take (i := 11) (v := ?va11) rfl (by kernel_rfl) (by kernel_rfl) (by kernel_rfl) (fun _ _ _ h => h) (Or.inl ⟨by rfl, ?ya11⟩) hHeld ?ra11
      case ya11 => (intro W hW; obtain ⟨hW0, hW1, hW2⟩ := hW; go_simp; first | done | with_reducible rfl)
      try simp only [List.getElem_toArray, List.getElem_cons_succ, List.getElem_cons_zero, Act.put, List.setIfInBounds_toArray, List.set_cons_zero, List.set_cons_succ]
      refine wpAnyH_take (i := 12) (v := ?va12) rfl (by kernel_rfl) (by kernel_rfl) (by kernel_rfl) (fun _ _ _ h => h) (Or.inl ⟨by rfl, ?ya12⟩) hHeld ?ra12
      case ya12 => (intro W hW; obtain ⟨hW0, hW1, hW2⟩ := hW; go_simp; first | done | with_reducible rfl)
      try simp only [List.getElem_toArray, List.getElem_cons_succ, List.getElem_cons_zero, Act.put, List.setIfInBounds_toArray, List.set_cons_zero, List.set_cons_succ]
      refine wpAnyH_take (i := 13) (v := ?va13) rfl (by kernel_rfl) (by kernel_rfl) (by kernel_rfl) (fun _ _ _ h => h) (Or.inl ⟨by rfl, ?ya13⟩) hHeld ?ra13
      case ya13 => (intro W hW; obtain ⟨hW0, hW1, hW2⟩ := hW; go_simp; first | done | with_reducible rfl)
      try simp only [List.getElem_toArray, List.getElem_cons_succ, List.getElem_cons_zero, Act.put, List.setIfInBounds_toArray, List.set_cons_zero, List.set_cons_succ]
      refine wpAnyH_take (i := 14) (v := ?va14) rfl (by kernel_rfl) (by kernel_rfl) (by kernel_rfl) (fun _ _ _ h => h) (Or.inl ⟨by rfl, ?ya14⟩) hHeld ?ra14
      case ya14 => (intro W hW; obtain ⟨hW0, hW1, hW2⟩ := hW; go_simp; first | done | with_reducible rfl)
      try simp only [List.getElem_toArray, List.getElem_cons_succ, List.getElem_cons_zero, Act.put, List.setIfInBounds_toArray, List.set_cons_zero, List.set_cons_succ]
      refine wpAnyH_take (i := 15) (v := ?va15) rfl (by kernel_rfl) (by kernel_rfl) (by kernel_rfl) (fun _ _ _ h => h) (Or.inl ⟨by rfl, ?ya15⟩) hHeld ?ra15
      case ya15 => (intro W hW; obtain ⟨hW0, hW1, hW2⟩ := hW; go_simp; first | done | with_reducible rfl)
      try simp only [List.getElem_toArray, List.getElem_cons_succ, List.getElem_cons_zero, Act.put, List.setIfInBounds_toArray, List.set_cons_zero, List.set_cons_succ]
      refine wpAnyH_take (i := 16) (v := ?va16) rfl (by kernel_rfl) (by kernel_rfl) (by kernel_rfl) (fun _ _ _ h => h) (Or.inl ⟨by rfl, ?ya16⟩) hHeld ?ra16
      case ya16 => (intro W hW; obtain ⟨hW0, hW1, hW2⟩ := hW; go_simp; first | done | with_reducible rfl)
      try simp only [List.getElem_toArray, List.getElem_cons_succ, List.getElem_cons_zero, Act.put, List.setIfInBounds_toArray, List.set_cons_zero, List.set_cons_succ]
      refine wpAnyH_take (i := 17) (v := ?va17) rfl (by kernel_rfl) (by kernel_rfl) (by kernel_rfl) (fun _ _ _ h => h) (Or.inl ⟨by rfl, ?ya17⟩) hHeld ?ra17
      case ya17 => (intro W hW; obtain ⟨hW0, hW1, hW2⟩ := hW; go_simp; first | done | with_reducible rfl)
      try simp only [List.getElem_toArray, List.getElem_cons_succ, List.getElem_cons_zero, Act.put, List.setIfInBounds_toArray, List.set_cons_zero, List.set_cons_succ]
      refine wpAnyH_take (i := 18) (v := ?va18) rfl (by kernel_rfl) (by kernel_rfl) (by kernel_rfl) (fun _ _ _ h => h) (Or.inl ⟨by rfl, ?ya18⟩) hHeld ?ra18
      case ya18 => (intro W hW; obtain ⟨hW0, hW1, hW2⟩ := hW; go_simp; first | done | with_reducible rfl)
      try simp only [List.getElem_toArray, List.getElem_cons_succ, List.getElem_cons_zero, Act.put, List.setIfInBounds_toArray, List.set_cons_zero, List.set_cons_succ]
      refine wpAnyH_take (i := 19) (v := ?va19) rfl (by kernel_rfl) (by kernel_rfl) (by kernel_rfl) (fun _ _ _ h => h) (Or.inl ⟨by rfl, ?ya19⟩) hHeld ?ra19
      case ya19 => (intro W hW; obtain ⟨hW0, hW1, hW2⟩ := hW; go_simp; first | done | with_reducible rfl)
      try simp only [List.getElem_toArray, List.getElem_cons_succ, List.getElem_cons_zero, Act.put, List.setIfInBounds_toArray, List.set_cons_zero, List.set_cons_succ]
      refine wpAnyH_take (i := 20) (v := ?va20) rfl (by kernel_rfl) (by kernel_rfl) (by kernel_rfl) (fun _ _ _ h => h) (Or.inl ⟨by rfl, ?ya20⟩) hHeld ?ra20
      case ya20 => (intro W hW; obtain ⟨hW0, hW1, hW2⟩ := hW; go_simp; first | done | with_reducible rfl)
      try simp only [List.getElem_toArray, List.getElem_cons_succ, List.getElem_cons_zero, Act.put, List.setIfInBounds_toArray, List.set_cons_zero, List.set_cons_succ]
      refine wpAnyH_take (i := 21) (v := ?va21) rfl (by kernel_rfl) (by kernel_rfl) (by kernel_rfl) (fun _ _ _ h => h) (Or.inl ⟨by rfl, ?ya21⟩) hHeld ?ra21
      case ya21 => (intro W hW; obtain ⟨hW0, hW1, hW2⟩ := hW; go_simp; first | done | with_reducible rfl)
      try simp only [List.getElem_toArray, List.getElem_cons_succ, List.getElem_cons_zero, Act.put, List.setIfInBounds_toArray, List.set_cons_zero, List.set_cons_succ]
      refine wpAnyH_take (i := 22) (v := ?va22) rfl (by kernel_rfl) (by kernel_rfl) (by kernel_rfl) (fun _ _ _ h => h) (Or.inl ⟨by rfl, ?ya22⟩) hHeld ?ra22
      case ya22 => (intro W hW; obtain ⟨hW0, hW1, hW2⟩ := hW; go_simp; first | done | with_reducible rfl)
      try simp only [List.getElem_toArray, List.getElem_cons_succ, List.getElem_cons_zero, Act.put, List.setIfInBounds_toArray, List.set_cons_zero, List.set_cons_succ]
      refine wpAnyH_take (i := 23) (v := ?va23) rfl (by kernel_rfl) (by kernel_rfl) (by kernel_rfl) (fun _ _ _ h => h) (Or.inl ⟨by rfl, ?ya23⟩) hHeld ?ra23
      case ya23 => (intro W hW; obtain ⟨hW0, hW1, hW2⟩ := hW; go_simp; first | done | with_reducible rfl)
      try simp only [List.getElem_toArray, List.getElem_cons_succ, List.getElem_cons_zero, Act.put, List.setIfInBounds_toArray, List.set_cons_zero, List.set_cons_succ]
      refine wpAnyH_take (i := 24) (v := ?va24) rfl (by kernel_rfl) (by kernel_rfl) (by kernel_rfl) (fun _ _ _ h => h) (Or.inl ⟨by rfl, ?ya24⟩) hHeld ?ra24
      case ya24 => (intro W hW; obtain ⟨hW0, hW1, hW2⟩ := hW; go_simp; first | done | with_reducible rfl)
      try simp only [List.getElem_toArray, List.getElem_cons_succ, List.getElem_cons_zero, Act.put, List.setIfInBounds_toArray, List.set_cons_zero, List.set_cons_succ]
      refine wpAnyH_take (i := 25) (v := ?va25) rfl (by kernel_rfl) (by kernel_rfl) (by kernel_rfl) (fun _ _ _ h => h) (Or.inl ⟨by rfl, ?ya25⟩) hHeld ?ra25
      case ya25 => (intro W hW; obtain ⟨hW0, hW1, hW2⟩ := hW; go_simp; first | done | with_reducible rfl)
      try simp only [List.getElem_toArray, List.getElem_cons_succ, List.getElem_cons_zero, Act.put, List.setIfInBounds_toArray, List.set_cons_zero, List.set_cons_succ]
      refine wpAnyH_done (by kernel_rfl) ?_ _
      clear hHeld
      clear hgeq hgeq2 hgeq3 hs0 u2
      go_wp2_with fail
      refine wp_region_held_drew (S := fun W => W.cell? ⟨g, o + i * 3, none⟩ = some (.int .i64 s) ∧ W.cell? ⟨w2.heap.size, 0, none⟩ = some (.slice A q c)) (by kernel_rfl) ⟨u0, v0⟩ (fun hHeld => ?_)
      refine wpAnyH_take (i := 0) (v := ?vb0) rfl (by kernel_rfl) (by kernel_rfl) (by kernel_rfl) (fun _ _ _ h => h) (Or.inl ⟨by rfl, ?yb0⟩) hHeld ?rb0
      case yb0 => (intro W hW; obtain ⟨hW0, hW1⟩ := hW; go_simp; first | done | with_reducible rfl)
      try simp only [List.getElem_toArray, List.getElem_cons_zero, Act.put, List.setIfInBounds_toArray, List.set_cons_zero, List.set_cons_succ]
      refine wpAnyH_take (i := 1) (v := ?vb1) rfl (by kernel_rfl) (by kernel_rfl) (by kernel_rfl) (fun _ _ _ h => h) (Or.inl ⟨by rfl, ?yb1⟩) hHeld ?rb1
      case yb1 => (intro W hW; obtain ⟨hW0, hW1⟩ := hW; go_simp; first | done | with_reducible rfl)
      try simp only [List.getElem_toArray, List.getElem_cons_succ, List.getElem_cons_zero, Act.put, List.setIfInBounds_toArray, List.set_cons_zero, List.set_cons_succ]
      refine wpAnyH_take (i := 2) (v := ?vb2) rfl (by kernel_rfl) (by kernel_rfl) (by kernel_rfl) (fun _ _ _ h => h) (Or.inl ⟨by rfl, ?yb2⟩) hHeld ?rb2
      case yb2 => (intro W hW; obtain ⟨hW0, hW1⟩ := hW; go_simp; first | done | with_reducible rfl)
      try simp only [List.getElem_toArray, List.getElem_cons_succ, List.getElem_cons_zero, Act.put, List.setIfInBounds_toArray, List.set_cons_zero, List.set_cons_succ]
      refine wpAnyH_take (i := 3) (v := ?vb3) rfl (by kernel_rfl) (by kernel_rfl) (by kernel_rfl) (fun _ _ _ h => h) (Or.inl ⟨by rfl, ?yb3⟩) hHeld ?rb3
      case yb3 => (intro W hW; obtain ⟨hW0, hW1⟩ := hW; go_simp; first | done | with_reducible rfl)
      try simp only [List.getElem_toArray, List.getElem_cons_succ, List.getElem_cons_zero, Act.put, List.setIfInBounds_toArray, List.set_cons_zero, List.set_cons_succ]
      refine wpAnyH_take (i := 4) (v := ?vb4) rfl (by kernel_rfl) (by kernel_rfl) (by kernel_rfl) (fun _ _ _ h => h) (Or.inl ⟨by rfl, ?yb4⟩) hHeld ?rb4
      case yb4 => (intro W hW; obtain ⟨hW0, hW1⟩ := hW; go_simp; first | done | with_reducible rfl)
      try simp only [List.getElem_toArray, List.getElem_cons_succ, List.getElem_cons_zero, Act.put, List.setIfInBounds_toArray, List.set_cons_zero, List.set_cons_succ]
      refine wpAnyH_take (i := 5) (v := ?vb5) rfl (by kernel_rfl) (by kernel_rfl) (by kernel_rfl) (fun _ _ _ h => h) (Or.inl ⟨by rfl, ?yb5⟩) hHeld ?rb5
      case yb5 => (intro W hW; obtain ⟨hW0, hW1⟩ := hW; go_simp; first | done | with_reducible rfl)
      try simp only [List.getElem_toArray, List.getElem_cons_succ, List.getElem_cons_zero, Act.put, List.setIfInBounds_toArray, List.set_cons_zero, List.set_cons_succ]
      refine wpAnyH_take (i := 6) (v := ?vb6) rfl (by kernel_rfl) (by kernel_rfl) (by kernel_rfl) (fun _ _ _ h => h) (Or.inl ⟨by rfl, ?yb6⟩) hHeld ?rb6
      case yb6 => (intro W hW; obtain ⟨hW0, hW1⟩ := hW; go_simp; first | done | with_reducible rfl)
      try simp only [List.getElem_toArray, List.getElem_cons_succ, List.getElem_cons_zero, Act.put, List.setIfInBounds_toArray, List.set_cons_zero, List.set_cons_succ]
      refine wpAnyH_take (i := 7) (v := ?vb7) rfl (by kernel_rfl) (by kernel_rfl) (by kernel_rfl) (fun _ _ _ h => h) (Or.inl ⟨by rfl, ?yb7⟩) hHeld ?rb7
      case yb7 => (intro W hW; obtain ⟨hW0, hW1⟩ := hW; go_simp; first | done | with_reducible rfl)
      try simp only [List.getElem_toArray, List.getElem_cons_succ, List.getElem_cons_zero, Act.put, List.setIfInBounds_toArray, List.set_cons_zero, List.set_cons_succ]
      refine wpAnyH_ready (rs := [8]) (by kernel_rfl) (by simp) ?_
      refine AllReadyH.cons rfl (fun K hK => ?_) (AllReadyH.nil)
      go_simp
      refine (HPA.out _).mono ?_
      rintro e9 w5 ⟨vp, rfl, hop, hb5⟩
      have k5 := Keeps.of_below hb5
      have HB5 := Lib.hid ((HB.out.drew.drew).trans (hb5.mono hz))
      have HOP := Lib.hid hop
      clear hb5 hop
      refine hK.out _ _ (⟨k5 _ _ u0, k5 _ _ v0⟩) (fun hHeld => ?_)
      clear hK K
      try simp only [List.getElem_toArray, List.getElem_cons_succ, List.getElem_cons_zero, Act.put, List.setIfInBounds_toArray, List.set_cons_zero, List.set_cons_succ]
      refine wpAnyH_take (i := 9) (v := ?vb9) rfl (by kernel_rfl) (by kernel_rfl) (by kernel_rfl) (fun _ _ _ h => h) (Or.inl ⟨by rfl, ?yb9⟩) hHeld ?rb9
      case yb9 => (intro W hW; obtain ⟨hW0, hW1⟩ := hW; go_simp; first | done | with_reducible rfl)
      try simp only [List.getElem_toArray, List.getElem_cons_succ, List.getElem_cons_zero, Act.put, List.setIfInBounds_toArray, List.set_cons_zero, List.set_cons_succ]
      refine wpAnyH_done (by kernel_rfl) ?_ _
      clear hHeld
      have p1 : w5.cell? ⟨g, o + i * 3 + 1, none⟩ = some (.int .i64 p) := k5 _ _ u1
      have q0 : w5.cell? ⟨w2.heap.size, 0, none⟩ = some (.slice A q c) := k5 _ _ v0
      have q1' : w5.cell? ⟨w2.heap.size, 1, none⟩ = some (.int .i64 mm) := k5 _ _ v1
      obtain ⟨PP, cP2, rfl, -, -, hnp, -⟩ := HOP.out.form
      obtain ⟨M, hM⟩ : ∃ M, M = (parL s q).length := ⟨_, rfl⟩
      rw [← hM] at hnp ⊢
      have HNP := Lib.hid hnp
      have HM := Lib.hid hM
      clear hnp hM k5 u0 u1 v0 v1
      by_cases hM0 : M = 0
      · have hpn : p = -1 := HNO.out (List.eq_nil_of_length_eq_zero (by rw [← HM.out]; exact hM0))
        subst hM0
        subst hpn
        go_wp2
        go_roundw
        case rel => exact ⟨i + 1, by go_num, by omega, HB5.out⟩
        case measure => simp [intOf]; omega
      · have hM1 : ((M : Int) == 0) = false := by simp; omega
        have hM2 : ¬ (M : Int) = 0 := by omega
        have hne : parL s q ≠ [] := fun e => by rw [e] at HM; exact hM0 HM.out
        obtain ⟨hpm, hpl, hpf⟩ := HSO.out hne
        have hM100 : M ≤ 100 := by rw [HM.out]; unfold parL; rw [List.length_map]; have := dimsL_le (lackI s q); omega
        have hany : (parL s q).any (fun x => x == p) = true := by rw [List.any_eq_true]; exact ⟨p, hpm, by simp⟩
        have hparb : ∀ x ∈ parL s q, 0 ≤ x ∧ x ≤ fullB q := fun x hx => sets_bd q k1 k2 x (par_lvl q k1 k2 s HSM.out x hx).2
        have HPM := Lib.hid hpm
        have HPL2 := Lib.hid hpl
        have HPF := Lib.hid hpf
        have HAN := Lib.hid hany
        have HPB := Lib.hid hparb
        clear hne hpm hpl hpf hany hparb hM0
        go_wp2_with fail
        go_loopw [13, 14] (fun b j wq => ∃ k : Nat, j = .int .i64 k ∧ k ≤ M ∧ b = .bool (((parL s q).take k).any fun x => x == p) ∧ Below w5.heap.size w5 wq) (fun _ j _ => M - (intOf j).toNat)
        case atStart => exact ⟨0, rfl, Nat.zero_le _, rfl, Below.refl _ _⟩
        case round =>
          obtain ⟨k, rfl, hk, rfl, hbq⟩ := hrel
          rename World => wq
          have HBQ := Lib.hid hbq
          have hzq := hbq.size
          have kq := Keeps.of_below hbq
          clear hbq
          by_cases hkM : k < M
          · obtain ⟨ad, x, rfl, hx, -, hcx⟩ := (HNP.out.keep kq).at_ hkM
            have hat := anyI_take' (p := p) hx
            have r1 := kq _ _ p1
            have k0 : (0 : Int) ≤ (k : Int) := by omega
            have k1' : (k : Int) < (M : Int) := by omega
            obtain ⟨bb, hbb⟩ : ∃ bb, bb = ((parL s q).take k).any fun x => x == p := ⟨_, rfl⟩
            rw [← hbb] at hat ⊢
            have HAT := Lib.hid hat
            clear hat hbb hx kq
            cases bb with
            | true =>
              go_wp2_with fail
              refine wp_region_held_drew (S := fun W => W.cell? (ad.add k) = some (.int .i64 x)) (by kernel_rfl) hcx (fun hHeld => ?_)
              refine wpAnyH_take (i := 0) (v := ?vc0) rfl (by kernel_rfl) (by kernel_rfl) (by kernel_rfl) (fun _ _ _ h => h) (Or.inl ⟨by rfl, ?yc0⟩) hHeld ?rc0
              case yc0 => (intro W hW; obtain hW0 := hW; go_simp; first | done | with_reducible rfl)
              try simp only [List.getElem_toArray, List.getElem_cons_zero, Act.put, List.setIfInBounds_toArray, List.set_cons_zero, List.set_cons_succ]
              refine wpAnyH_take (i := 1) (v := ?vc1) rfl (by kernel_rfl) (by kernel_rfl) (by kernel_rfl) (fun _ _ _ h => h) (Or.inl ⟨by rfl, ?yc1⟩) hHeld ?rc1
              case yc1 => (intro W hW; obtain hW0 := hW; go_simp; first | done | with_reducible rfl)
              try simp only [List.getElem_toArray, List.getElem_cons_succ, List.getElem_cons_zero, Act.put, List.setIfInBounds_toArray, List.set_cons_zero, List.set_cons_succ]
              refine wpAnyH_take (i := 2) (v := undef) rfl (by kernel_rfl) (by kernel_rfl) (by kernel_rfl) (fun _ _ _ h => h) (Or.inr ⟨by rfl, rfl⟩) hHeld ?rc2
              try simp only [List.getElem_toArray, List.getElem_cons_succ, List.getElem_cons_zero, Act.put, List.setIfInBounds_toArray, List.set_cons_zero, List.set_cons_succ]
              refine wpAnyH_take (i := 3) (v := undef) rfl (by kernel_rfl) (by kernel_rfl) (by kernel_rfl) (fun _ _ _ h => h) (Or.inr ⟨by rfl, rfl⟩) hHeld ?rc3
              try simp only [List.getElem_toArray, List.getElem_cons_succ, List.getElem_cons_zero, Act.put, List.setIfInBounds_toArray, List.set_cons_zero, List.set_cons_succ]
              refine wpAnyH_take (i := 4) (v := undef) rfl (by kernel_rfl) (by kernel_rfl) (by kernel_rfl) (fun _ _ _ h => h) (Or.inr ⟨by rfl, rfl⟩) hHeld ?rc4
              try simp only [List.getElem_toArray, List.getElem_cons_succ, List.getElem_cons_zero, Act.put, List.setIfInBounds_toArray, List.set_cons_zero, List.set_cons_succ]
              refine wpAnyH_take (i := 5) (v := undef) rfl (by kernel_rfl) (by kernel_rfl) (by kernel_rfl) (fun _ _ _ h => h) (Or.inr ⟨by rfl, rfl⟩) hHeld ?rc5
              try simp only [List.getElem_toArray, List.getElem_cons_succ, List.getElem_cons_zero, Act.put, List.setIfInBounds_toArray, List.set_cons_zero, List.set_cons_succ]
              refine wpAnyH_take (i := 6) (v := undef) rfl (by kernel_rfl) (by kernel_rfl) (by kernel_rfl) (fun _ _ _ h => h) (Or.inr ⟨by rfl, rfl⟩) hHeld ?rc6
              try simp only [List.getElem_toArray, List.getElem_cons_succ, List.getElem_cons_zero, Act.put, List.setIfInBounds_toArray, List.set_cons_zero, List.set_cons_succ]
              refine wpAnyH_take (i := 7) (v := undef) rfl (by kernel_rfl) (by kernel_rfl) (by kernel_rfl) (fun _ _ _ h => h) (Or.inr ⟨by rfl, rfl⟩) hHeld ?rc7
              try simp only [List.getElem_toArray, List.getElem_cons_succ, List.getElem_cons_zero, Act.put, List.setIfInBounds_toArray, List.set_cons_zero, List.set_cons_succ]
              refine wpAnyH_take (i := 8) (v := undef) rfl (by kernel_rfl) (by kernel_rfl) (by kernel_rfl) (fun _ _ _ h => h) (Or.inr ⟨by rfl, rfl⟩) hHeld ?rc8
              try simp only [List.getElem_toArray, List.getElem_cons_succ, List.getElem_cons_zero, Act.put, List.setIfInBounds_toArray, List.set_cons_zero, List.set_cons_succ]
              refine wpAnyH_take (i := 9) (v := undef) rfl (by kernel_rfl) (by kernel_rfl) (by kernel_rfl) (fun _ _ _ h => h) (Or.inr ⟨by rfl, rfl⟩) hHeld ?rc9
              try simp only [List.getElem_toArray, List.getElem_cons_succ, List.getElem_cons_zero, Act.put, List.setIfInBounds_toArray, List.set_cons_zero, List.set_cons_succ]
              refine wpAnyH_take (i := 10) (v := undef) rfl (by kernel_rfl) (by kernel_rfl) (by kernel_rfl) (fun _ _ _ h => h) (Or.inr ⟨by rfl, rfl⟩) hHeld ?rc10
              try simp only [List.getElem_toArray, List.getElem_cons_succ, List.getElem_cons_zero, Act.put, List.setIfInBounds_toArray, List.set_cons_zero, List.set_cons_succ]
              refine wpAnyH_take (i := 11) (v := undef) rfl (by kernel_rfl) (by kernel_rfl) (by kernel_rfl) (fun _ _ _ h => h) (Or.inr ⟨by rfl, rfl⟩) hHeld ?rc11
              try simp only [List.getElem_toArray, List.getElem_cons_succ, List.getElem_cons_zero, Act.put, List.setIfInBounds_toArray, List.set_cons_zero, List.set_cons_succ]
              refine wpAnyH_take (i := 12) (v := ?vc12) rfl (by kernel_rfl) (by kernel_rfl) (by kernel_rfl) (fun _ _ _ h => h) (Or.inl ⟨by rfl, ?yc12⟩) hHeld ?rc12
              case yc12 => (intro W hW; obtain hW0 := hW; go_simp; first | done | with_reducible rfl)
              try simp only [List.getElem_toArray, List.getElem_cons_succ, List.getElem_cons_zero, Act.put, List.setIfInBounds_toArray, List.set_cons_zero, List.set_cons_succ]
              refine wpAnyH_take (i := 13) (v := ?vc13) rfl (by kernel_rfl) (by kernel_rfl) (by kernel_rfl) (fun _ _ _ h => h) (Or.inl ⟨by rfl, ?yc13⟩) hHeld ?rc13
              case yc13 => (intro W hW; obtain hW0 := hW; go_simp; first | done | with_reducible rfl)
              try simp only [List.getElem_toArray, List.getElem_cons_succ, List.getElem_cons_zero, Act.put, List.setIfInBounds_toArray, List.set_cons_zero, List.set_cons_succ]
              refine wpAnyH_done (by kernel_rfl) ?_ _
              clear hHeld
              go_wp2
              go_roundw
              case rel => exact ⟨k + 1, by go_num, by omega, by rw [HAT.out]; simp, HBQ.out.drew⟩
              case measure => simp [intOf]; omega
            | false =>
              by_cases hxp : x = p
              · have hbe : (x == p) = true := by simpa using hxp
                go_wp2_with fail
                refine wp_region_held_drew (S := fun W => W.cell? (ad.add k) = some (.int .i64 x) ∧ W.cell? ⟨g, o + i * 3 + 1, none⟩ = some (.int .i64 p)) (by kernel_rfl) ⟨hcx, r1⟩ (fun hHeld => ?_)
                refine wpAnyH_take (i := 0) (v := ?vd0) rfl (by kernel_rfl) (by kernel_rfl) (by kernel_rfl) (fun _ _ _ h => h) (Or.inl ⟨by rfl, ?yd0⟩) hHeld ?rd0
                case yd0 => (intro W hW; obtain ⟨hW0, hW1⟩ := hW; go_simp; first | done | with_reducible rfl)
                try simp only [List.getElem_toArray, List.getElem_cons_zero, Act.put, List.setIfInBounds_toArray, List.set_cons_zero, List.set_cons_succ]
                refine wpAnyH_take (i := 1) (v := ?vd1) rfl (by kernel_rfl) (by kernel_rfl) (by kernel_rfl) (fun _ _ _ h => h) (Or.inl ⟨by rfl, ?yd1⟩) hHeld ?rd1
                case yd1 => (intro W hW; obtain ⟨hW0, hW1⟩ := hW; go_simp; first | done | with_reducible rfl)
                try simp only [List.getElem_toArray, List.getElem_cons_succ, List.getElem_cons_zero, Act.put, List.setIfInBounds_toArray, List.set_cons_zero, List.set_cons_succ]
                refine wpAnyH_take (i := 2) (v := ?vd2) rfl (by kernel_rfl) (by kernel_rfl) (by kernel_rfl) (fun _ _ _ h => h) (Or.inl ⟨by rfl, ?yd2⟩) hHeld ?rd2
                case yd2 => (intro W hW; obtain ⟨hW0, hW1⟩ := hW; go_simp; first | done | with_reducible rfl)
                try simp only [List.getElem_toArray, List.getElem_cons_succ, List.getElem_cons_zero, Act.put, List.setIfInBounds_toArray, List.set_cons_zero, List.set_cons_succ]
                refine wpAnyH_take (i := 3) (v := ?vd3) rfl (by kernel_rfl) (by kernel_rfl) (by kernel_rfl) (fun _ _ _ h => h) (Or.inl ⟨by rfl, ?yd3⟩) hHeld ?rd3
                case yd3 => (intro W hW; obtain ⟨hW0, hW1⟩ := hW; go_simp; first | done | with_reducible rfl)
                try simp only [List.getElem_toArray, List.getElem_cons_succ, List.getElem_cons_zero, Act.put, List.setIfInBounds_toArray, List.set_cons_zero, List.set_cons_succ]
                refine wpAnyH_take (i := 4) (v := ?vd4) rfl (by kernel_rfl) (by kernel_rfl) (by kernel_rfl) (fun _ _ _ h => h) (Or.inl ⟨by rfl, ?yd4⟩) hHeld ?rd4
                case yd4 => (intro W hW; obtain ⟨hW0, hW1⟩ := hW; go_simp; first | done | with_reducible rfl)
                try simp only [List.getElem_toArray, List.getElem_cons_succ, List.getElem_cons_zero, Act.put, List.setIfInBounds_toArray, List.set_cons_zero, List.set_cons_succ]
                refine wpAnyH_take (i := 5) (v := ?vd5) rfl (by kernel_rfl) (by kernel_rfl) (by kernel_rfl) (fun _ _ _ h => h) (Or.inl ⟨by rfl, ?yd5⟩) hHeld ?rd5
                case yd5 => (intro W hW; obtain ⟨hW0, hW1⟩ := hW; go_simp; first | done | with_reducible rfl)
                try simp only [List.getElem_toArray, List.getElem_cons_succ, List.getElem_cons_zero, Act.put, List.setIfInBounds_toArray, List.set_cons_zero, List.set_cons_succ]
                refine wpAnyH_take (i := 6) (v := ?vd6) rfl (by kernel_rfl) (by kernel_rfl) (by kernel_rfl) (fun _ _ _ h => h) (Or.inl ⟨by rfl, ?yd6⟩) hHeld ?rd6
                case yd6 => (intro W hW; obtain ⟨hW0, hW1⟩ := hW; go_simp; first | done | with_reducible rfl)
                try simp only [List.getElem_toArray, List.getElem_cons_succ, List.getElem_cons_zero, Act.put, List.setIfInBounds_toArray, List.set_cons_zero, List.set_cons_succ]
                refine wpAnyH_take (i := 7) (v := ?vd7) rfl (by kernel_rfl) (by kernel_rfl) (by kernel_rfl) (fun _ _ _ h => h) (Or.inl ⟨by rfl, ?yd7⟩) hHeld ?rd7
                case yd7 => (intro W hW; obtain ⟨hW0, hW1⟩ := hW; go_simp; first | done | with_reducible rfl)
                try simp only [List.getElem_toArray, List.getElem_cons_succ, List.getElem_cons_zero, Act.put, List.setIfInBounds_toArray, List.set_cons_zero, List.set_cons_succ]
                refine wpAnyH_take (i := 8) (v := ?vd8) rfl (by kernel_rfl) (by kernel_rfl) (by kernel_rfl) (fun _ _ _ h => h) (Or.inl ⟨by rfl, ?yd8⟩) hHeld ?rd8
                case yd8 => (intro W hW; obtain ⟨hW0, hW1⟩ := hW; go_simp; first | done | with_reducible rfl)
                try simp only [List.getElem_toArray, List.getElem_cons_succ, List.getElem_cons_zero, Act.put, List.setIfInBounds_toArray, List.set_cons_zero, List.set_cons_succ]
                refine wpAnyH_take (i := 9) (v := ?vd9) rfl (by kernel_rfl) (by kernel_rfl) (by kernel_rfl) (fun _ _ _ h => h) (Or.inl ⟨by rfl, ?yd9⟩) hHeld ?rd9
                case yd9 => (intro W hW; obtain ⟨hW0, hW1⟩ := hW; go_simp; first | done | with_reducible rfl)
                try simp only [List.getElem_toArray, List.getElem_cons_succ, List.getElem_cons_zero, Act.put, List.setIfInBounds_toArray, List.set_cons_zero, List.set_cons_succ]
                refine wpAnyH_take (i := 10) (v := ?vd10) rfl (by kernel_rfl) (by kernel_rfl) (by kernel_rfl) (fun _ _ _ h => h) (Or.inl ⟨by rfl, ?yd10⟩) hHeld ?rd10
                case yd10 => (intro W hW; obtain ⟨hW0, hW1⟩ := hW; go_simp; first | done | with_reducible rfl)
                try simp only [List.getElem_toArray, List.getElem_cons_succ, List.getElem_cons_zero, Act.put, List.setIfInBounds_toArray, List.set_cons_zero, List.set_cons_succ]
                refine wpAnyH_take (i := 11) (v := ?vd11) rfl (by kernel_rfl) (by kernel_rfl) (by kernel_rfl) (fun _ _ _ h => h) (Or.inl ⟨by rfl, ?yd11⟩) hHeld ?rd11
                case yd11 => (intro W hW; obtain ⟨hW0, hW1⟩ := hW; go_simp; first | done | with_reducible rfl)
                try simp only [List.getElem_toArray, List.getElem_cons_succ, List.getElem_cons_zero, Act.put, List.setIfInBounds_toArray, List.set_cons_zero, List.set_cons_succ]
                refine wpAnyH_take (i := 12) (v := ?vd12) rfl (by kernel_rfl) (by kernel_rfl) (by kernel_rfl) (fun _ _ _ h => h) (Or.inl ⟨by rfl, ?yd12⟩) hHeld ?rd12
                case yd12 => (intro W hW; obtain ⟨hW0, hW1⟩ := hW; go_simp; first | done | with_reducible rfl)
                try simp only [List.getElem_toArray, List.getElem_cons_succ, List.getElem_cons_zero, Act.put, List.setIfInBounds_toArray, List.set_cons_zero, List.set_cons_succ]
                refine wpAnyH_take (i := 13) (v := ?vd13) rfl (by kernel_rfl) (by kernel_rfl) (by kernel_rfl) (fun _ _ _ h => h) (Or.inl ⟨by rfl, ?yd13⟩) hHeld ?rd13
                case yd13 => (intro W hW; obtain ⟨hW0, hW1⟩ := hW; go_simp; first | done | with_reducible rfl)
                try simp only [List.getElem_toArray, List.getElem_cons_succ, List.getElem_cons_zero, Act.put, List.setIfInBounds_toArray, List.set_cons_zero, List.set_cons_succ]
                refine wpAnyH_done (by kernel_rfl) ?_ _
                clear hHeld
                go_wp2
                go_roundw
                case rel => exact ⟨k + 1, by go_num, by omega, by rw [HAT.out, hbe]; simp, HBQ.out.drew⟩
                case measure => simp [intOf]; omega
              · have hbe : (x == p) = false := by simpa using hxp
                go_wp2_with fail
                refine wp_region_held_drew (S := fun W => W.cell? (ad.add k) = some (.int .i64 x) ∧ W.cell? ⟨g, o + i * 3 + 1, none⟩ = some (.int .i64 p)) (by kernel_rfl) ⟨hcx, r1⟩ (fun hHeld => ?_)
                refine wpAnyH_take (i := 0) (v := ?ve0) rfl (by kernel_rfl) (by kernel_rfl) (by kernel_rfl) (fun _ _ _ h => h) (Or.inl ⟨by rfl, ?ye0⟩) hHeld ?re0
                case ye0 => (intro W hW; obtain ⟨hW0, hW1⟩ := hW; go_simp; first | done | with_reducible rfl)
                try simp only [List.getElem_toArray, List.getElem_cons_zero, Act.put, List.setIfInBounds_toArray, List.set_cons_zero, List.set_cons_succ]
                refine wpAnyH_take (i := 1) (v := ?ve1) rfl (by kernel_rfl) (by kernel_rfl) (by kernel_rfl) (fun _ _ _ h => h) (Or.inl ⟨by rfl, ?ye1⟩) hHeld ?re1
                case ye1 => (intro W hW; obtain ⟨hW0, hW1⟩ := hW; go_simp; first | done | with_reducible rfl)
                try simp only [List.getElem_toArray, List.getElem_cons_succ, List.getElem_cons_zero, Act.put, List.setIfInBounds_toArray, List.set_cons_zero, List.set_cons_succ]
                refine wpAnyH_take (i := 2) (v := ?ve2) rfl (by kernel_rfl) (by kernel_rfl) (by kernel_rfl) (fun _ _ _ h => h) (Or.inl ⟨by rfl, ?ye2⟩) hHeld ?re2
                case ye2 => (intro W hW; obtain ⟨hW0, hW1⟩ := hW; go_simp; first | done | with_reducible rfl)
                try simp only [List.getElem_toArray, List.getElem_cons_succ, List.getElem_cons_zero, Act.put, List.setIfInBounds_toArray, List.set_cons_zero, List.set_cons_succ]
                refine wpAnyH_take (i := 3) (v := ?ve3) rfl (by kernel_rfl) (by kernel_rfl) (by kernel_rfl) (fun _ _ _ h => h) (Or.inl ⟨by rfl, ?ye3⟩) hHeld ?re3
                case ye3 => (intro W hW; obtain ⟨hW0, hW1⟩ := hW; go_simp; first | done | with_reducible rfl)
                try simp only [List.getElem_toArray, List.getElem_cons_succ, List.getElem_cons_zero, Act.put, List.setIfInBounds_toArray, List.set_cons_zero, List.set_cons_succ]
                refine wpAnyH_take (i := 4) (v := ?ve4) rfl (by kernel_rfl) (by kernel_rfl) (by kernel_rfl) (fun _ _ _ h => h) (Or.inl ⟨by rfl, ?ye4⟩) hHeld ?re4
                case ye4 => (intro W hW; obtain ⟨hW0, hW1⟩ := hW; go_simp; first | done | with_reducible rfl)
                try simp only [List.getElem_toArray, List.getElem_cons_succ, List.getElem_cons_zero, Act.put, List.setIfInBounds_toArray, List.set_cons_zero, List.set_cons_succ]
                refine wpAnyH_take (i := 5) (v := ?ve5) rfl (by kernel_rfl) (by kernel_rfl) (by kernel_rfl) (fun _ _ _ h => h) (Or.inl ⟨by rfl, ?ye5⟩) hHeld ?re5
                case ye5 => (intro W hW; obtain ⟨hW0, hW1⟩ := hW; go_simp; first | done | with_reducible rfl)
                try simp only [List.getElem_toArray, List.getElem_cons_succ, List.getElem_cons_zero, Act.put, List.setIfInBounds_toArray, List.set_cons_zero, List.set_cons_succ]
                refine wpAnyH_take (i := 6) (v := ?ve6) rfl (by kernel_rfl) (by kernel_rfl) (by kernel_rfl) (fun _ _ _ h => h) (Or.inl ⟨by rfl, ?ye6⟩) hHeld ?re6
                case ye6 => (intro W hW; obtain ⟨hW0, hW1⟩ := hW; go_simp; first | done | with_reducible rfl)
                try simp only [List.getElem_toArray, List.getElem_cons_succ, List.getElem_cons_zero, Act.put, List.setIfInBounds_toArray, List.set_cons_zero, List.set_cons_succ]
                refine wpAnyH_take (i := 7) (v := ?ve7) rfl (by kernel_rfl) (by kernel_rfl) (by kernel_rfl) (fun _ _ _ h => h) (Or.inl ⟨by rfl, ?ye7⟩) hHeld ?re7
                case ye7 => (intro W hW; obtain ⟨hW0, hW1⟩ := hW; go_simp; first | done | with_reducible rfl)
                try simp only [List.getElem_toArray, List.getElem_cons_succ, List.getElem_cons_zero, Act.put, List.setIfInBounds_toArray, List.set_cons_zero, List.set_cons_succ]
                refine wpAnyH_take (i := 8) (v := ?ve8) rfl (by kernel_rfl) (by kernel_rfl) (by kernel_rfl) (fun _ _ _ h => h) (Or.inl ⟨by rfl, ?ye8⟩) hHeld ?re8
                case ye8 => (intro W hW; obtain ⟨hW0, hW1⟩ := hW; go_simp; first | done | with_reducible rfl)
                try simp only [List.getElem_toArray, List.getElem_cons_succ, List.getElem_cons_zero, Act.put, List.setIfInBounds_toArray, List.set_cons_zero, List.set_cons_succ]
                refine wpAnyH_take (i := 9) (v := ?ve9) rfl (by kernel_rfl) (by kernel_rfl) (by kernel_rfl) (fun _ _ _ h => h) (Or.inl ⟨by rfl, ?ye9⟩) hHeld ?re9
                case ye9 => (intro W hW; obtain ⟨hW0, hW1⟩ := hW; go_simp; first | done | with_reducible rfl)
                try simp only [List.getElem_toArray, List.getElem_cons_succ, List.getElem_cons_zero, Act.put, List.setIfInBounds_toArray, List.set_cons_zero, List.set_cons_succ]
                refine wpAnyH_take (i := 10) (v := ?ve10) rfl (by kernel_rfl) (by kernel_rfl) (by kernel_rfl) (fun _ _ _ h => h) (Or.inl ⟨by rfl, ?ye10⟩) hHeld ?re10
                case ye10 => (intro W hW; obtain ⟨hW0, hW1⟩ := hW; go_simp; first | done | with_reducible rfl)
                try simp only [List.getElem_toArray, List.getElem_cons_succ, List.getElem_cons_zero, Act.put, List.setIfInBounds_toArray, List.set_cons_zero, List.set_cons_succ]
                refine wpAnyH_take (i := 11) (v := ?ve11) rfl (by kernel_rfl) (by kernel_rfl) (by kernel_rfl) (fun _ _ _ h => h) (Or.inl ⟨by rfl, ?ye11⟩) hHeld ?re11
                case ye11 => (intro W hW; obtain ⟨hW0, hW1⟩ := hW; go_simp; first | done | with_reducible rfl)
                try simp only [List.getElem_toArray, List.getElem_cons_succ, List.getElem_cons_zero, Act.put, List.setIfInBounds_toArray, List.set_cons_zero, List.set_cons_succ]
                refine wpAnyH_take (i := 12) (v := ?ve12) rfl (by kernel_rfl) (by kernel_rfl) (by kernel_rfl) (fun _ _ _ h => h) (Or.inl ⟨by rfl, ?ye12⟩) hHeld ?re12
                case ye12 => (intro W hW; obtain ⟨hW0, hW1⟩ := hW; go_simp; first | done | with_reducible rfl)
                try simp only [List.getElem_toArray, List.getElem_cons_succ, List.getElem_cons_zero, Act.put, List.setIfInBounds_toArray, List.set_cons_zero, List.set_cons_succ]
                refine wpAnyH_take (i := 13) (v := ?ve13) rfl (by kernel_rfl) (by kernel_rfl) (by kernel_rfl) (fun _ _ _ h => h) (Or.inl ⟨by rfl, ?ye13⟩) hHeld ?re13
                case ye13 => (intro W hW; obtain ⟨hW0, hW1⟩ := hW; go_simp; first | done | with_reducible rfl)
                try simp only [List.getElem_toArray, List.getElem_cons_succ, List.getElem_cons_zero, Act.put, List.setIfInBounds_toArray, List.set_cons_zero, List.set_cons_succ]
                refine wpAnyH_done (by kernel_rfl) ?_ _
                clear hHeld
                go_wp2
                go_roundw
                case rel => exact ⟨k + 1, by go_num, by omega, by rw [HAT.out, hbe]; simp, HBQ.out.drew⟩
                case measure => simp [intOf]; omega
          · obtain rfl : k = M := by omega
            have hall : (parL s q).take k = parL s q := List.take_of_length_le (by rw [← HM.out]; omega)
            rw [hall, HAN.out]
            have r1 := kq _ _ p1
            have r2 := kq _ _ q0
            have r3 := kq _ _ q1'
            have hbw6 : Below w4.heap.size w4 wq := HB5.out.trans (HBQ.out.mono HB5.out.size)
            have HB6 := Lib.hid hbw6
            have hz6 := hbw6.size
            have hfq : FQ wq A q mm cs r := HFQ.out r wq (HB4.out.trans (hbw6.mono HB4.out.size)) r0 r3_
            have hpb := HPB.out p HPM.out
            have HS := Lib.hid (rSize_any A q c mm cs r p wq.drew hfq.drew.nums k2 hfq.c hpb.1 hpb.2)
            obtain ⟨zp, hzp⟩ : ∃ z, z = sizeB cs r p := ⟨_, rfl⟩
            rw [← hzp] at HS
            have HZP := Lib.hid hzp
            have HNP6 := Lib.hid (HNP.out.keep kq)
            clear hall kq hbw6 hfq hpb hzp p1 q0 q1'
            go_wp2_with fail
            refine wp_region_held_drew (S := fun W => W.cell? ⟨g, o + i * 3 + 1, none⟩ = some (.int .i64 p) ∧ W.cell? ⟨w2.heap.size, 0, none⟩ = some (.slice A q c) ∧ W.cell? ⟨w2.heap.size, 1, none⟩ = some (.int .i64 mm)) (by kernel_rfl) ⟨r1, r2, r3⟩ (fun hHeld => ?_)
            refine wpAnyH_take (i := 0) (v := ?vf0) rfl (by kernel_rfl) (by kernel_rfl) (by kernel_rfl) (fun _ _ _ h => h) (Or.inl ⟨by rfl, ?yf0⟩) hHeld ?rf0
            case yf0 => (intro W hW; obtain ⟨hW0, hW1, hW2⟩ := hW; go_simp; first | done | with_reducible rfl)
            try simp only [List.getElem_toArray, List.getElem_cons_zero, Act.put, List.setIfInBounds_toArray, List.set_cons_zero, List.set_cons_succ]
            refine wpAnyH_take (i := 1) (v := ?vf1) rfl (by kernel_rfl) (by kernel_rfl) (by kernel_rfl) (fun _ _ _ h => h) (Or.inl ⟨by rfl, ?yf1⟩) hHeld ?rf1
            case yf1 => (intro W hW; obtain ⟨hW0, hW1, hW2⟩ := hW; go_simp; first | done | with_reducible rfl)
            try simp only [List.getElem_toArray, List.getElem_cons_succ, List.getElem_cons_zero, Act.put, List.setIfInBounds_toArray, List.set_cons_zero, List.set_cons_succ]
            refine wpAnyH_take (i := 2) (v := ?vf2) rfl (by kernel_rfl) (by kernel_rfl) (by kernel_rfl) (fun _ _ _ h => h) (Or.inl ⟨by rfl, ?yf2⟩) hHeld ?rf2
            case yf2 => (intro W hW; obtain ⟨hW0, hW1, hW2⟩ := hW; go_simp; first | done | with_reducible rfl)
            try simp only [List.getElem_toArray, List.getElem_cons_succ, List.getElem_cons_zero, Act.put, List.setIfInBounds_toArray, List.set_cons_zero, List.set_cons_succ]
            refine wpAnyH_take (i := 3) (v := ?vf3) rfl (by kernel_rfl) (by kernel_rfl) (by kernel_rfl) (fun _ _ _ h => h) (Or.inl ⟨by rfl, ?yf3⟩) hHeld ?rf3
            case yf3 => (intro W hW; obtain ⟨hW0, hW1, hW2⟩ := hW; go_simp; first | done | with_reducible rfl)
            try simp only [List.getElem_toArray, List.getElem_cons_succ, List.getElem_cons_zero, Act.put, List.setIfInBounds_toArray, List.set_cons_zero, List.set_cons_succ]
            refine wpAnyH_take (i := 4) (v := ?vf4) rfl (by kernel_rfl) (by kernel_rfl) (by kernel_rfl) (fun _ _ _ h => h) (Or.inl ⟨by rfl, ?yf4⟩) hHeld ?rf4
            case yf4 => (intro W hW; obtain ⟨hW0, hW1, hW2⟩ := hW; go_simp; first | done | with_reducible rfl)
            try simp only [List.getElem_toArray, List.getElem_cons_succ, List.getElem_cons_zero, Act.put, List.setIfInBounds_toArray, List.set_cons_zero, List.set_cons_succ]
            refine wpAnyH_take (i := 5) (v := ?vf5) rfl (by kernel_rfl) (by kernel_rfl) (by kernel_rfl) (fun _ _ _ h => h) (Or.inl ⟨by rfl, ?yf5⟩) hHeld ?rf5
            case yf5 => (intro W hW; obtain ⟨hW0, hW1, hW2⟩ := hW; go_simp; first | done | with_reducible rfl)
            try simp only [List.getElem_toArray, List.getElem_cons_succ, List.getElem_cons_zero, Act.put, List.setIfInBounds_toArray, List.set_cons_zero, List.set_cons_succ]
            refine wpAnyH_take (i := 6) (v := ?vf6) rfl (by kernel_rfl) (by kernel_rfl) (by kernel_rfl) (fun _ _ _ h => h) (Or.inl ⟨by rfl, ?yf6⟩) hHeld ?rf6
            case yf6 => (intro W hW; obtain ⟨hW0, hW1, hW2⟩ := hW; go_simp; first | done | with_reducible rfl)
            try simp only [List.getElem_toArray, List.getElem_cons_succ, List.getElem_cons_zero, Act.put, List.setIfInBounds_toArray, List.set_cons_zero, List.set_cons_succ]
            refine wpAnyH_ready (rs := [7]) (by kernel_rfl) (by simp) ?_
            refine AllReadyH.cons rfl (fun K hK => ?_) (AllReadyH.nil)
            go_simp
            refine HS.out.mono ?_
            rintro e9 w7 ⟨rfl, hb7⟩
            have k7 := Keeps.of_below hb7
            have HB7 := Lib.hid (HB6.out.drew.trans (hb7.mono hz6))
            have HNP7 := Lib.hid (HNP6.out.keep k7)
            clear hb7
            refine hK.out _ _ (⟨k7 _ _ r1, k7 _ _ r2, k7 _ _ r3⟩) (fun hHeld => ?_)
            clear hK K
            try simp only [List.getElem_toArray, List.getElem_cons_succ, List.getElem_cons_zero, Act.put, List.setIfInBounds_toArray, List.set_cons_zero, List.set_cons_succ]
            refine wpAnyH_take (i := 8) (v := ?vf8) rfl (by kernel_rfl) (by kernel_rfl) (by kernel_rfl) (fun _ _ _ h => h) (Or.inl ⟨by rfl, ?yf8⟩) hHeld ?rf8
            case yf8 => (intro W hW; obtain ⟨hW0, hW1, hW2⟩ := hW; go_simp; first | done | with_reducible rfl)
            try simp only [List.getElem_toArray, List.getElem_cons_succ, List.getElem_cons_zero, Act.put, List.setIfInBounds_toArray, List.set_cons_zero, List.set_cons_succ]
            refine wpAnyH_done (by kernel_rfl) ?_ _
            have t1 := hHeld.1
            have t2 := hHeld.2.1
            have t3 := hHeld.2.2
            clear hHeld
            clear r1 r2 r3 k7
            go_wp2_with fail
            go_loopw [16] (fun j wy => ∃ m : Nat, j = .int .i64 m ∧ m ≤ k ∧ Below w7.heap.size w7 wy) (fun j _ => k - (intOf j).toNat)
            case atStart => exact ⟨0, rfl, Nat.zero_le _, Below.refl _ _⟩
            case round =>
              obtain ⟨m, rfl, hm, hby⟩ := hrel
              rename World => wy
              have HBY := Lib.hid hby
              have hzy := hby.size
              have ky := Keeps.of_below hby
              clear hby
              by_cases hmk : m < k
              · obtain ⟨ad, x, rfl, hx, -, hcx⟩ := (HNP7.out.keep ky).at_ hmk
                have hxm := List.mem_of_getElem? hx
                have hxb := HPB.out x hxm
                have s1' := ky _ _ t1
                have s2' := ky _ _ t2
                have s3' := ky _ _ t3
                have hbw8 : Below w4.heap.size w4 wy := HB7.out.trans (HBY.out.mono HB7.out.size)
                have hfq : FQ wy A q mm cs r := HFQ.out r wy (HB4.out.trans (hbw8.mono HB4.out.size)) r0 r3_
                have HS2 := Lib.hid (rSize_any A q c mm cs r x wy.drew hfq.drew.nums k2 hfq.c hxb.1 hxb.2)
                have hle := HPL2.out x hxm
                have hfi := HPF.out x hxm
                rw [← HZP.out] at hle hfi
                obtain ⟨zx, hzx⟩ : ∃ z, z = sizeB cs r x := ⟨_, rfl⟩
                rw [← hzx] at HS2 hle hfi
                have m0 : (0 : Int) ≤ (m : Int) := by omega
                have m1 : (m : Int) < (k : Int) := by omega
                have hlt : decide (zx < zp) = false := by simp; omega
                have hlt2 : ¬ zx < zp := by omega
                clear hx hxm hxb hbw8 hfq hzx ky
                go_wp2_with fail
                refine wp_region_held_drew (S := fun W => W.cell? (ad.add m) = some (.int .i64 x) ∧ W.cell? ⟨w2.heap.size, 0, none⟩ = some (.slice A q c) ∧ W.cell? ⟨w2.heap.size, 1, none⟩ = some (.int .i64 mm)) (by kernel_rfl) ⟨hcx, s2', s3'⟩ (fun hHeld => ?_)
                refine wpAnyH_take (i := 0) (v := ?vg0) rfl (by kernel_rfl) (by kernel_rfl) (by kernel_rfl) (fun _ _ _ h => h) (Or.inl ⟨by rfl, ?yg0⟩) hHeld ?rg0
                case yg0 => (intro W hW; obtain ⟨hW0, hW1, hW2⟩ := hW; go_simp; first | done | with_reducible rfl)
                try simp only [List.getElem_toArray, List.getElem_cons_zero, Act.put, List.setIfInBounds_toArray, List.set_cons_zero, List.set_cons_succ]
                refine wpAnyH_take (i := 1) (v := ?vg1) rfl (by kernel_rfl) (by kernel_rfl) (by kernel_rfl) (fun _ _ _ h => h) (Or.inl ⟨by rfl, ?yg1⟩) hHeld ?rg1
                case yg1 => (intro W hW; obtain ⟨hW0, hW1, hW2⟩ := hW; go_simp; first | done | with_reducible rfl)
                try simp only [List.getElem_toArray, List.getElem_cons_succ, List.getElem_cons_zero, Act.put, List.setIfInBounds_toArray, List.set_cons_zero, List.set_cons_succ]
                refine wpAnyH_take (i := 2) (v := ?vg2) rfl (by kernel_rfl) (by kernel_rfl) (by kernel_rfl) (fun _ _ _ h => h) (Or.inl ⟨by rfl, ?yg2⟩) hHeld ?rg2
                case yg2 => (intro W hW; obtain ⟨hW0, hW1, hW2⟩ := hW; go_simp; first | done | with_reducible rfl)
                try simp only [List.getElem_toArray, List.getElem_cons_succ, List.getElem_cons_zero, Act.put, List.setIfInBounds_toArray, List.set_cons_zero, List.set_cons_succ]
                refine wpAnyH_take (i := 3) (v := ?vg3) rfl (by kernel_rfl) (by kernel_rfl) (by kernel_rfl) (fun _ _ _ h => h) (Or.inl ⟨by rfl, ?yg3⟩) hHeld ?rg3
                case yg3 => (intro W hW; obtain ⟨hW0, hW1, hW2⟩ := hW; go_simp; first | done | with_reducible rfl)
                try simp only [List.getElem_toArray, List.getElem_cons_succ, List.getElem_cons_zero, Act.put, List.setIfInBounds_toArray, List.set_cons_zero, List.set_cons_succ]
                refine wpAnyH_take (i := 4) (v := ?vg4) rfl (by kernel_rfl) (by kernel_rfl) (by kernel_rfl) (fun _ _ _ h => h) (Or.inl ⟨by rfl, ?yg4⟩) hHeld ?rg4
                case yg4 => (intro W hW; obtain ⟨hW0, hW1, hW2⟩ := hW; go_simp; first | done | with_reducible rfl)
                try simp only [List.getElem_toArray, List.getElem_cons_succ, List.getElem_cons_zero, Act.put, List.setIfInBounds_toArray, List.set_cons_zero, List.set_cons_succ]
                refine wpAnyH_take (i := 5) (v := ?vg5) rfl (by kernel_rfl) (by kernel_rfl) (by kernel_rfl) (fun _ _ _ h => h) (Or.inl ⟨by rfl, ?yg5⟩) hHeld ?rg5
                case yg5 => (intro W hW; obtain ⟨hW0, hW1, hW2⟩ := hW; go_simp; first | done | with_reducible rfl)
                try simp only [List.getElem_toArray, List.getElem_cons_succ, List.getElem_cons_zero, Act.put, List.setIfInBounds_toArray, List.set_cons_zero, List.set_cons_succ]
                refine wpAnyH_ready (rs := [6]) (by kernel_rfl) (by simp) ?_
                refine AllReadyH.cons rfl (fun K hK => ?_) (AllReadyH.nil)
                go_simp
                refine HS2.out.mono ?_
                rintro e9 w9 ⟨rfl, hb9⟩
                have k9 := Keeps.of_below hb9
                have HB9 := Lib.hid (HBY.out.drew.trans (hb9.mono hzy))
                clear hb9
                refine hK.out _ _ (⟨k9 _ _ hcx, k9 _ _ s2', k9 _ _ s3'⟩) (fun hHeld => ?_)
                clear hK K
                try simp only [List.getElem_toArray, List.getElem_cons_succ, List.getElem_cons_zero, Act.put, List.setIfInBounds_toArray, List.set_cons_zero, List.set_cons_succ]
                refine wpAnyH_take (i := 7) (v := ?vg7) rfl (by kernel_rfl) (by kernel_rfl) (by kernel_rfl) (fun _ _ _ h => h) (Or.inl ⟨by rfl, ?yg7⟩) hHeld ?rg7
                case yg7 => (intro W hW; obtain ⟨hW0, hW1, hW2⟩ := hW; go_simp; first | done | with_reducible rfl)
                try simp only [List.getElem_toArray, List.getElem_cons_succ, List.getElem_cons_zero, Act.put, List.setIfInBounds_toArray, List.set_cons_zero, List.set_cons_succ]
                refine wpAnyH_done (by kernel_rfl) ?_ _
                have c9 := hHeld.1
                have c8 : w9.cell? ⟨g, o + i * 3 + 1, none⟩ = some (.int .i64 p) := k9 _ _ s1'
                clear hHeld
                clear hcx s1' s2' s3' k9
                by_cases hzz : zx = zp
                · have hpx := hfi hzz
                  have d1 : (zx == zp) = true := by simpa using hzz
                  have d2 : decide (x < p) = false := by simp; omega
                  clear hfi
                  go_wp2_with fail
                  refine wp_region_held_drew (S := fun W => W.cell? (ad.add m) = some (.int .i64 x) ∧ W.cell? ⟨g, o + i * 3 + 1, none⟩ = some (.int .i64 p)) (by kernel_rfl) ⟨c9, c8⟩ (fun hHeld => ?_)
                  refine wpAnyH_take (i := 0) (v := ?vh0) rfl (by kernel_rfl) (by kernel_rfl) (by kernel_rfl) (fun _ _ _ h => h) (Or.inl ⟨by rfl, ?yh0⟩) hHeld ?rh0
                  case yh0 => (intro W hW; obtain ⟨hW0, hW1⟩ := hW; go_simp; first | done | with_reducible rfl)
                  try simp only [List.getElem_toArray, List.getElem_cons_zero, Act.put, List.setIfInBounds_toArray, List.set_cons_zero, List.set_cons_succ]
                  refine wpAnyH_take (i := 1) (v := ?vh1) rfl (by kernel_rfl) (by kernel_rfl) (by kernel_rfl) (fun _ _ _ h => h) (Or.inl ⟨by rfl, ?yh1⟩) hHeld ?rh1
                  case yh1 => (intro W hW; obtain ⟨hW0, hW1⟩ := hW; go_simp; first | done | with_reducible rfl)
                  try simp only [List.getElem_toArray, List.getElem_cons_succ, List.getElem_cons_zero, Act.put, List.setIfInBounds_toArray, List.set_cons_zero, List.set_cons_succ]
                  refine wpAnyH_take (i := 2) (v := ?vh2) rfl (by kernel_rfl) (by kernel_rfl) (by kernel_rfl) (fun _ _ _ h => h) (Or.inl ⟨by rfl, ?yh2⟩) hHeld ?rh2
                  case yh2 => (intro W hW; obtain ⟨hW0, hW1⟩ := hW; go_simp; first | done | with_reducible rfl)
                  try simp only [List.getElem_toArray, List.getElem_cons_succ, List.getElem_cons_zero, Act.put, List.setIfInBounds_toArray, List.set_cons_zero, List.set_cons_succ]
                  refine wpAnyH_take (i := 3) (v := ?vh3) rfl (by kernel_rfl) (by kernel_rfl) (by kernel_rfl) (fun _ _ _ h => h) (Or.inl ⟨by rfl, ?yh3⟩) hHeld ?rh3
                  case yh3 => (intro W hW; obtain ⟨hW0, hW1⟩ := hW; go_simp; first | done | with_reducible rfl)
                  try simp only [List.getElem_toArray, List.getElem_cons_succ, List.getElem_cons_zero, Act.put, List.setIfInBounds_toArray, List.set_cons_zero, List.set_cons_succ]
                  refine wpAnyH_take (i := 4) (v := ?vh4) rfl (by kernel_rfl) (by kernel_rfl) (by kernel_rfl) (fun _ _ _ h => h) (Or.inl ⟨by rfl, ?yh4⟩) hHeld ?rh4
                  case yh4 => (intro W hW; obtain ⟨hW0, hW1⟩ := hW; go_simp; first | done | with_reducible rfl)
                  try simp only [List.getElem_toArray, List.getElem_cons_succ, List.getElem_cons_zero, Act.put, List.setIfInBounds_toArray, List.set_cons_zero, List.set_cons_succ]
                  refine wpAnyH_take (i := 5) (v := ?vh5) rfl (by kernel_rfl) (by kernel_rfl) (by kernel_rfl) (fun _ _ _ h => h) (Or.inl ⟨by rfl, ?yh5⟩) hHeld ?rh5
                  case yh5 => (intro W hW; obtain ⟨hW0, hW1⟩ := hW; go_simp; first | done | with_reducible rfl)
                  try simp only [List.getElem_toArray, List.getElem_cons_succ, List.getElem_cons_zero, Act.put, List.setIfInBounds_toArray, List.set_cons_zero, List.set_cons_succ]
                  refine wpAnyH_take (i := 6) (v := ?vh6) rfl (by kernel_rfl) (by kernel_rfl) (by kernel_rfl) (fun _ _ _ h => h) (Or.inl ⟨by rfl, ?yh6⟩) hHeld ?rh6
                  case yh6 => (intro W hW; obtain ⟨hW0, hW1⟩ := hW; go_simp; first | done | with_reducible rfl)
                  try simp only [List.getElem_toArray, List.getElem_cons_succ, List.getElem_cons_zero, Act.put, List.setIfInBounds_toArray, List.set_cons_zero, List.set_cons_succ]
                  refine wpAnyH_take (i := 7) (v := ?vh7) rfl (by kernel_rfl) (by kernel_rfl) (by kernel_rfl) (fun _ _ _ h => h) (Or.inl ⟨by rfl, ?yh7⟩) hHeld ?rh7
                  case yh7 => (intro W hW; obtain ⟨hW0, hW1⟩ := hW; go_simp; first | done | with_reducible rfl)
                  try simp only [List.getElem_toArray, List.getElem_cons_succ, List.getElem_cons_zero, Act.put, List.setIfInBounds_toArray, List.set_cons_zero, List.set_cons_succ]
                  refine wpAnyH_take (i := 8) (v := ?vh8) rfl (by kernel_rfl) (by kernel_rfl) (by kernel_rfl) (fun _ _ _ h => h) (Or.inl ⟨by rfl, ?yh8⟩) hHeld ?rh8
                  case yh8 => (intro W hW; obtain ⟨hW0, hW1⟩ := hW; go_simp; first | done | with_reducible rfl)
                  try simp only [List.getElem_toArray, List.getElem_cons_succ, List.getElem_cons_zero, Act.put, List.setIfInBounds_toArray, List.set_cons_zero, List.set_cons_succ]
                  refine wpAnyH_take (i := 9) (v := ?vh9) rfl (by kernel_rfl) (by kernel_rfl) (by kernel_rfl) (fun _ _ _ h => h) (Or.inl ⟨by rfl, ?yh9⟩) hHeld ?rh9
                  case yh9 => (intro W hW; obtain ⟨hW0, hW1⟩ := hW; go_simp; first | done | with_reducible rfl)
                  try simp only [List.getElem_toArray, List.getElem_cons_succ, List.getElem_cons_zero, Act.put, List.setIfInBounds_toArray, List.set_cons_zero, List.set_cons_succ]
                  refine wpAnyH_take (i := 10) (v := ?vh10) rfl (by kernel_rfl) (by kernel_rfl) (by kernel_rfl) (fun _ _ _ h => h) (Or.inl ⟨by rfl, ?yh10⟩) hHeld ?rh10
                  case yh10 => (intro W hW; obtain ⟨hW0, hW1⟩ := hW; go_simp; first | done | with_reducible rfl)
                  try simp only [List.getElem_toArray, List.getElem_cons_succ, List.getElem_cons_zero, Act.put, List.setIfInBounds_toArray, List.set_cons_zero, List.set_cons_succ]
                  refine wpAnyH_take (i := 11) (v := ?vh11) rfl (by kernel_rfl) (by kernel_rfl) (by kernel_rfl) (fun _ _ _ h => h) (Or.inl ⟨by rfl, ?yh11⟩) hHeld ?rh11
                  case yh11 => (intro W hW; obtain ⟨hW0, hW1⟩ := hW; go_simp; first | done | with_reducible rfl)
                  try simp only [List.getElem_toArray, List.getElem_cons_succ, List.getElem_cons_zero, Act.put, List.setIfInBounds_toArray, List.set_cons_zero, List.set_cons_succ]
                  refine wpAnyH_take (i := 12) (v := ?vh12) rfl (by kernel_rfl) (by kernel_rfl) (by kernel_rfl) (fun _ _ _ h => h) (Or.inl ⟨by rfl, ?yh12⟩) hHeld ?rh12
                  case yh12 => (intro W hW; obtain ⟨hW0, hW1⟩ := hW; go_simp; first | done | with_reducible rfl)
                  try simp only [List.getElem_toArray, List.getElem_cons_succ, List.getElem_cons_zero, Act.put, List.setIfInBounds_toArray, List.set_cons_zero, List.set_cons_succ]
                  refine wpAnyH_take (i := 13) (v := ?vh13) rfl (by kernel_rfl) (by kernel_rfl) (by kernel_rfl) (fun _ _ _ h => h) (Or.inl ⟨by rfl, ?yh13⟩) hHeld ?rh13
                  case yh13 => (intro W hW; obtain ⟨hW0, hW1⟩ := hW; go_simp; first | done | with_reducible rfl)
                  try simp only [List.getElem_toArray, List.getElem_cons_succ, List.getElem_cons_zero, Act.put, List.setIfInBounds_toArray, List.set_cons_zero, List.set_cons_succ]
                  refine wpAnyH_take (i := 14) (v := ?vh14) rfl (by kernel_rfl) (by kernel_rfl) (by kernel_rfl) (fun _ _ _ h => h) (Or.inl ⟨by rfl, ?yh14⟩) hHeld ?rh14
                  case yh14 => (intro W hW; obtain ⟨hW0, hW1⟩ := hW; go_simp; first | done | with_reducible rfl)
                  try simp only [List.getElem_toArray, List.getElem_cons_succ, List.getElem_cons_zero, Act.put, List.setIfInBounds_toArray, List.set_cons_zero, List.set_cons_succ]
                  refine wpAnyH_take (i := 15) (v := ?vh15) rfl (by kernel_rfl) (by kernel_rfl) (by kernel_rfl) (fun _ _ _ h => h) (Or.inl ⟨by rfl, ?yh15⟩) hHeld ?rh15
                  case yh15 => (intro W hW; obtain ⟨hW0, hW1⟩ := hW; go_simp; first | done | with_reducible rfl)
                  try simp only [List.getElem_toArray, List.getElem_cons_succ, List.getElem_cons_zero, Act.put, List.setIfInBounds_toArray, List.set_cons_zero, List.set_cons_succ]
                  refine wpAnyH_take (i := 16) (v := ?vh16) rfl (by kernel_rfl) (by kernel_rfl) (by kernel_rfl) (fun _ _ _ h => h) (Or.inl ⟨by rfl, ?yh16⟩) hHeld ?rh16
                  case yh16 => (intro W hW; obtain ⟨hW0, hW1⟩ := hW; go_simp; first | done | with_reducible rfl)
                  try simp only [List.getElem_toArray, List.getElem_cons_succ, List.getElem_cons_zero, Act.put, List.setIfInBounds_toArray, List.set_cons_zero, List.set_cons_succ]
                  refine wpAnyH_take (i := 17) (v := ?vh17) rfl (by kernel_rfl) (by kernel_rfl) (by kernel_rfl) (fun _ _ _ h => h) (Or.inl ⟨by rfl, ?yh17⟩) hHeld ?rh17
                  case yh17 => (intro W hW; obtain ⟨hW0, hW1⟩ := hW; go_simp; first | done | with_reducible rfl)
                  try simp only [List.getElem_toArray, List.getElem_cons_succ, List.getElem_cons_zero, Act.put, List.setIfInBounds_toArray, List.set_cons_zero, List.set_cons_succ]
                  refine wpAnyH_take (i := 18) (v := ?vh18) rfl (by kernel_rfl) (by kernel_rfl) (by kernel_rfl) (fun _ _ _ h => h) (Or.inl ⟨by rfl, ?yh18⟩) hHeld ?rh18
                  case yh18 => (intro W hW; obtain ⟨hW0, hW1⟩ := hW; go_simp; first | done | with_reducible rfl)
                  try simp only [List.getElem_toArray, List.getElem_cons_succ, List.getElem_cons_zero, Act.put, List.setIfInBounds_toArray, List.set_cons_zero, List.set_cons_succ]
                  refine wpAnyH_take (i := 19) (v := ?vh19) rfl (by kernel_rfl) (by kernel_rfl) (by kernel_rfl) (fun _ _ _ h => h) (Or.inl ⟨by rfl, ?yh19⟩) hHeld ?rh19
                  case yh19 => (intro W hW; obtain ⟨hW0, hW1⟩ := hW; go_simp; first | done | with_reducible rfl)
                  try simp only [List.getElem_toArray, List.getElem_cons_succ, List.getElem_cons_zero, Act.put, List.setIfInBounds_toArray, List.set_cons_zero, List.set_cons_succ]
                  refine wpAnyH_done (by kernel_rfl) ?_ _
                  clear hHeld
                  go_wp2
                  go_roundw
                  case rel => exact ⟨m + 1, by go_num, by omega, HB9.out.drew⟩
                  case measure => simp [intOf]; omega
                · have d1 : (zx == zp) = false := by simpa using hzz
                  clear hfi
                  go_wp2_with fail
                  refine wp_region_held_drew (S := fun W => W.cell? (ad.add m) = some (.int .i64 x) ∧ W.cell? ⟨g, o + i * 3 + 1, none⟩ = some (.int .i64 p)) (by kernel_rfl) ⟨c9, c8⟩ (fun hHeld => ?_)
                  refine wpAnyH_take (i := 0) (v := ?vi0) rfl (by kernel_rfl) (by kernel_rfl) (by kernel_rfl) (fun _ _ _ h => h) (Or.inl ⟨by rfl, ?yi0⟩) hHeld ?ri0
                  case yi0 => (intro W hW; obtain ⟨hW0, hW1⟩ := hW; go_simp; first | done | with_reducible rfl)
                  try simp only [List.getElem_toArray, List.getElem_cons_zero, Act.put, List.setIfInBounds_toArray, List.set_cons_zero, List.set_cons_succ]
                  refine wpAnyH_take (i := 1) (v := ?vi1) rfl (by kernel_rfl) (by kernel_rfl) (by kernel_rfl) (fun _ _ _ h => h) (Or.inl ⟨by rfl, ?yi1⟩) hHeld ?ri1
                  case yi1 => (intro W hW; obtain ⟨hW0, hW1⟩ := hW; go_simp; first | done | with_reducible rfl)
                  try simp only [List.getElem_toArray, List.getElem_cons_succ, List.getElem_cons_zero, Act.put, List.setIfInBounds_toArray, List.set_cons_zero, List.set_cons_succ]
                  refine wpAnyH_take (i := 2) (v := ?vi2) rfl (by kernel_rfl) (by kernel_rfl) (by kernel_rfl) (fun _ _ _ h => h) (Or.inl ⟨by rfl, ?yi2⟩) hHeld ?ri2
                  case yi2 => (intro W hW; obtain ⟨hW0, hW1⟩ := hW; go_simp; first | done | with_reducible rfl)
                  try simp only [List.getElem_toArray, List.getElem_cons_succ, List.getElem_cons_zero, Act.put, List.setIfInBounds_toArray, List.set_cons_zero, List.set_cons_succ]
                  refine wpAnyH_take (i := 3) (v := ?vi3) rfl (by kernel_rfl) (by kernel_rfl) (by kernel_rfl) (fun _ _ _ h => h) (Or.inl ⟨by rfl, ?yi3⟩) hHeld ?ri3
                  case yi3 => (intro W hW; obtain ⟨hW0, hW1⟩ := hW; go_simp; first | done | with_reducible rfl)
                  try simp only [List.getElem_toArray, List.getElem_cons_succ, List.getElem_cons_zero, Act.put, List.setIfInBounds_toArray, List.set_cons_zero, List.set_cons_succ]
                  refine wpAnyH_take (i := 4) (v := ?vi4) rfl (by kernel_rfl) (by kernel_rfl) (by kernel_rfl) (fun _ _ _ h => h) (Or.inl ⟨by rfl, ?yi4⟩) hHeld ?ri4
                  case yi4 => (intro W hW; obtain ⟨hW0, hW1⟩ := hW; go_simp; first | done | with_reducible rfl)
                  try simp only [List.getElem_toArray, List.getElem_cons_succ, List.getElem_cons_zero, Act.put, List.setIfInBounds_toArray, List.set_cons_zero, List.set_cons_succ]
                  refine wpAnyH_take (i := 5) (v := ?vi5) rfl (by kernel_rfl) (by kernel_rfl) (by kernel_rfl) (fun _ _ _ h => h) (Or.inl ⟨by rfl, ?yi5⟩) hHeld ?ri5
                  case yi5 => (intro W hW; obtain ⟨hW0, hW1⟩ := hW; go_simp; first | done | with_reducible rfl)
                  try simp only [List.getElem_toArray, List.getElem_cons_succ, List.getElem_cons_zero, Act.put, List.setIfInBounds_toArray, List.set_cons_zero, List.set_cons_succ]
                  refine wpAnyH_take (i := 6) (v := ?vi6) rfl (by kernel_rfl) (by kernel_rfl) (by kernel_rfl) (fun _ _ _ h => h) (Or.inl ⟨by rfl, ?yi6⟩) hHeld ?ri6
                  case yi6 => (intro W hW; obtain ⟨hW0, hW1⟩ := hW; go_simp; first | done | with_reducible rfl)
                  try simp only [List.getElem_toArray, List.getElem_cons_succ, List.getElem_cons_zero, Act.put, List.setIfInBounds_toArray, List.set_cons_zero, List.set_cons_succ]
                  refine wpAnyH_take (i := 7) (v := ?vi7) rfl (by kernel_rfl) (by kernel_rfl) (by kernel_rfl) (fun _ _ _ h => h) (Or.inl ⟨by rfl, ?yi7⟩) hHeld ?ri7
                  case yi7 => (intro W hW; obtain ⟨hW0, hW1⟩ := hW; go_simp; first | done | with_reducible rfl)
                  try simp only [List.getElem_toArray, List.getElem_cons_succ, List.getElem_cons_zero, Act.put, List.setIfInBounds_toArray, List.set_cons_zero, List.set_cons_succ]
                  refine wpAnyH_take (i := 8) (v := undef) rfl (by kernel_rfl) (by kernel_rfl) (by kernel_rfl) (fun _ _ _ h => h) (Or.inr ⟨by rfl, rfl⟩) hHeld ?ri8
                  try simp only [List.getElem_toArray, List.getElem_cons_succ, List.getElem_cons_zero, Act.put, List.setIfInBounds_toArray, List.set_cons_zero, List.set_cons_succ]
                  refine wpAnyH_take (i := 9) (v := undef) rfl (by kernel_rfl) (by kernel_rfl) (by kernel_rfl) (fun _ _ _ h => h) (Or.inr ⟨by rfl, rfl⟩) hHeld ?ri9
                  try simp only [List.getElem_toArray, List.getElem_cons_succ, List.getElem_cons_zero, Act.put, List.setIfInBounds_toArray, List.set_cons_zero, List.set_cons_succ]
                  refine wpAnyH_take (i := 10) (v := undef) rfl (by kernel_rfl) (by kernel_rfl) (by kernel_rfl) (fun _ _ _ h => h) (Or.inr ⟨by rfl, rfl⟩) hHeld ?ri10
                  try simp only [List.getElem_toArray, List.getElem_cons_succ, List.getElem_cons_zero, Act.put, List.setIfInBounds_toArray, List.set_cons_zero, List.set_cons_succ]
                  refine wpAnyH_take (i := 11) (v := undef) rfl (by kernel_rfl) (by kernel_rfl) (by kernel_rfl) (fun _ _ _ h => h) (Or.inr ⟨by rfl, rfl⟩) hHeld ?ri11
                  try simp only [List.getElem_toArray, List.getElem_cons_succ, List.getElem_cons_zero, Act.put, List.setIfInBounds_toArray, List.set_cons_zero, List.set_cons_succ]
                  refine wpAnyH_take (i := 12) (v := undef) rfl (by kernel_rfl) (by kernel_rfl) (by kernel_rfl) (fun _ _ _ h => h) (Or.inr ⟨by rfl, rfl⟩) hHeld ?ri12
                  try simp only [List.getElem_toArray, List.getElem_cons_succ, List.getElem_cons_zero, Act.put, List.setIfInBounds_toArray, List.set_cons_zero, List.set_cons_succ]
                  refine wpAnyH_take (i := 13) (v := undef) rfl (by kernel_rfl) (by kernel_rfl) (by kernel_rfl) (fun _ _ _ h => h) (Or.inr ⟨by rfl, rfl⟩) hHeld ?ri13
                  try simp only [List.getElem_toArray, List.getElem_cons_succ, List.getElem_cons_zero, Act.put, List.setIfInBounds_toArray, List.set_cons_zero, List.set_cons_succ]
                  refine wpAnyH_take (i := 14) (v := undef) rfl (by kernel_rfl) (by kernel_rfl) (by kernel_rfl) (fun _ _ _ h => h) (Or.inr ⟨by rfl, rfl⟩) hHeld ?ri14
                  try simp only [List.getElem_toArray, List.getElem_cons_succ, List.getElem_cons_zero, Act.put, List.setIfInBounds_toArray, List.set_cons_zero, List.set_cons_succ]
                  refine wpAnyH_take (i := 15) (v := undef) rfl (by kernel_rfl) (by kernel_rfl) (by kernel_rfl) (fun _ _ _ h => h) (Or.inr ⟨by rfl, rfl⟩) hHeld ?ri15
                  try simp only [List.getElem_toArray, List.getElem_cons_succ, List.getElem_cons_zero, Act.put, List.setIfInBounds_toArray, List.set_cons_zero, List.set_cons_succ]
                  refine wpAnyH_take (i := 16) (v := undef) rfl (by kernel_rfl) (by kernel_rfl) (by kernel_rfl) (fun _ _ _ h => h) (Or.inr ⟨by rfl, rfl⟩) hHeld ?ri16
                  try simp only [List.getElem_toArray, List.getElem_cons_succ, List.getElem_cons_zero, Act.put, List.setIfInBounds_toArray, List.set_cons_zero, List.set_cons_succ]
                  refine wpAnyH_take (i := 17) (v := undef) rfl (by kernel_rfl) (by kernel_rfl) (by kernel_rfl) (fun _ _ _ h => h) (Or.inr ⟨by rfl, rfl⟩) hHeld ?ri17
                  try simp only [List.getElem_toArray, List.getElem_cons_succ, List.getElem_cons_zero, Act.put, List.setIfInBounds_toArray, List.set_cons_zero, List.set_cons_succ]
                  refine wpAnyH_take (i := 18) (v := ?vi18) rfl (by kernel_rfl) (by kernel_rfl) (by kernel_rfl) (fun _ _ _ h => h) (Or.inl ⟨by rfl, ?yi18⟩) hHeld ?ri18
                  case yi18 => (intro W hW; obtain ⟨hW0, hW1⟩ := hW; go_simp; first | done | with_reducible rfl)
                  try simp only [List.getElem_toArray, List.getElem_cons_succ, List.getElem_cons_zero, Act.put, List.setIfInBounds_toArray, List.set_cons_zero, List.set_cons_succ]
                  refine wpAnyH_take (i := 19) (v := ?vi19) rfl (by kernel_rfl) (by kernel_rfl) (by kernel_rfl) (fun _ _ _ h => h) (Or.inl ⟨by rfl, ?yi19⟩) hHeld ?ri19
                  case yi19 => (intro W hW; obtain ⟨hW0, hW1⟩ := hW; go_simp; first | done | with_reducible rfl)
                  try simp only [List.getElem_toArray, List.getElem_cons_succ, List.getElem_cons_zero, Act.put, List.setIfInBounds_toArray, List.set_cons_zero, List.set_cons_succ]
                  refine wpAnyH_done (by kernel_rfl) ?_ _
                  clear hHeld
                  go_wp2
                  go_roundw
                  case rel => exact ⟨m + 1, by go_num, by omega, HB9.out.drew⟩
                  case measure => simp [intOf]; omega
              · obtain rfl : m = k := by omega
                have HBf := Lib.hid (HB7.out.trans (HBY.out.mono HB7.out.size))
                clear ky t1 t2 t3
                go_wp2
                go_roundw
                case rel => exact ⟨i + 1, by go_num, by omega, HBf.out⟩
                case measure => simp [intOf]; omega
    · obtain rfl : i = N := by omega
      have hxr := HX4.out.keep (Keeps.of_below HB.out)
      have x0 : wr.cell? ⟨w2.heap.size, 0, none⟩ = some (.slice A q c) := hxr 0 _ rfl
      have HBf := Lib.hid (HBW4.out.trans (HB.out.mono HBW4.out.size))
      have hshl : wrap64 (2 ^ q) = (i : Int) := by rw [shl_wrap q k2, HNN.out]; push_cast; rfl
      have HSHL := Lib.hid hshl
      clear hxr hshl
      go_wp2
      go_ret
      exact ⟨by rw [HSHL.out]; simp, HBf.out⟩
end Go.Proofs.YtjllmladhjbnaaaDoor
