/- The law MatchOne. -/
import Derived.Test.YtimffjonhoplpaaMatW
namespace Go.Proofs.Ytimffjonhoplpaa
open Go.RowKit Go.Shelf
attribute [local go_sem] Oper.semAt_some
/-- b: where the first of the least stands. -/
def FM (l : List Int) (b : Nat) : Prop := (l = [] ∧ b = 0) ∨ (b < l.length ∧ ∀ k, k < l.length → cst l b ≤ cst l k ∧ (k < b → cst l b < cst l k))
theorem cst_left {l : List Int} {k : Nat} (x : Int) (h : k < l.length) : cst (l ++ [x]) k = cst l k := by unfold cst; rw [List.getElem?_append_left h]
theorem cst_last (l : List Int) (x : Int) : cst (l ++ [x]) l.length = x := by unfold cst; simp
theorem FM.lt {l : List Int} {b : Nat} (h : FM l b) (h0 : l ≠ []) : b < l.length := by
  rcases h with ⟨e, _⟩ | h
  · exact absurd e h0
  · exact h.1
theorem FM.step {l : List Int} {b : Nat} (h : FM l b) (x : Int) : (cst (l ++ [x]) l.length < cst (l ++ [x]) b → FM (l ++ [x]) l.length) ∧ (¬ cst (l ++ [x]) l.length < cst (l ++ [x]) b → FM (l ++ [x]) b) := by
  rcases h with ⟨rfl, rfl⟩ | ⟨h1, h2⟩
  · refine ⟨fun h => ?_, fun _ => .inr ⟨by simp, fun k hk => ?_⟩⟩
    · simp [cst] at h
    · simp at hk; subst hk; exact ⟨Int.le_refl _, fun h => by omega⟩
  · rw [cst_last, cst_left x h1]
    refine ⟨fun h => .inr ⟨by simp, fun k hk => ?_⟩, fun h => .inr ⟨by simp; omega, fun k hk => ?_⟩⟩
    · rw [cst_last]
      rw [List.length_append, List.length_singleton] at hk
      rcases Nat.lt_or_ge k l.length with hkl | hkl
      · rw [cst_left x hkl]
        have := (h2 k hkl).1
        exact ⟨by omega, fun _ => by omega⟩
      · obtain rfl : k = l.length := by omega
        rw [cst_last]
        exact ⟨Int.le_refl _, fun h => by omega⟩
    · rw [cst_left x h1]
      rw [List.length_append, List.length_singleton] at hk
      rcases Nat.lt_or_ge k l.length with hkl | hkl
      · rw [cst_left x hkl]; exact h2 k hkl
      · obtain rfl : k = l.length := by omega
        rw [cst_last]
        exact ⟨by omega, fun h => by omega⟩
theorem one_ok {l : List Int} (h0 : l ≠ []) (hl : l.length ≤ 12) (h : ∀ x ∈ l, 0 ≤ x ∧ x ≤ 19) : okM [l] = true :=
  okM_of (m := l.length) hl (by have := List.length_pos_iff.2 h0; simp; omega) (fun r hr => by
    rw [List.mem_singleton.1 hr]
    exact ⟨rfl, fun x hx => by have := h x hx; omega⟩)
theorem one_fst {l : List Int} {b : Nat} (h0 : l ≠ []) (hl : l.length ≤ 12) (h : ∀ x ∈ l, 0 ≤ x ∧ x ≤ 19) (hb : FM l b) : toL [l] = [(b : Int)] ∧ totL [l] = cst l b := by
  have hok := one_ok h0 hl h
  have hbl := hb.lt h0
  have hrow : ∀ r ∈ [l], r.length = l.length := fun r hr => by rw [List.mem_singleton.1 hr]
  have hroom : Room [l] l.length 0 := ⟨hrow, by rw [free_zero]; have := List.length_pos_iff.2 h0; simp; omega⟩
  rcases hb with ⟨e, _⟩ | ⟨h1, h2⟩
  · exact absurd e h0
  · have hO : Ok [l] 0 [b] := ⟨h1, by simp, trivial⟩
    have hR := restR_eq hroom hO (fun d hd => by
      match d, hd with
      | [k], ⟨hk, _, _⟩ => have := (h2 k hk).1; simpa [sumC] using this)
    have hf := fst1_eq hroom hO hR.symm (fun d hd he => by
      match d, hd, he with
      | [k], ⟨hk, _, _⟩, he =>
        rintro (hlt | ⟨_, hlt⟩)
        · have := (h2 k hk).2 hlt
          rw [hR] at he
          simp [sumC] at he
          omega
        · exact hlt)
    refine ⟨by rw [toL_ok hok, hf]; rfl, by rw [totL_ok hok, hR]; simp [sumC]⟩
theorem one_no : okM [([] : List Int)] = false := by decide +kernel
set_option maxRecDepth 100000 in
set_option maxHeartbeats 8000000 in
theorem matchOne_walk (a0 : Option Addr) (len0 cap0 : Nat) (z0 : List Int) (w : World) (w0 : IsRow .i64 w a0 len0 cap0 z0) :
    Calls Try.prog 10 #[.slice a0 len0 cap0] w fun e w' => e = .returned (.bool true) ∧ Below w.heap.size w w' := by
  have hnz := w0.nums.1
  have hzl := hnz.len
  obtain ⟨zs, hzs⟩ : ∃ zs, zs = z0.take len0 := ⟨_, rfl⟩
  rw [← hzs] at hnz hzl
  have HNZ := Lib.hid hnz
  have HZL := Lib.hid hzl
  clear w0 hnz hzl hzs
  go_enter Try.func10, Try.ntmps10
  go_wp2_with fail
  refine (known9_any w).mono ?_
  rintro e w1 ⟨rfl, hb1⟩
  have HB1 := Lib.hid hb1
  have hz1 := hb1.size
  clear hb1
  go_wp2
  go_loopw [3, 4, 5] (fun v bv p wr => ∃ (i b : Nat) (l : List Int), p = .int .i64 i ∧ bv = .int .i64 b ∧ i ≤ len0 ∧ i ≤ 12 ∧ l.length = i ∧ (∀ x ∈ l, 0 ≤ x ∧ x ≤ 19) ∧ FM l b ∧ OI w.heap.size wr v l ∧ Below w.heap.size w wr) (fun _ _ p _ => len0 - (intOf p).toNat)
  case atStart => exact ⟨0, 0, [], rfl, rfl, Nat.zero_le _, Nat.zero_le _, rfl, (fun x h => by cases h), .inl ⟨rfl, rfl⟩, OI.nil _ _, HB1.out⟩
  case round =>
    obtain ⟨i, b, l, rfl, rfl, hi, hi12, hll, hx19, hfm, ho, hb⟩ := hrel
    rename World => wr
    have HO := Lib.hid ho
    have HB := Lib.hid hb
    have HLL := Lib.hid hll
    have HX := Lib.hid hx19
    have HFM := Lib.hid hfm
    clear hll hx19 hfm ho hb
    by_cases hlt : i < len0 ∧ i < 12
    · obtain ⟨hl1, hl2⟩ := hlt
      have d1 : decide ((i : Int) < (len0 : Int)) = true := decide_eq_true (by omega)
      have d1' : (i : Int) < (len0 : Int) := by omega
      have d2 : decide ((i : Int) < 12) = true := decide_eq_true (by omega)
      have i0 : (0 : Int) ≤ (i : Int) := by omega
      obtain ⟨ad, z, rfl, -, hzi, hcz⟩ := (HNZ.out.keep (Keeps.of_below HB.out)).at_ hl1
      have HWX := Lib.hid (fun W => mwithin z 20 W hzi (by omega) (by omega))
      obtain ⟨x, hx⟩ : ∃ x, x = z % 20 := ⟨_, rfl⟩
      rw [← hx] at HWX
      have hx0 : 0 ≤ x := by omega
      have hx1 : x ≤ 19 := by omega
      obtain ⟨v', w', hrun, ho', hb'⟩ := oi_push x HO.out (by constructor <;> omega) (by rw [HLL.out]; omega) HB.out.size
      have hst := HFM.out.step x
      have hll' : (l ++ [x]).length = i + 1 := by rw [List.length_append, HLL.out]; rfl
      obtain ⟨g, cg, rfl, hg, hgl, hcx, -⟩ := ho'.cell (i := i) (x := x) (by rw [List.getElem?_append_right (by rw [HLL.out]; exact Nat.le_refl _), HLL.out]; simp)
      have hbl : b < i + 1 := by
        rcases HFM.out with ⟨_, e⟩ | h
        · omega
        · have := h.1; rw [HLL.out] at this; omega
      obtain ⟨yb, hyb⟩ : ∃ yb, (l ++ [x])[b]? = some yb := ⟨_, List.getElem?_eq_getElem (by rw [hll']; exact hbl)⟩
      obtain ⟨g2, cg2, e2, -, -, hcb, -⟩ := ho'.cell hyb
      injection e2 with e3 _ e4
      injection e3 with e3
      injection e3 with e3
      subst e3 e4
      have hcb' : cst (l ++ [x]) b = yb := by unfold cst; rw [hyb]; rfl
      have hcx' : cst (l ++ [x]) l.length = x := cst_last l x
      rw [hcb', hcx'] at hst
      rw [hll'] at hrun
      have Hrun := Lib.hid hrun
      have HO' := Lib.hid ho'
      have HB' := Lib.hid (HB.out.trans hb')
      have HST := Lib.hid hst
      have HLL' := Lib.hid hll'
      have HCC : Hid (w'.drew.cell? ⟨g, i, none⟩ = some (.int .i64 x) ∧ w'.drew.cell? ⟨g, b, none⟩ = some (.int .i64 yb)) := Lib.hid ⟨hcx, hcb⟩
      have hX' : ∀ y ∈ l ++ [x], 0 ≤ y ∧ y ≤ 19 := fun y hy => by
        rcases List.mem_append.1 hy with h | h
        · exact HX.out y h
        · rw [List.mem_singleton.1 h]; exact ⟨hx0, hx1⟩
      have HX' := Lib.hid hX'
      have ho3 : OI w.heap.size w'.drew (.slice (some ⟨g, 0, none⟩) (i + 1) cg) (l ++ [x]) := by rw [← hll']; exact ho'
      have HO3 := Lib.hid ho3
      clear ho3
      have ii : i < i + 1 := by omega
      have iz : (i : Int) < (i : Int) + 1 := by omega
      have bz : (b : Int) < (i : Int) + 1 := by omega
      have b0 : (0 : Int) ≤ (b : Int) := by omega
      clear hx hrun ho' hb' hst hll' hcx hcb hyb hcb' hcx' hX' hzi
      go_wp2_with fail
      refine (HWX.out wr).mono ?_
      rintro e w'' ⟨rfl, rfl⟩
      go_wp2_with (at_builtin; have _t := Hrun; refine wpList_append_eq rfl (.tmp 21) (.tmp 27) 22 rfl _ _ _ _ rfl rfl Hrun.out ?_; clear _t Hrun)
      refine wp_region_held_drew (S := fun W => W.cell? ⟨g, i, none⟩ = some (.int .i64 x) ∧ W.cell? ⟨g, b, none⟩ = some (.int .i64 yb)) (by kernel_rfl) HCC.out (fun hHeld => ?_)
      refine wpAnyH_take (i := 0) (v := ?va0) rfl (by kernel_rfl) (by kernel_rfl) (by kernel_rfl) (fun _ _ _ h => h) (Or.inl ⟨by rfl, ?ya0⟩) hHeld ?ra0
      case ya0 => (intro W hW; obtain ⟨hA, hB⟩ := hW; go_simp; first | done | with_reducible rfl)
      try simp only [List.getElem_toArray, List.getElem_cons_zero, Act.put, List.setIfInBounds_toArray, List.set_cons_zero, List.set_cons_succ]
      refine wpAnyH_take (i := 1) (v := ?va1) rfl (by kernel_rfl) (by kernel_rfl) (by kernel_rfl) (fun _ _ _ h => h) (Or.inl ⟨by rfl, ?ya1⟩) hHeld ?ra1
      case ya1 => (intro W hW; obtain ⟨hA, hB⟩ := hW; go_simp; first | done | with_reducible rfl)
      try simp only [List.getElem_toArray, List.getElem_cons_succ, List.getElem_cons_zero, Act.put, List.setIfInBounds_toArray, List.set_cons_zero, List.set_cons_succ]
      refine wpAnyH_take (i := 2) (v := ?va2) rfl (by kernel_rfl) (by kernel_rfl) (by kernel_rfl) (fun _ _ _ h => h) (Or.inl ⟨by rfl, ?ya2⟩) hHeld ?ra2
      case ya2 => (intro W hW; obtain ⟨hA, hB⟩ := hW; go_simp; first | done | with_reducible rfl)
      try simp only [List.getElem_toArray, List.getElem_cons_succ, List.getElem_cons_zero, Act.put, List.setIfInBounds_toArray, List.set_cons_zero, List.set_cons_succ]
      refine wpAnyH_take (i := 3) (v := ?va3) rfl (by kernel_rfl) (by kernel_rfl) (by kernel_rfl) (fun _ _ _ h => h) (Or.inl ⟨by rfl, ?ya3⟩) hHeld ?ra3
      case ya3 => (intro W hW; obtain ⟨hA, hB⟩ := hW; go_simp; first | done | with_reducible rfl)
      try simp only [List.getElem_toArray, List.getElem_cons_succ, List.getElem_cons_zero, Act.put, List.setIfInBounds_toArray, List.set_cons_zero, List.set_cons_succ]
      refine wpAnyH_take (i := 4) (v := ?va4) rfl (by kernel_rfl) (by kernel_rfl) (by kernel_rfl) (fun _ _ _ h => h) (Or.inl ⟨by rfl, ?ya4⟩) hHeld ?ra4
      case ya4 => (intro W hW; obtain ⟨hA, hB⟩ := hW; go_simp; first | done | with_reducible rfl)
      try simp only [List.getElem_toArray, List.getElem_cons_succ, List.getElem_cons_zero, Act.put, List.setIfInBounds_toArray, List.set_cons_zero, List.set_cons_succ]
      refine wpAnyH_take (i := 5) (v := ?va5) rfl (by kernel_rfl) (by kernel_rfl) (by kernel_rfl) (fun _ _ _ h => h) (Or.inl ⟨by rfl, ?ya5⟩) hHeld ?ra5
      case ya5 => (intro W hW; obtain ⟨hA, hB⟩ := hW; go_simp; first | done | with_reducible rfl)
      try simp only [List.getElem_toArray, List.getElem_cons_succ, List.getElem_cons_zero, Act.put, List.setIfInBounds_toArray, List.set_cons_zero, List.set_cons_succ]
      refine wpAnyH_take (i := 6) (v := ?va6) rfl (by kernel_rfl) (by kernel_rfl) (by kernel_rfl) (fun _ _ _ h => h) (Or.inl ⟨by rfl, ?ya6⟩) hHeld ?ra6
      case ya6 => (intro W hW; obtain ⟨hA, hB⟩ := hW; go_simp; first | done | with_reducible rfl)
      try simp only [List.getElem_toArray, List.getElem_cons_succ, List.getElem_cons_zero, Act.put, List.setIfInBounds_toArray, List.set_cons_zero, List.set_cons_succ]
      refine wpAnyH_take (i := 7) (v := ?va7) rfl (by kernel_rfl) (by kernel_rfl) (by kernel_rfl) (fun _ _ _ h => h) (Or.inl ⟨by rfl, ?ya7⟩) hHeld ?ra7
      case ya7 => (intro W hW; obtain ⟨hA, hB⟩ := hW; go_simp; first | done | with_reducible rfl)
      try simp only [List.getElem_toArray, List.getElem_cons_succ, List.getElem_cons_zero, Act.put, List.setIfInBounds_toArray, List.set_cons_zero, List.set_cons_succ]
      refine wpAnyH_take (i := 8) (v := ?va8) rfl (by kernel_rfl) (by kernel_rfl) (by kernel_rfl) (fun _ _ _ h => h) (Or.inl ⟨by rfl, ?ya8⟩) hHeld ?ra8
      case ya8 => (intro W hW; obtain ⟨hA, hB⟩ := hW; go_simp; first | done | with_reducible rfl)
      try simp only [List.getElem_toArray, List.getElem_cons_succ, List.getElem_cons_zero, Act.put, List.setIfInBounds_toArray, List.set_cons_zero, List.set_cons_succ]
      refine wpAnyH_done (by kernel_rfl) ?_ _
      by_cases hlx : x < yb
      · have dx : decide (x < yb) = true := by simpa using hlx
        have HF := Lib.hid (HST.out.1 hlx)
        clear hlx
        rw [dx]
        go_wp2
        go_roundw
        case rel => exact ⟨i + 1, i, l ++ [x], by go_num, by rfl, by omega, by omega, HLL'.out, HX'.out, by have := HF.out; rw [HLL.out] at this; exact this, HO3.out, HB'.out.drew⟩
        case measure => simp [intOf]; omega
      · have dx : decide (x < yb) = false := by simpa using hlx
        have HF := Lib.hid (HST.out.2 (by omega))
        clear hlx
        rw [dx]
        go_wp2
        go_roundw
        case rel => exact ⟨i + 1, b, l ++ [x], by go_num, by rfl, by omega, by omega, HLL'.out, HX'.out, HF.out, HO3.out, HB'.out.drew⟩
        case measure => simp [intOf]; omega
    · have hor : len0 ≤ i ∨ 12 ≤ i := by omega
      have hgrd : (decide (i < len0) = false) ∨ (decide (i < len0) = true ∧ decide ((i : Int) < 12) = false) := by
        rcases hor with h | h
        · exact .inl (decide_eq_false (by omega))
        · by_cases h' : i < len0
          · exact .inr ⟨decide_eq_true (by omega), decide_eq_false (by omega)⟩
          · exact .inl (decide_eq_false (by omega))
      obtain ⟨P, cu, rfl, -⟩ := HO.out.form
      rw [HLL.out] at HO ⊢
      have hnl : Nums .i64 wr P i l := by
        obtain ⟨P', c', e, -, -, hn, -⟩ := HO.out.form
        rw [HLL.out] at e hn
        injection e with e1 _ _
        subst e1
        exact hn
      have hmat := mat_lit wr 22 [.slice P i cu] [l] 1 rfl (fun j r hr => by
        rcases j with _ | j
        · simp at hr; subst hr; exact ⟨P, cu, by rw [HLL.out]; rfl, by rw [HLL.out]; exact hnl⟩
        · simp at hr)
      have hA := assign_any _ 1 1 [l] _ hmat (by omega) (by intro r hr; simp at hr; subst hr; rw [HLL.out]; omega)
      have hbw : Below w.heap.size w (wr.alloc (.cells #[.slice P i cu] 22)) := HB.out.alloc HB.out.size _
      have HBW := Lib.hid hbw
      by_cases hl0 : l = []
      · subst hl0
        have hi0 : i = 0 := by have := HLL.out; simpa using this.symm
        subst hi0
        have t1 : toL [([] : List Int)] = [] := by unfold toL; rw [one_no]; rfl
        have t2 : totL [([] : List Int)] = 0 := by unfold totL; rw [one_no]; rfl
        rw [t1, t2, one_no] at hA
        have HA := Lib.hid hA
        clear hA hmat hbw hor hnl t1 t2
        rcases hgrd with g1 | ⟨g1, g2⟩
        · go_wp2_with fail
          refine HA.out.mono ?_
          rintro e w3 ⟨v1, rfl, ho1, hb3⟩
          have HB3 := Lib.hid (HBW.out.trans (hb3.mono HBW.out.size))
          obtain ⟨P1, c1, rfl, -, -, -, -⟩ := ho1.form
          rw [List.length_nil]
          clear hb3 ho1
          go_wp2
          go_ret
          exact ⟨rfl, HB3.out⟩
        · simp at g2
      · have hi1 : 0 < i := by have := List.length_pos_iff.2 hl0; rw [HLL.out] at this; exact this
        obtain ⟨f1, f2⟩ := one_fst hl0 (by rw [HLL.out]; exact hi12) HX.out HFM.out
        have f3 := one_ok hl0 (by rw [HLL.out]; exact hi12) HX.out
        rw [f1, f2, f3] at hA
        have hbl := HFM.out.lt hl0
        rw [HLL.out] at hbl
        obtain ⟨y, hy⟩ : ∃ y, l[b]? = some y := ⟨_, List.getElem?_eq_getElem (by rw [HLL.out]; exact hbl)⟩
        have hcy : cst l b = y := by unfold cst; rw [hy]; rfl
        rw [hcy] at hA
        obtain ⟨pd, y', rfl, hy', -, hcb⟩ := hnl.at_ hbl
        obtain rfl : y = y' := Option.some.inj (hy.symm.trans hy')
        have HA := Lib.hid hA
        have HCB := Lib.hid hcb
        have hne0 : ((i : Int) == 0) = false := by simp; omega
        have b0 : (0 : Int) ≤ (b : Int) := by omega
        have biz : (b : Int) < (i : Int) := by omega
        clear hA hmat hbw hor hnl f1 f2 f3 hy hcy hy' hcb
        rcases hgrd with g1 | ⟨g1, g2⟩
        · go_wp2_with fail
          refine HA.out.mono ?_
          rintro e w3 ⟨v1, rfl, ho1, hb3⟩
          have HB3 := Lib.hid (HBW.out.trans (hb3.mono HBW.out.size))
          have hcb := (Keeps.of_below hb3) _ _ ((Keeps.of_below ((Below.refl _ wr).alloc (Nat.le_refl _) (.cells #[.slice (some pd) i cu] 22))) _ _ HCB.out)
          obtain ⟨P1, c1, rfl, -, -, hn1, -⟩ := ho1.form
          obtain ⟨ad1, e1, hc1⟩ := hn1.2.2 (by simp)
          subst e1
          have q1 := hc1 0 (b : Int) rfl
          rw [show ad1.add 0 = ad1 from by simp [Addr.add]] at q1
          simp only [List.length_cons, List.length_nil]
          clear hb3 ho1 hn1 hc1
          go_wp2
          go_ret
          exact ⟨rfl, HB3.out⟩
        · go_wp2_with fail
          refine HA.out.mono ?_
          rintro e w3 ⟨v1, rfl, ho1, hb3⟩
          have HB3 := Lib.hid (HBW.out.trans (hb3.mono HBW.out.size))
          have hcb := (Keeps.of_below hb3) _ _ ((Keeps.of_below ((Below.refl _ wr).alloc (Nat.le_refl _) (.cells #[.slice (some pd) i cu] 22))) _ _ HCB.out)
          obtain ⟨P1, c1, rfl, -, -, hn1, -⟩ := ho1.form
          obtain ⟨ad1, e1, hc1⟩ := hn1.2.2 (by simp)
          subst e1
          have q1 := hc1 0 (b : Int) rfl
          rw [show ad1.add 0 = ad1 from by simp [Addr.add]] at q1
          simp only [List.length_cons, List.length_nil]
          clear hb3 ho1 hn1 hc1
          go_wp2
          go_ret
          exact ⟨rfl, HB3.out⟩
end Go.Proofs.Ytimffjonhoplpaa
