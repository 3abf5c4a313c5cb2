/- The law MatchWide. -/
import Derived.Test.YtimffjonhoplpaaMatV
import Derived.Test.YtimffjonhoplpaaMatR3
import Derived.Test.YtimffjonhoplpaaRints
namespace Go.Proofs.Ytimffjonhoplpaa
open Go.RowKit Go.Shelf
attribute [local go_sem] Oper.semAt_some
/-- Rows and columns, as many. -/
def Sq (M : List (List Int)) (k : Nat) : Prop := M.length = k ∧ ∀ r ∈ M, r.length = k ∧ ∀ x ∈ r, 0 ≤ x ∧ x ≤ 1000000
theorem Sq.ok {M : List (List Int)} {k : Nat} (h : Sq M k) (h0 : 0 < k) : okM M = decide (k ≤ 12) := by
  by_cases hk : k ≤ 12
  · rw [decide_eq_true hk]
    exact okM_of hk (Nat.le_of_eq h.1) h.2
  · rw [decide_eq_false hk]
    exact okM_len (by rw [h.1]; exact hk)
theorem Sq.set {M : List (List Int)} {k i j : Nat} {r : List Int} {y : Int} (h : Sq M k) (hr : M[i]? = some r) (h0 : 0 ≤ y) (h1 : y ≤ 1000000) : Sq (M.set i (r.set j y)) k := by
  refine ⟨by rw [List.length_set]; exact h.1, fun r' hr' => ?_⟩
  rcases set_mem hr' with h2 | rfl
  · exact h.2 r' h2
  · have := h.2 r (List.mem_of_getElem? hr)
    refine ⟨by rw [List.length_set]; exact this.1, fun x hx => ?_⟩
    rcases set_mem hx with h3 | rfl
    · exact this.2 x h3
    · exact ⟨h0, h1⟩
theorem tdiv_bd (z : Int) (k : Nat) (h1 : -9223372036854775808 ≤ z) (h2 : z ≤ 9223372036854775807) (hk : 2 ≤ k) : -9223372036854775808 ≤ z.tdiv k ∧ z.tdiv k ≤ 9223372036854775807 := by
  have h : (z.tdiv k).natAbs = z.natAbs / (k : Int).natAbs := Int.natAbs_tdiv z k
  have h3 : z.natAbs / (k : Int).natAbs ≤ z.natAbs / 2 := Nat.div_le_div_left (by omega) (by omega)
  omega
set_option maxRecDepth 100000 in
set_option maxHeartbeats 8000000 in
theorem matchWide_walk (a0 : Int) (a1 : Option Addr) (len1 cap1 : Nat) (z1 : List Int) (w : World) (h0 : inK .i64 a0) (w1 : IsRow .i64 w a1 len1 cap1 z1) :
    Calls Try.prog 12 #[.int .i64 a0, .slice a1 len1 cap1] w fun e w' => e = .returned (.bool true) ∧ Below w.heap.size w w' := by
  have hnz := w1.nums.1
  obtain ⟨zs, hzs⟩ : ∃ zs, zs = z1.take len1 := ⟨_, rfl⟩
  rw [← hzs] at hnz
  have HNZ := Lib.hid hnz
  have HW0 := Lib.hid (fun W => mwithin a0 5 W h0 (by omega) (by omega))
  obtain ⟨k, hk⟩ : ∃ k : Nat, 9 + a0 % 5 = (k : Int) := ⟨(9 + a0 % 5).toNat, by omega⟩
  have hk9 : 9 ≤ k := by omega
  have hk13 : k ≤ 13 := by omega
  obtain ⟨a5, ha5⟩ : ∃ a5, a5 = a0 % 5 := ⟨_, rfl⟩
  rw [← ha5] at HW0 hk
  have a50 : 0 ≤ a5 := by omega
  have a54 : a5 ≤ 4 := by omega
  clear w1 hnz hzs ha5
  go_enter Try.func12, Try.ntmps12
  go_wp2_with fail
  refine (known9_any w).mono ?_
  rintro e w1 ⟨rfl, hb1⟩
  have HB1 := Lib.hid hb1
  have hz1 := hb1.size
  clear hb1
  go_wp2_with fail
  refine (HW0.out w1).mono ?_
  rintro e w' ⟨rfl, rfl⟩
  go_wp2
  clear hk
  go_loopw [6, 7] (fun v p wr => ∃ (i : Nat) (us : List Value), p = .int .i64 i ∧ i ≤ k ∧ OM w.heap.size wr v (List.replicate i (List.replicate k 1000000)) us ∧ Below w.heap.size w wr) (fun _ p _ => k - (intOf p).toNat)
  case atStart => exact ⟨0, [], rfl, Nat.zero_le _, OM.nil _ _, HB1.out⟩
  case round =>
    obtain ⟨i, us, rfl, hi, hom, hb⟩ := hrel
    rename World => wr
    have HO := Lib.hid hom
    have HB := Lib.hid hb
    clear hom hb
    by_cases hlt : i < k
    · have hltz : (i : Int) < (k : Int) := by omega
      go_wp2
      go_loopw [8, 9] (fun u p wq => ∃ j : Nat, p = .int .i64 j ∧ j ≤ k ∧ OI wr.heap.size wq u (List.replicate j 1000000) ∧ Below wr.heap.size wr wq) (fun _ p _ => k - (intOf p).toNat)
      case atStart => exact ⟨0, rfl, Nat.zero_le _, OI.nil _ _, Below.refl _ _⟩
      case round =>
        obtain ⟨j, rfl, hj, ho, hbq⟩ := hrel
        rename World => wq
        have HOq := Lib.hid ho
        have HBq := Lib.hid hbq
        clear ho hbq
        by_cases hkm : j < k
        · have hkz : (j : Int) < (k : Int) := by omega
          obtain ⟨v', w', hrun, ho', hb'⟩ := oi_push 1000000 HOq.out (by constructor <;> omega) (by simp; omega) HBq.out.size
          rw [← List.replicate_succ'] at ho'
          have Hrun := Lib.hid hrun
          have HO' := Lib.hid ho'
          have HB' := Lib.hid (HBq.out.trans hb')
          clear hrun ho' hb'
          go_wp2_with (at_builtin; have _t := Hrun; refine wpList_append_eq rfl (.tmp 32) (.tmp 33) 22 rfl _ _ _ _ rfl rfl Hrun.out ?_; clear _t Hrun)
          go_roundw
          case rel => exact ⟨j + 1, by go_num, by omega, HO'.out, HB'.out⟩
          case measure => simp [intOf]; omega
        · obtain rfl : j = k := by omega
          obtain ⟨P, cu, rfl, -⟩ := HOq.out.form
          rw [List.length_replicate] at HOq ⊢
          obtain ⟨v', w', hrun, ho', hb'⟩ := om_append (HO.out.below HBq.out) (HOq.out.mono HB.out.size) (OM.apart_new HO.out HOq.out (Nat.le_refl _)) (by simp; omega) (by have := HB.out.size; have := HBq.out.size; omega)
          rw [← List.replicate_succ'] at ho'
          have Hrun := Lib.hid hrun
          have HO' := Lib.hid ho'
          have HB' := Lib.hid ((HB.out.trans (HBq.out.mono HB.out.size)).trans hb')
          clear hrun ho' hb'
          go_wp2_with (at_builtin; have _t := Hrun; refine wpList_append_eq rfl (.tmp 35) (.tmp 37) 24 rfl _ _ _ _ rfl rfl Hrun.out ?_; clear _t Hrun)
          go_roundw
          case rel => exact ⟨i + 1, _, by go_num, by omega, HO'.out, HB'.out⟩
          case measure => simp [intOf]; omega
    · obtain rfl : i = k := by omega
      have hsq : Sq (List.replicate i (List.replicate i 1000000)) i := ⟨by simp, fun r hr => by
        rw [(List.mem_replicate.1 hr).2]
        exact ⟨by simp, fun x hx => by rw [(List.mem_replicate.1 hx).2]; omega⟩⟩
      have HSQ := Lib.hid hsq
      have hll : decide ((i : Int) < (i : Int)) = false := by simp
      clear hsq
      go_wp2
      go_loopw [10] (fun p wq => ∃ (t : Nat) (M : List (List Int)), p = .int .i64 t ∧ t ≤ len1 ∧ t ≤ 12 ∧ Sq M i ∧ OM w.heap.size wq u6 M us ∧ Below w.heap.size w wq) (fun p _ => len1 - (intOf p).toNat)
      case atStart => exact ⟨0, _, rfl, Nat.zero_le _, Nat.zero_le _, HSQ.out, HO.out, HB.out⟩
      case round =>
        obtain ⟨t, M, rfl, ht, ht12, hsq, hom, hb⟩ := hrel
        clear HO HB HSQ
        rename World => wq
        have HO := Lib.hid hom
        have HB := Lib.hid hb
        have HSQ := Lib.hid hsq
        clear hom hb hsq
        by_cases hlt2 : t < len1 ∧ t < 12
        · obtain ⟨hl1, hl2⟩ := hlt2
          have d1 : (t : Int) < (len1 : Int) := by omega
          have d2 : decide ((t : Int) < 12) = true := decide_eq_true (by omega)
          have t0 : (0 : Int) ≤ (t : Int) := by omega
          obtain ⟨ad, z, rfl, -, hzi, hcz⟩ := (HNZ.out.keep (Keeps.of_below HB.out)).at_ hl1
          obtain ⟨hzi1, hzi2⟩ := hzi
          obtain ⟨p, hp⟩ : ∃ p, p = t % i := ⟨_, rfl⟩
          have hpk : p < i := by rw [hp]; exact Nat.mod_lt _ (by omega)
          have htm : ((t : Int)).tmod (i : Int) = (p : Int) := by rw [tmod_nat, hp]
          obtain ⟨r, hr⟩ : ∃ r, M[p]? = some r := ⟨_, List.getElem?_eq_getElem (by rw [HSQ.out.1]; exact hpk)⟩
          obtain ⟨go, co, u, rfl, hgo, hgol, hu, hcu, -, hoi, hne⟩ := HO.out.at_ hr
          have hrl := (HSQ.out.2 r (List.mem_of_getElem? hr)).1
          obtain ⟨j, hj⟩ : ∃ j : Nat, z % (i : Int) = (j : Int) := ⟨(z % (i : Int)).toNat, by have := Int.emod_nonneg z (show (i : Int) ≠ 0 by omega); omega⟩
          have hji : j < i := by have := Int.emod_lt_of_pos z (show (0 : Int) < i by omega); omega
          obtain ⟨xj, hxj⟩ : ∃ xj, r[j]? = some xj := ⟨_, List.getElem?_eq_getElem (by rw [hrl]; exact hji)⟩
          obtain ⟨g, c, rfl, hg, hgl, hcx, hfx⟩ := hoi.cell hxj
          have hggo : g ≠ go := fun e => hne (by rw [e]; rfl)
          have hML := HSQ.out.1
          rw [hML] at HO ⊢
          obtain ⟨q, hq⟩ : ∃ q, q = z.tdiv (i : Int) := ⟨_, rfl⟩
          obtain ⟨hq1, hq2⟩ := tdiv_bd z i hzi1 hzi2 (by omega)
          rw [← hq] at hq1 hq2
          have hqw : IntKind.i64.wrap (z.tdiv (i : Int)) = q := by rw [← hq]; exact IntWalk.i64_in _ (by omega)
          have HWJ := Lib.hid (fun W => mwithin z (i : Int) W ⟨hzi1, hzi2⟩ (by omega) (by omega))
          rw [hj] at HWJ
          have HWY := Lib.hid (fun W => mwithin q 9 W ⟨hq1, hq2⟩ (by omega) (by omega))
          obtain ⟨y, hy⟩ : ∃ y, y = q % 9 := ⟨_, rfl⟩
          rw [← hy] at HWY
          have hy0 : 0 ≤ y := by omega
          have hy8 : y ≤ 8 := by omega
          have hnew := HO.out.put (i := p) (j := j) (g := g) (c := c) (r := r) hu hr y (by constructor <;> omega)
          have hsqn := HSQ.out.set (j := j) (y := y) hr hy0 (by omega)
          rw [hrl] at hcu
          have HCC : Hid (wq.drew.cell? ⟨go, p, none⟩ = some (.slice (some ⟨g, 0, none⟩) i c) ∧ wq.drew.cell? (ad.add t) = some (.int .i64 z)) := Lib.hid ⟨hcu, hcz⟩
          have hadl : (ad.add t).block < w.heap.size := by obtain ⟨ad', z', e, -, -, h⟩ := HNZ.out.at_ hl1; obtain rfl : ad = ad' := Option.some.inj e; exact block_lt h
          have HCC2 : Hid ((wq.drew.setCell ⟨g, j, none⟩ (.int .i64 y)).cell? ⟨go, p, none⟩ = some (.slice (some ⟨g, 0, none⟩) i c) ∧ (wq.drew.setCell ⟨g, j, none⟩ (.int .i64 y)).cell? (ad.add t) = some (.int .i64 z)) :=
            Lib.hid ⟨(World.cell?_of_block (Below.heap_setCell _ _ _ _ (Ne.symm hggo))).trans hcu, (World.cell?_of_block (Below.heap_setCell _ _ _ _ (by show (ad.add t).block ≠ g; omega))).trans hcz⟩
          have hcst : wq.drew.cell? ⟨g, j, none⟩ = some (.int .i64 xj) := hcx
          have hfst : wq.drew.frozen? ⟨g, j, none⟩ = false := hfx
          have p0 : (0 : Int) ≤ (p : Int) := by omega
          have in0 : ¬ i = 0 := by omega
          have pz : (p : Int) < (i : Int) := by omega
          have j0 : (0 : Int) ≤ (j : Int) := by omega
          have jz : (j : Int) < (i : Int) := by omega
          have HNEW := Lib.hid hnew
          have HSQN := Lib.hid hsqn
          clear hzi1 hzi2 hp hr hu hcu hoi hne hrl hxj hcx hfx hq hy hnew hsqn hadl hML hcz hj
          go_wp2
          refine wp_region_held_drew (S := fun W => W.cell? ⟨go, p, none⟩ = some (.slice (some ⟨g, 0, none⟩) i c) ∧ W.cell? (ad.add t) = some (.int .i64 z)) (by kernel_rfl) HCC.out (fun hHeld => ?_)
          refine wpAnyH_take (i := 0) (v := ?va0) rfl (by kernel_rfl) (by kernel_rfl) (by kernel_rfl) (fun _ _ _ h => h) (Or.inl ⟨by rfl, ?ya0⟩) hHeld ?ra0
          case ya0 => (intro W hW; obtain ⟨hA, hB⟩ := hW; go_simp; first | done | with_reducible rfl)
          try simp only [List.getElem_toArray, List.getElem_cons_zero, Act.put, List.setIfInBounds_toArray, List.set_cons_zero, List.set_cons_succ]
          refine wpAnyH_take (i := 1) (v := ?va1) rfl (by kernel_rfl) (by kernel_rfl) (by kernel_rfl) (fun _ _ _ h => h) (Or.inl ⟨by rfl, ?ya1⟩) hHeld ?ra1
          case ya1 => (intro W hW; obtain ⟨hA, hB⟩ := hW; go_simp; first | done | with_reducible rfl)
          try simp only [List.getElem_toArray, List.getElem_cons_succ, List.getElem_cons_zero, Act.put, List.setIfInBounds_toArray, List.set_cons_zero, List.set_cons_succ]
          refine wpAnyH_take (i := 2) (v := ?va2) rfl (by kernel_rfl) (by kernel_rfl) (by kernel_rfl) (fun _ _ _ h => h) (Or.inl ⟨by rfl, ?ya2⟩) hHeld ?ra2
          case ya2 => (intro W hW; obtain ⟨hA, hB⟩ := hW; go_simp; first | done | with_reducible rfl)
          try simp only [List.getElem_toArray, List.getElem_cons_succ, List.getElem_cons_zero, Act.put, List.setIfInBounds_toArray, List.set_cons_zero, List.set_cons_succ]
          refine wpAnyH_take (i := 3) (v := ?va3) rfl (by kernel_rfl) (by kernel_rfl) (by kernel_rfl) (fun _ _ _ h => h) (Or.inl ⟨by rfl, ?ya3⟩) hHeld ?ra3
          case ya3 => (intro W hW; obtain ⟨hA, hB⟩ := hW; go_simp; first | done | with_reducible rfl)
          try simp only [List.getElem_toArray, List.getElem_cons_succ, List.getElem_cons_zero, Act.put, List.setIfInBounds_toArray, List.set_cons_zero, List.set_cons_succ]
          refine wpAnyH_take (i := 4) (v := ?va4) rfl (by kernel_rfl) (by kernel_rfl) (by kernel_rfl) (fun _ _ _ h => h) (Or.inl ⟨by rfl, ?ya4⟩) hHeld ?ra4
          case ya4 => (intro W hW; obtain ⟨hA, hB⟩ := hW; go_simp; first | done | with_reducible rfl)
          try simp only [List.getElem_toArray, List.getElem_cons_succ, List.getElem_cons_zero, Act.put, List.setIfInBounds_toArray, List.set_cons_zero, List.set_cons_succ]
          refine wpAnyH_take (i := 5) (v := ?va5) rfl (by kernel_rfl) (by kernel_rfl) (by kernel_rfl) (fun _ _ _ h => h) (Or.inl ⟨by rfl, ?ya5⟩) hHeld ?ra5
          case ya5 => (intro W hW; obtain ⟨hA, hB⟩ := hW; go_simp; first | done | with_reducible rfl)
          try simp only [List.getElem_toArray, List.getElem_cons_succ, List.getElem_cons_zero, Act.put, List.setIfInBounds_toArray, List.set_cons_zero, List.set_cons_succ]
          refine wpAnyH_take (i := 6) (v := ?va6) rfl (by kernel_rfl) (by kernel_rfl) (by kernel_rfl) (fun _ _ _ h => h) (Or.inl ⟨by rfl, ?ya6⟩) hHeld ?ra6
          case ya6 => (intro W hW; obtain ⟨hA, hB⟩ := hW; go_simp; first | done | with_reducible rfl)
          try simp only [List.getElem_toArray, List.getElem_cons_succ, List.getElem_cons_zero, Act.put, List.setIfInBounds_toArray, List.set_cons_zero, List.set_cons_succ]
          refine wpAnyH_take (i := 7) (v := ?va7) rfl (by kernel_rfl) (by kernel_rfl) (by kernel_rfl) (fun _ _ _ h => h) (Or.inl ⟨by rfl, ?ya7⟩) hHeld ?ra7
          case ya7 => (intro W hW; obtain ⟨hA, hB⟩ := hW; go_simp; first | done | with_reducible rfl)
          try simp only [List.getElem_toArray, List.getElem_cons_succ, List.getElem_cons_zero, Act.put, List.setIfInBounds_toArray, List.set_cons_zero, List.set_cons_succ]
          refine wpAnyH_take (i := 8) (v := ?va8) rfl (by kernel_rfl) (by kernel_rfl) (by kernel_rfl) (fun _ _ _ h => h) (Or.inl ⟨by rfl, ?ya8⟩) hHeld ?ra8
          case ya8 => (intro W hW; obtain ⟨hA, hB⟩ := hW; go_simp; first | done | with_reducible rfl)
          try simp only [List.getElem_toArray, List.getElem_cons_succ, List.getElem_cons_zero, Act.put, List.setIfInBounds_toArray, List.set_cons_zero, List.set_cons_succ]
          refine wpAnyH_take (i := 9) (v := ?va9) rfl (by kernel_rfl) (by kernel_rfl) (by kernel_rfl) (fun _ _ _ h => h) (Or.inl ⟨by rfl, ?ya9⟩) hHeld ?ra9
          case ya9 => (intro W hW; obtain ⟨hA, hB⟩ := hW; go_simp; first | done | with_reducible rfl)
          try simp only [List.getElem_toArray, List.getElem_cons_succ, List.getElem_cons_zero, Act.put, List.setIfInBounds_toArray, List.set_cons_zero, List.set_cons_succ]
          refine wpAnyH_take (i := 10) (v := ?va10) rfl (by kernel_rfl) (by kernel_rfl) (by kernel_rfl) (fun _ _ _ h => h) (Or.inl ⟨by rfl, ?ya10⟩) hHeld ?ra10
          case ya10 => (intro W hW; obtain ⟨hA, hB⟩ := hW; go_simp; first | done | with_reducible rfl)
          try simp only [List.getElem_toArray, List.getElem_cons_succ, List.getElem_cons_zero, Act.put, List.setIfInBounds_toArray, List.set_cons_zero, List.set_cons_succ]
          refine wpAnyH_take (i := 12) (v := ?va12) rfl (by kernel_rfl) (by kernel_rfl) (by kernel_rfl) (fun _ _ _ h => h) (Or.inl ⟨by rfl, ?ya12⟩) hHeld ?ra12
          case ya12 => (intro W hW; obtain ⟨hA, hB⟩ := hW; go_simp; first | done | with_reducible rfl)
          try simp only [List.getElem_toArray, List.getElem_cons_succ, List.getElem_cons_zero, Act.put, List.setIfInBounds_toArray, List.set_cons_zero, List.set_cons_succ]
          refine wpAnyH_take (i := 13) (v := ?va13) rfl (by kernel_rfl) (by kernel_rfl) (by kernel_rfl) (fun _ _ _ h => h) (Or.inl ⟨by rfl, ?ya13⟩) hHeld ?ra13
          case ya13 => (intro W hW; obtain ⟨hA, hB⟩ := hW; go_simp; first | done | with_reducible rfl)
          try simp only [List.getElem_toArray, List.getElem_cons_succ, List.getElem_cons_zero, Act.put, List.setIfInBounds_toArray, List.set_cons_zero, List.set_cons_succ]
          refine wpAnyH_take (i := 14) (v := ?va14) rfl (by kernel_rfl) (by kernel_rfl) (by kernel_rfl) (fun _ _ _ h => h) (Or.inl ⟨by rfl, ?ya14⟩) hHeld ?ra14
          case ya14 => (intro W hW; obtain ⟨hA, hB⟩ := hW; go_simp; first | done | with_reducible rfl)
          try simp only [List.getElem_toArray, List.getElem_cons_succ, List.getElem_cons_zero, Act.put, List.setIfInBounds_toArray, List.set_cons_zero, List.set_cons_succ]
          refine wpAnyH_take (i := 15) (v := ?va15) rfl (by kernel_rfl) (by kernel_rfl) (by kernel_rfl) (fun _ _ _ h => h) (Or.inl ⟨by rfl, ?ya15⟩) hHeld ?ra15
          case ya15 => (intro W hW; obtain ⟨hA, hB⟩ := hW; go_simp; first | done | with_reducible rfl)
          try simp only [List.getElem_toArray, List.getElem_cons_succ, List.getElem_cons_zero, Act.put, List.setIfInBounds_toArray, List.set_cons_zero, List.set_cons_succ]
          refine wpAnyH_take (i := 16) (v := ?va16) rfl (by kernel_rfl) (by kernel_rfl) (by kernel_rfl) (fun _ _ _ h => h) (Or.inl ⟨by rfl, ?ya16⟩) hHeld ?ra16
          case ya16 => (intro W hW; obtain ⟨hA, hB⟩ := hW; go_simp; first | done | with_reducible rfl)
          try simp only [List.getElem_toArray, List.getElem_cons_succ, List.getElem_cons_zero, Act.put, List.setIfInBounds_toArray, List.set_cons_zero, List.set_cons_succ]
          refine wpAnyH_take (i := 17) (v := ?va17) rfl (by kernel_rfl) (by kernel_rfl) (by kernel_rfl) (fun _ _ _ h => h) (Or.inl ⟨by rfl, ?ya17⟩) hHeld ?ra17
          case ya17 => (intro W hW; obtain ⟨hA, hB⟩ := hW; go_simp; first | done | with_reducible rfl)
          try simp only [List.getElem_toArray, List.getElem_cons_succ, List.getElem_cons_zero, Act.put, List.setIfInBounds_toArray, List.set_cons_zero, List.set_cons_succ]
          refine wpAnyH_ready (rs := [11]) (by kernel_rfl) (by simp) ?_
          refine AllReadyH.cons rfl (fun K hK => ?_) (AllReadyH.nil)
          go_simp
          refine (HWJ.out _).mono ?_
          rintro e w' ⟨rfl, rfl⟩
          refine hK.out _ _ (HCC.out) (fun hHeld => ?_)
          clear hK K
          try simp only [List.getElem_toArray, List.getElem_cons_succ, List.getElem_cons_zero, Act.put, List.setIfInBounds_toArray, List.set_cons_zero, List.set_cons_succ]
          refine wpAnyH_ready (rs := [18]) (by kernel_rfl) (by simp) ?_
          refine AllReadyH.cons rfl (fun K hK => ?_) (AllReadyH.nil)
          go_simp
          refine (HWY.out _).mono ?_
          rintro e w' ⟨rfl, rfl⟩
          refine hK.out _ _ (HCC.out) (fun hHeld => ?_)
          clear hK K
          try simp only [List.getElem_toArray, List.getElem_cons_succ, List.getElem_cons_zero, Act.put, List.setIfInBounds_toArray, List.set_cons_zero, List.set_cons_succ]
          refine wpAnyH_take (i := 19) (v := ?va19) rfl (by kernel_rfl) (by kernel_rfl) (by kernel_rfl) (fun _ _ _ h => h) (Or.inl ⟨by rfl, ?ya19⟩) hHeld ?ra19
          case ya19 => (intro W hW; obtain ⟨hA, hB⟩ := hW; go_simp; first | done | with_reducible rfl)
          try simp only [List.getElem_toArray, List.getElem_cons_succ, List.getElem_cons_zero, Act.put, List.setIfInBounds_toArray, List.set_cons_zero, List.set_cons_succ]
          refine wpAnyH_ready (rs := [20]) (by kernel_rfl) (by simp) ?_
          refine AllReadyH.cons rfl (fun K hK => ?_) (AllReadyH.nil)
          go_simp
          refine hK.out _ _ (HCC2.out) (fun hHeld => ?_)
          clear hK K
          try simp only [List.getElem_toArray, List.getElem_cons_succ, List.getElem_cons_zero, Act.put, List.setIfInBounds_toArray, List.set_cons_zero, List.set_cons_succ]
          refine wpAnyH_done (by kernel_rfl) ?_ _
          go_wp2
          go_roundw
          case rel => exact ⟨t + 1, M.set p (r.set j y), by go_num, by omega, by omega, HSQN.out, HNEW.out.below (Below.refl _ _).drew, (HB.out.drew.setCell (p := ⟨g, j, none⟩) hg _)⟩
          case measure => simp [intOf]; omega
        · have hgrd : (decide (t < len1) = false) ∨ (decide (t < len1) = true ∧ decide ((t : Int) < 12) = false) := by
            by_cases h : t < len1
            · exact .inr ⟨by simpa using h, decide_eq_false (by omega)⟩
            · exact .inl (by simpa using h)
          obtain ⟨A, c, rfl, hmat⟩ := HO.out.mat
          rw [HSQ.out.1] at hmat ⊢
          have HM := Lib.hid hmat
          have hrl : ∀ r ∈ M, r.length ≤ 1000000 := fun r hr => by rw [(HSQ.out.2 r hr).1]; omega
          have HR := Lib.hid hrl
          have hok := HSQ.out.ok (by omega)
          have HOK := Lib.hid hok
          clear hmat hrl hok
          rcases hgrd with g1 | ⟨g1, g2⟩
          · go_wp2_with fail
            refine (assign_any A i c M wq HM.out (by omega) HR.out).mono ?_
            rintro e w3 ⟨v1, rfl, ho1, hb3⟩
            have HB3 := Lib.hid (HB.out.trans (hb3.mono HB.out.size))
            have HM3 := Lib.hid (HM.out.keep (Keeps.of_below hb3))
            obtain ⟨P1, c1, rfl, -, -, hn1, -⟩ := ho1.form
            have HN1 := Lib.hid hn1
            clear hb3 ho1 hn1
            go_wp2_with fail
            refine (rAssign_any A i c M w3 HM3.out (by omega) HR.out).mono ?_
            rintro e w4 ⟨v2, rfl, ho2, hb4⟩
            have HB4 := Lib.hid (HB3.out.trans (hb4.mono HB3.out.size))
            have HN1' := Lib.hid (HN1.out.keep (Keeps.of_below hb4))
            obtain ⟨P2, c2, rfl, -, -, hn2, -⟩ := ho2.form
            have HN2 := Lib.hid hn2
            have hTl : (toL M).length ≤ 4611686018427387904 := by have := toL_le M; omega
            clear hb4 ho2 hn2
            obtain ⟨ok, hok⟩ : ∃ ok, ok = okM M := ⟨_, rfl⟩
            rw [← hok]
            have hle : decide ((i : Int) ≤ 12) = ok := by rw [hok, HOK.out, Bool.eq_iff_iff]; simp only [decide_eq_true_eq]; omega
            have hee : (ok == ok) = true := by simp
            clear hok
            go_wp2_with fail
            refine (rInts P1 P2 _ _ c1 c2 _ _ w4 HN1'.out HN2.out hTl).mono ?_
            rintro e w5 ⟨rfl, q, rfl⟩
            rw [decide_eq_true rfl]
            go_wp2
            go_ret
            exact ⟨rfl, below_drewN HB4.out q⟩
          · go_wp2_with fail
            refine (assign_any A i c M wq HM.out (by omega) HR.out).mono ?_
            rintro e w3 ⟨v1, rfl, ho1, hb3⟩
            have HB3 := Lib.hid (HB.out.trans (hb3.mono HB.out.size))
            have HM3 := Lib.hid (HM.out.keep (Keeps.of_below hb3))
            obtain ⟨P1, c1, rfl, -, -, hn1, -⟩ := ho1.form
            have HN1 := Lib.hid hn1
            clear hb3 ho1 hn1
            go_wp2_with fail
            refine (rAssign_any A i c M w3 HM3.out (by omega) HR.out).mono ?_
            rintro e w4 ⟨v2, rfl, ho2, hb4⟩
            have HB4 := Lib.hid (HB3.out.trans (hb4.mono HB3.out.size))
            have HN1' := Lib.hid (HN1.out.keep (Keeps.of_below hb4))
            obtain ⟨P2, c2, rfl, -, -, hn2, -⟩ := ho2.form
            have HN2 := Lib.hid hn2
            have hTl : (toL M).length ≤ 4611686018427387904 := by have := toL_le M; omega
            clear hb4 ho2 hn2
            obtain ⟨ok, hok⟩ : ∃ ok, ok = okM M := ⟨_, rfl⟩
            rw [← hok]
            have hle : decide ((i : Int) ≤ 12) = ok := by rw [hok, HOK.out, Bool.eq_iff_iff]; simp only [decide_eq_true_eq]; omega
            have hee : (ok == ok) = true := by simp
            clear hok
            go_wp2_with fail
            refine (rInts P1 P2 _ _ c1 c2 _ _ w4 HN1'.out HN2.out hTl).mono ?_
            rintro e w5 ⟨rfl, q, rfl⟩
            rw [decide_eq_true rfl]
            go_wp2
            go_ret
            exact ⟨rfl, below_drewN HB4.out q⟩
end Go.Proofs.Ytimffjonhoplpaa
