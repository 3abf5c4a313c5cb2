/- The law MatchColumns. -/
import Derived.Deep.CutBlock
import Derived.Deep.CutRange
import Derived.Deep.DeepCutAuto
import Derived.Test.YtnjalnnbdmmcmaaMatL
import Derived.Test.YtnjalnnbdmmcmaaSqr
import Derived.Test.YtnjalnnbdmmcmaaMatR3
namespace Go.Proofs.Ytnjalnnbdmmcmaa
open Go.RowKit Go.Shelf
attribute [local go_sem] Oper.semAt_some
set_option maxRecDepth 100000 in
set_option maxHeartbeats 8000000 in
theorem matchColumns_walk (a0 : Int) (a1 : Option Addr) (len1 cap1 : Nat) (z1 : List Int) (a2 : Option Addr) (len2 cap2 : Nat) (z2 : List Int) (w : World) (h0 : inK .i64 a0) (w1 : IsRow .i64 w a1 len1 cap1 z1) (w2 : IsRow .i64 w a2 len2 cap2 z2) :
    Calls Try.prog 3 #[.int .i64 a0, .slice a1 len1 cap1, .slice a2 len2 cap2] w fun e w' => e = .returned (.bool true) ∧ Below w.heap.size w w' := by
  have hn1 := w1.nums.1
  have hn2 := w2.nums.1
  obtain ⟨zs, hzs⟩ : ∃ zs, zs = z1.take len1 := ⟨_, rfl⟩
  rw [← hzs] at hn1
  have HN1 := Lib.hid hn1
  have HN2 := Lib.hid hn2
  have HZL := Lib.hid hn1.len
  have HW0 := Lib.hid (fun W => mwithin a0 5 W h0 (by omega) (by omega))
  obtain ⟨a8, ha8⟩ : ∃ a8, a8 = a0 % 5 := ⟨_, rfl⟩
  rw [← ha8] at HW0
  have a80 : 0 ≤ a8 := by omega
  have a87 : a8 ≤ 4 := by omega
  obtain ⟨k, hk⟩ : ∃ k : Nat, 1 + a8 = (k : Int) := ⟨(1 + a8).toNat, by omega⟩
  have hk1 : 1 ≤ k := by omega
  have hk8 : k ≤ 5 := by omega
  clear w1 w2 hn1 hn2 hzs ha8
  go_enter Try.func3, Try.ntmps3
  go_wp2_with fail
  refine (known9_any w).mono ?_
  rintro e w1 ⟨rfl, hb1⟩
  have HB1 := Lib.hid hb1
  have hz1 := hb1.size
  clear hb1
  go_wp2_with fail
  refine (HW0.out w1).mono ?_
  rintro e w' ⟨rfl, rfl⟩
  go_wp2
  clear hk
  go_loopw [8, 9] (fun v p wr => ∃ i : Nat, p = .int .i64 i ∧ i ≤ k ∧ OI w.heap.size wr v ((List.range i).map fun (k : Nat) => (k : Int)) ∧ Below w.heap.size w wr) (fun _ p _ => k - (intOf p).toNat)
  case atStart => exact ⟨0, rfl, Nat.zero_le _, OI.nil _ _, HB1.out⟩
  case round =>
    obtain ⟨i, rfl, hi, ho, hb⟩ := hrel
    rename World => wr
    have HO := Lib.hid ho
    have HB := Lib.hid hb
    clear ho hb
    by_cases hlt : i < k
    · have hltz : (i : Int) < (k : Int) := by omega
      obtain ⟨v', w', hrun, ho', hb'⟩ := oi_push (i : Int) HO.out (by constructor <;> omega) (by simp; omega) HB.out.size
      have he : ((List.range i).map fun (k : Nat) => (k : Int)) ++ [(i : Int)] = (List.range (i + 1)).map fun (k : Nat) => (k : Int) := by rw [List.range_succ, List.map_append]; rfl
      rw [he] at ho'
      have Hrun := Lib.hid hrun
      have HO' := Lib.hid ho'
      have HB' := Lib.hid (HB.out.trans hb')
      clear hrun ho' hb' he
      go_wp2_with (at_builtin; have _t := Hrun; refine wpList_append_eq rfl (.tmp 42) (.tmp 44) 22 rfl _ _ _ _ rfl rfl Hrun.out ?_; clear _t Hrun)
      go_roundw
      case rel => exact ⟨i + 1, by go_num, by omega, HO'.out, HB'.out⟩
      case measure => simp [intOf]; omega
    · obtain rfl : i = k := by omega
      have hkk : decide ((i : Int) < (i : Int)) = false := by simp
      go_upto_block 2 with (fail)
      go_cut [10, 11, 12] (fun _ _ _ wq => ∃ T : List Nat, T.Perm (List.range i) ∧ OI w.heap.size wq u8 (T.map fun (k : Nat) => (k : Int)) ∧ Below w.heap.size w wq)
      case first =>
        go_wp2_with fail
        go_loopw [10, 11, 12] (fun p _ _ wq => ∃ (t : Nat) (T : List Nat), p = .int .i64 t ∧ t ≤ len2 ∧ t ≤ 20 ∧ T.Perm (List.range i) ∧ OI w.heap.size wq u8 (T.map fun (k : Nat) => (k : Int)) ∧ Below w.heap.size w wq) (fun p _ _ _ => len2 - (intOf p).toNat)
        case atStart => exact ⟨0, _, rfl, Nat.zero_le _, Nat.zero_le _, List.Perm.refl _, HO.out, HB.out⟩
        case round =>
          obtain ⟨t, T, rfl, ht, ht20, hT, ho, hb⟩ := hrel
          clear HO HB
          rename World => wq
          have HO := Lib.hid ho
          have HB := Lib.hid hb
          have HT := Lib.hid hT
          clear ho hb hT
          by_cases hlt2 : t < len2 ∧ t < 20
          · obtain ⟨hl1, hl2⟩ := hlt2
            have d1 : (t : Int) < (len2 : Int) := by omega
            have d2 : decide ((t : Int) < 20) = true := decide_eq_true (by omega)
            have t0 : (0 : Int) ≤ (t : Int) := by omega
            obtain ⟨ad, z, rfl, -, hzi, hcz⟩ := (HN2.out.keep (Keeps.of_below HB.out)).at_ hl1
            have HCZ := Lib.hid (show wq.drew.cell? (ad.add t) = some (.int .i64 z) from hcz)
            obtain ⟨pa, hpa⟩ : ∃ pa, pa = t % i := ⟨_, rfl⟩
            have hpaK : pa < i := by rw [hpa]; exact Nat.mod_lt _ (by omega)
            have htm : ((t : Int)).tmod (i : Int) = (pa : Int) := by rw [tmod_nat, hpa]
            obtain ⟨pb, hpb⟩ : ∃ pb : Nat, z % (i : Int) = (pb : Int) := ⟨(z % (i : Int)).toNat, by have := Int.emod_nonneg z (show (i : Int) ≠ 0 by omega); omega⟩
            have hpbK : pb < i := by have := Int.emod_lt_of_pos z (show (0 : Int) < i by omega); omega
            have HWJ := Lib.hid (fun W => mwithin z (i : Int) W hzi (by omega) (by omega))
            rw [hpb] at HWJ
            obtain ⟨hTl, hTn, hTb⟩ := perm_spec HT.out
            obtain ⟨xa, hxa⟩ : ∃ xa, T[pa]? = some xa := ⟨_, List.getElem?_eq_getElem (by rw [hTl]; exact hpaK)⟩
            obtain ⟨xb, hxb⟩ : ∃ xb, T[pb]? = some xb := ⟨_, List.getElem?_eq_getElem (by rw [hTl]; exact hpbK)⟩
            have hxa' : (T.map fun (k : Nat) => (k : Int))[pa]? = some (xa : Int) := by rw [List.getElem?_map, hxa]; rfl
            have hxb' : (T.map fun (k : Nat) => (k : Int))[pb]? = some (xb : Int) := by rw [List.getElem?_map, hxb]; rfl
            have hml : (T.map fun (k : Nat) => (k : Int)).length = i := by rw [List.length_map, hTl]
            obtain ⟨g, c, rfl, hg, hgl, hca, hfa⟩ := HO.out.cell hxa'
            obtain ⟨g2, c2, e2, -, -, hcb, hfb⟩ := HO.out.cell hxb'
            injection e2 with e3 _ e4
            injection e3 with e3
            injection e3 with e3
            subst e3 e4
            have hop := HO.out.put (i := pa) (xb : Int) (by have := hTb xb (List.mem_of_getElem? hxb); constructor <;> omega)
            obtain ⟨yp, hyp⟩ : ∃ yp, ((T.map fun (k : Nat) => (k : Int)).set pa (xb : Int))[pb]? = some yp := ⟨_, List.getElem?_eq_getElem (by rw [List.length_set, hml]; exact hpbK)⟩
            obtain ⟨g3, c3, e5, -, -, hcp, hfp⟩ := hop.cell hyp
            injection e5 with e6 _ e7
            injection e6 with e6
            injection e6 with e6
            subst e6
            clear e7 hyp hop
            have ho2 := (HO.out.put (i := pa) (xb : Int) (by have := hTb xb (List.mem_of_getElem? hxb); constructor <;> omega)).put (i := pb) (xa : Int) (by have := hTb xa (List.mem_of_getElem? hxa); constructor <;> omega)
            rw [← swp_cast, hml] at ho2
            have HO2 := Lib.hid ho2
            have HT2 := Lib.hid ((swp_perm hxa hxb).trans HT.out)
            rw [hml] at HO ⊢
            have hca' : wq.drew.drew.cell? ⟨g, pa, none⟩ = some (.int .i64 (xa : Int)) := hca
            have hcb' : wq.drew.drew.cell? ⟨g, pb, none⟩ = some (.int .i64 (xb : Int)) := hcb
            have HCC : Hid (wq.drew.drew.cell? ⟨g, pa, none⟩ = some (.int .i64 (xa : Int)) ∧ wq.drew.drew.cell? ⟨g, pb, none⟩ = some (.int .i64 (xb : Int))) := Lib.hid ⟨hca, hcb⟩
            have hfa' : wq.drew.drew.frozen? ⟨g, pa, none⟩ = false := hfa
            have hfb' : wq.drew.drew.frozen? ⟨g, pb, none⟩ = false := hfb
            have kn0 : ¬ i = 0 := by omega
            have a0 : (0 : Int) ≤ (pa : Int) := by omega
            have az : (pa : Int) < (i : Int) := by omega
            have b0 : (0 : Int) ≤ (pb : Int) := by omega
            have bz : (pb : Int) < (i : Int) := by omega
            clear hzi hpa hpb hTl hTn hTb hxa hxb hxa' hxb' hml hca hcb hfa hfb ho2
            go_wp2
            refine wp_region_held_drew (S := fun W => W.cell? (ad.add t) = some (.int .i64 z)) (by kernel_rfl) HCZ.out (fun hHeld => ?_)
            refine wpAnyH_take (i := 0) (v := ?vs0) rfl (by kernel_rfl) (by kernel_rfl) (by kernel_rfl) (fun _ _ _ h => h) (Or.inl ⟨by rfl, ?ys0⟩) hHeld ?rs0
            case ys0 => (intro W hW; go_simp; first | done | with_reducible rfl)
            try simp only [List.getElem_toArray, List.getElem_cons_zero, Act.put, List.setIfInBounds_toArray, List.set_cons_zero, List.set_cons_succ]
            refine wpAnyH_take (i := 1) (v := ?vs1) rfl (by kernel_rfl) (by kernel_rfl) (by kernel_rfl) (fun _ _ _ h => h) (Or.inl ⟨by rfl, ?ys1⟩) hHeld ?rs1
            case ys1 => (intro W hW; go_simp; first | done | with_reducible rfl)
            try simp only [List.getElem_toArray, List.getElem_cons_succ, List.getElem_cons_zero, Act.put, List.setIfInBounds_toArray, List.set_cons_zero, List.set_cons_succ]
            refine wpAnyH_take (i := 2) (v := ?vs2) rfl (by kernel_rfl) (by kernel_rfl) (by kernel_rfl) (fun _ _ _ h => h) (Or.inl ⟨by rfl, ?ys2⟩) hHeld ?rs2
            case ys2 => (intro W hW; go_simp; first | done | with_reducible rfl)
            try simp only [List.getElem_toArray, List.getElem_cons_succ, List.getElem_cons_zero, Act.put, List.setIfInBounds_toArray, List.set_cons_zero, List.set_cons_succ]
            refine wpAnyH_take (i := 3) (v := ?vs3) rfl (by kernel_rfl) (by kernel_rfl) (by kernel_rfl) (fun _ _ _ h => h) (Or.inl ⟨by rfl, ?ys3⟩) hHeld ?rs3
            case ys3 => (intro W hW; go_simp; first | done | with_reducible rfl)
            try simp only [List.getElem_toArray, List.getElem_cons_succ, List.getElem_cons_zero, Act.put, List.setIfInBounds_toArray, List.set_cons_zero, List.set_cons_succ]
            refine wpAnyH_take (i := 4) (v := ?vs4) rfl (by kernel_rfl) (by kernel_rfl) (by kernel_rfl) (fun _ _ _ h => h) (Or.inl ⟨by rfl, ?ys4⟩) hHeld ?rs4
            case ys4 => (intro W hW; go_simp; first | done | with_reducible rfl)
            try simp only [List.getElem_toArray, List.getElem_cons_succ, List.getElem_cons_zero, Act.put, List.setIfInBounds_toArray, List.set_cons_zero, List.set_cons_succ]
            refine wpAnyH_take (i := 5) (v := ?vs5) rfl (by kernel_rfl) (by kernel_rfl) (by kernel_rfl) (fun _ _ _ h => h) (Or.inl ⟨by rfl, ?ys5⟩) hHeld ?rs5
            case ys5 => (intro W hW; go_simp; first | done | with_reducible rfl)
            try simp only [List.getElem_toArray, List.getElem_cons_succ, List.getElem_cons_zero, Act.put, List.setIfInBounds_toArray, List.set_cons_zero, List.set_cons_succ]
            refine wpAnyH_take (i := 6) (v := ?vs6) rfl (by kernel_rfl) (by kernel_rfl) (by kernel_rfl) (fun _ _ _ h => h) (Or.inl ⟨by rfl, ?ys6⟩) hHeld ?rs6
            case ys6 => (intro W hW; go_simp; first | done | with_reducible rfl)
            try simp only [List.getElem_toArray, List.getElem_cons_succ, List.getElem_cons_zero, Act.put, List.setIfInBounds_toArray, List.set_cons_zero, List.set_cons_succ]
            refine wpAnyH_take (i := 7) (v := ?vs7) rfl (by kernel_rfl) (by kernel_rfl) (by kernel_rfl) (fun _ _ _ h => h) (Or.inl ⟨by rfl, ?ys7⟩) hHeld ?rs7
            case ys7 => (intro W hW; go_simp; first | done | with_reducible rfl)
            try simp only [List.getElem_toArray, List.getElem_cons_succ, List.getElem_cons_zero, Act.put, List.setIfInBounds_toArray, List.set_cons_zero, List.set_cons_succ]
            refine wpAnyH_ready (rs := [8]) (by kernel_rfl) (by simp) ?_
            refine AllReadyH.cons rfl (fun K hK => ?_) (AllReadyH.nil)
            go_simp
            refine (HWJ.out _).mono ?_
            rintro e w' ⟨rfl, rfl⟩
            refine hK.out _ _ (HCZ.out) (fun hHeld => ?_)
            clear hK K
            try simp only [List.getElem_toArray, List.getElem_cons_succ, List.getElem_cons_zero, Act.put, List.setIfInBounds_toArray, List.set_cons_zero, List.set_cons_succ]
            refine wpAnyH_take (i := 9) (v := ?vs9) rfl (by kernel_rfl) (by kernel_rfl) (by kernel_rfl) (fun _ _ _ h => h) (Or.inl ⟨by rfl, ?ys9⟩) hHeld ?rs9
            case ys9 => (intro W hW; go_simp; first | done | with_reducible rfl)
            try simp only [List.getElem_toArray, List.getElem_cons_succ, List.getElem_cons_zero, Act.put, List.setIfInBounds_toArray, List.set_cons_zero, List.set_cons_succ]
            refine wpAnyH_take (i := 10) (v := ?vs10) rfl (by kernel_rfl) (by kernel_rfl) (by kernel_rfl) (fun _ _ _ h => h) (Or.inl ⟨by rfl, ?ys10⟩) hHeld ?rs10
            case ys10 => (intro W hW; go_simp; first | done | with_reducible rfl)
            try simp only [List.getElem_toArray, List.getElem_cons_succ, List.getElem_cons_zero, Act.put, List.setIfInBounds_toArray, List.set_cons_zero, List.set_cons_succ]
            refine wpAnyH_done (by kernel_rfl) ?_ _
            go_wp2
            refine region_P (S := fun W => W.cell? ⟨g, pa, none⟩ = some (.int .i64 (xa : Int)) ∧ W.cell? ⟨g, pb, none⟩ = some (.int .i64 (xb : Int))) (kill := [13, 15]) (by kernel_rfl) HCC.out (fun hHeld => ?_)
            refine anyP_pure (i := 0) (v := ?vq0) rfl (by kernel_rfl) (by kernel_rfl) (by kernel_rfl) (by kernel_rfl) (fun _ _ _ h => h) (Or.inl ⟨by rfl, ?yq0⟩) ?rq0
            case yq0 => (intro W hW; go_simp; first | done | with_reducible rfl)
            try simp only [List.getElem_toArray, List.getElem_cons_zero, Act.put, List.setIfInBounds_toArray, List.set_cons_zero, List.set_cons_succ]
            refine anyP_pure (i := 1) (v := ?vq1) rfl (by kernel_rfl) (by kernel_rfl) (by kernel_rfl) (by kernel_rfl) (fun _ _ _ h => h) (Or.inl ⟨by rfl, ?yq1⟩) ?rq1
            case yq1 => (intro W hW; go_simp; first | done | with_reducible rfl)
            try simp only [List.getElem_toArray, List.getElem_cons_succ, List.getElem_cons_zero, Act.put, List.setIfInBounds_toArray, List.set_cons_zero, List.set_cons_succ]
            refine anyP_pure (i := 2) (v := ?vq2) rfl (by kernel_rfl) (by kernel_rfl) (by kernel_rfl) (by kernel_rfl) (fun _ _ _ h => h) (Or.inl ⟨by rfl, ?yq2⟩) ?rq2
            case yq2 => (intro W hW; go_simp; first | done | with_reducible rfl)
            try simp only [List.getElem_toArray, List.getElem_cons_succ, List.getElem_cons_zero, Act.put, List.setIfInBounds_toArray, List.set_cons_zero, List.set_cons_succ]
            refine anyP_pure (i := 3) (v := ?vq3) rfl (by kernel_rfl) (by kernel_rfl) (by kernel_rfl) (by kernel_rfl) (fun _ _ _ h => h) (Or.inl ⟨by rfl, ?yq3⟩) ?rq3
            case yq3 => (intro W hW; go_simp; first | done | with_reducible rfl)
            try simp only [List.getElem_toArray, List.getElem_cons_succ, List.getElem_cons_zero, Act.put, List.setIfInBounds_toArray, List.set_cons_zero, List.set_cons_succ]
            refine anyP_pure (i := 4) (v := ?vq4) rfl (by kernel_rfl) (by kernel_rfl) (by kernel_rfl) (by kernel_rfl) (fun _ _ _ h => h) (Or.inl ⟨by rfl, ?yq4⟩) ?rq4
            case yq4 => (intro W hW; go_simp; first | done | with_reducible rfl)
            try simp only [List.getElem_toArray, List.getElem_cons_succ, List.getElem_cons_zero, Act.put, List.setIfInBounds_toArray, List.set_cons_zero, List.set_cons_succ]
            refine anyP_pure (i := 5) (v := ?vq5) rfl (by kernel_rfl) (by kernel_rfl) (by kernel_rfl) (by kernel_rfl) (fun _ _ _ h => h) (Or.inl ⟨by rfl, ?yq5⟩) ?rq5
            case yq5 => (intro W hW; go_simp; first | done | with_reducible rfl)
            try simp only [List.getElem_toArray, List.getElem_cons_succ, List.getElem_cons_zero, Act.put, List.setIfInBounds_toArray, List.set_cons_zero, List.set_cons_succ]
            refine anyP_take (i := 6) (v := ?vq6) rfl (by kernel_rfl) (by kernel_rfl) (by kernel_rfl) (by kernel_rfl) (by kernel_rfl) (fun _ _ _ h => h) (Or.inl ⟨by rfl, ?yq6⟩) hHeld ?rq6
            case yq6 => (intro W hW; obtain ⟨hA, hB⟩ := hW; go_simp; first | done | with_reducible rfl)
            try simp only [List.getElem_toArray, List.getElem_cons_succ, List.getElem_cons_zero, Act.put, List.setIfInBounds_toArray, List.set_cons_zero, List.set_cons_succ]
            refine anyP_take (i := 7) (v := ?vq7) rfl (by kernel_rfl) (by kernel_rfl) (by kernel_rfl) (by kernel_rfl) (by kernel_rfl) (fun _ _ _ h => h) (Or.inl ⟨by rfl, ?yq7⟩) hHeld ?rq7
            case yq7 => (intro W hW; obtain ⟨hA, hB⟩ := hW; go_simp; first | done | with_reducible rfl)
            try simp only [List.getElem_toArray, List.getElem_cons_succ, List.getElem_cons_zero, Act.put, List.setIfInBounds_toArray, List.set_cons_zero, List.set_cons_succ]
            refine anyP_pure (i := 8) (v := ?vq8) rfl (by kernel_rfl) (by kernel_rfl) (by kernel_rfl) (by kernel_rfl) (fun _ _ _ h => h) (Or.inl ⟨by rfl, ?yq8⟩) ?rq8
            case yq8 => (intro W hW; go_simp; first | done | with_reducible rfl)
            try simp only [List.getElem_toArray, List.getElem_cons_succ, List.getElem_cons_zero, Act.put, List.setIfInBounds_toArray, List.set_cons_zero, List.set_cons_succ]
            refine anyP_pure (i := 9) (v := ?vq9) rfl (by kernel_rfl) (by kernel_rfl) (by kernel_rfl) (by kernel_rfl) (fun _ _ _ h => h) (Or.inl ⟨by rfl, ?yq9⟩) ?rq9
            case yq9 => (intro W hW; go_simp; first | done | with_reducible rfl)
            try simp only [List.getElem_toArray, List.getElem_cons_succ, List.getElem_cons_zero, Act.put, List.setIfInBounds_toArray, List.set_cons_zero, List.set_cons_succ]
            refine anyP_take (i := 10) (v := ?vq10) rfl (by kernel_rfl) (by kernel_rfl) (by kernel_rfl) (by kernel_rfl) (by kernel_rfl) (fun _ _ _ h => h) (Or.inl ⟨by rfl, ?yq10⟩) hHeld ?rq10
            case yq10 => (intro W hW; obtain ⟨hA, hB⟩ := hW; go_simp; first | done | with_reducible rfl)
            try simp only [List.getElem_toArray, List.getElem_cons_succ, List.getElem_cons_zero, Act.put, List.setIfInBounds_toArray, List.set_cons_zero, List.set_cons_succ]
            refine anyP_take (i := 11) (v := ?vq11) rfl (by kernel_rfl) (by kernel_rfl) (by kernel_rfl) (by kernel_rfl) (by kernel_rfl) (fun _ _ _ h => h) (Or.inl ⟨by rfl, ?yq11⟩) hHeld ?rq11
            case yq11 => (intro W hW; obtain ⟨hA, hB⟩ := hW; go_simp; first | done | with_reducible rfl)
            try simp only [List.getElem_toArray, List.getElem_cons_succ, List.getElem_cons_zero, Act.put, List.setIfInBounds_toArray, List.set_cons_zero, List.set_cons_succ]
            refine anyP_pure (i := 12) (v := ?vq12) rfl (by kernel_rfl) (by kernel_rfl) (by kernel_rfl) (by kernel_rfl) (fun _ _ _ h => h) (Or.inl ⟨by rfl, ?yq12⟩) ?rq12
            case yq12 => (intro W hW; go_simp; first | done | with_reducible rfl)
            try simp only [List.getElem_toArray, List.getElem_cons_succ, List.getElem_cons_zero, Act.put, List.setIfInBounds_toArray, List.set_cons_zero, List.set_cons_succ]
            refine anyP_ready (rs := [13]) (by kernel_rfl) (by simp) ?_
            refine AllP.cons rfl (fun K hK => ?_) (AllP.nil)
            go_simp
            refine hK.out _ _ (fun h => absurd (by decide) h) ?_
            clear hK K
            try simp only [List.getElem_toArray, List.getElem_cons_succ, List.getElem_cons_zero, Act.put, List.setIfInBounds_toArray, List.set_cons_zero, List.set_cons_succ]
            refine anyP_pure (i := 14) (v := ?vq14) rfl (by kernel_rfl) (by kernel_rfl) (by kernel_rfl) (by kernel_rfl) (fun _ _ _ h => h) (Or.inl ⟨by rfl, ?yq14⟩) ?rq14
            case yq14 => (intro W hW; go_simp; first | done | with_reducible rfl)
            try simp only [List.getElem_toArray, List.getElem_cons_succ, List.getElem_cons_zero, Act.put, List.setIfInBounds_toArray, List.set_cons_zero, List.set_cons_succ]
            refine anyP_ready (rs := [15]) (by kernel_rfl) (by simp) ?_
            refine AllP.cons rfl (fun K hK => ?_) (AllP.nil)
            go_simp
            refine hK.out _ _ (fun h => absurd (by decide) h) ?_
            clear hK K
            try simp only [List.getElem_toArray, List.getElem_cons_succ, List.getElem_cons_zero, Act.put, List.setIfInBounds_toArray, List.set_cons_zero, List.set_cons_succ]
            refine anyP_done (by kernel_rfl) ?_ _
            go_wp2
            go_roundw
            case rel => exact ⟨t + 1, swp T pa pb xa xb, by go_num, by omega, by omega, HT2.out, HO2.out.below (Below.refl _ _).drew.drew, ((HB.out.setCell (p := ⟨g, pa, none⟩) hg _).setCell (p := ⟨g, pb, none⟩) hg _).drew.drew⟩
            case measure => simp [intOf]; omega
          · have hgrd : (decide (t < len2) = false) ∨ (decide (t < len2) = true ∧ decide ((t : Int) < 20) = false) := by
              by_cases h : t < len2
              · exact .inr ⟨by simpa using h, decide_eq_false (by omega)⟩
              · exact .inl (by simpa using h)
            rcases hgrd with g1 | ⟨g1, g2⟩
            · go_wp2_with fail
              go_meet
              exact ⟨T, HT.out, HO.out, HB.out⟩
            · go_wp2_with fail
              go_meet
              exact ⟨T, HT.out, HO.out, HB.out⟩
      case rest =>
        obtain ⟨T, hT, ho, hb⟩ := hcut
        clear HO HB HN2
        rename World => wq
        have hml : (T.map fun (k : Nat) => (k : Int)).length = i := by rw [List.length_map, (perm_spec hT).1]
        obtain ⟨PT, cT, rfl, -⟩ := ho.form
        rw [hml] at ho ⊢
        have HO := Lib.hid ho
        have HBQ := Lib.hid hb
        have HOK : Hid (Okd i T) := Lib.hid (perm_spec hT)
        clear ho hb hT hml
        go_wp2_with fail
        obtain ⟨w5, hw5⟩ : ∃ w5, w5 = wq.drew := ⟨_, rfl⟩
        obtain ⟨w6, h6⟩ : ∃ w6, w6 = w5.alloc (.cells (madeCells #[.slice none 0 0] i) 22) := ⟨_, rfl⟩
        obtain ⟨w7, h7⟩ : ∃ w7, w7 = w6.alloc (.cells (madeCells #[.slice none 0 0] i) 22) := ⟨_, rfl⟩
        obtain ⟨w8, h8⟩ : ∃ w8, w8 = w7.alloc (.cells (madeCells #[.slice none 0 0] i) 22) := ⟨_, rfl⟩
        obtain ⟨b0, hb0⟩ : ∃ b, b = w5.heap.size := ⟨_, rfl⟩
        obtain ⟨b1, hb1⟩ : ∃ b, b = w6.heap.size := ⟨_, rfl⟩
        obtain ⟨b2, hb2⟩ : ∃ b, b = w7.heap.size := ⟨_, rfl⟩
        have hm5 := make_rows9 i (by omega) w5
        have hm6 := make_rows9 i (by omega) w6
        have hm7 := make_rows9 i (by omega) w7
        have o0 := made_out w5 i
        have o1 := made_out w6 i
        have o2 := made_out w7 i
        rw [← h6] at hm5 o0
        rw [← h7] at hm6 o1
        rw [← h8] at hm7 o2
        rw [← hb0] at hm5 o0
        rw [← hb1] at hm6 o1
        rw [← hb2] at hm7 o2
        have q6 : w6.heap.size = w5.heap.size + 1 := by rw [h6]; simp
        have q7 : w7.heap.size = w6.heap.size + 1 := by rw [h7]; simp
        have q5 : w5.heap.size = wq.heap.size := by rw [hw5]; rfl
        have O0 := Lib.hid ((o0.alloc (.cells (madeCells #[.slice none 0 0] i) 22)).alloc (.cells (madeCells #[.slice none 0 0] i) 22))
        have O1 := Lib.hid (o1.alloc (.cells (madeCells #[.slice none 0 0] i) 22))
        have O2 := Lib.hid o2
        rw [← h7, ← h8] at O0
        rw [← h8] at O1
        have L0 : Hid (wq.heap.size ≤ b0) := Lib.hid (by omega)
        have L1 : Hid (wq.heap.size ≤ b1) := Lib.hid (by omega)
        have L2 : Hid (wq.heap.size ≤ b2) := Lib.hid (by omega)
        have E01 : Hid (b0 ≠ b1) := Lib.hid (by omega)
        have E02 : Hid (b0 ≠ b2) := Lib.hid (by omega)
        have E12 : Hid (b1 ≠ b2) := Lib.hid (by omega)
        have hb8 : Below wq.heap.size wq w8 := by
          rw [h8, h7, h6, hw5]
          exact (((Below.refl _ wq).drew.alloc (Nat.le_refl _) _).alloc (by simp) _).alloc (by simp; omega) _
        have HB8 := Lib.hid hb8
        clear h6 h7 h8 hb0 hb1 hb2 o0 o1 o2 q5 q6 q7 hb8
        go_cut [13, 14, 15] (fun s13 s14 s15 wx => ∃ G : Nat → Nat, s13 = .slice (some ⟨G 0, 0, none⟩) i i ∧ s14 = .slice (some ⟨G 1, 0, none⟩) i i ∧ s15 = .slice (some ⟨G 2, 0, none⟩) i i ∧ Sq wq.heap.size wx i 0 G (fun _ _ => 0) (fun _ _ _ => 0) ∧ Below wq.heap.size wq wx)
        case first =>
          as_aux_lemma =>
            refine region_P (S := fun _ => True) (kill := []) (by kernel_rfl) trivial (fun _ => ?_)
            rw [← hw5]
            clear hw5
            refine anyP_pure (i := 0) (v := ?va0_0) rfl (by kernel_rfl) (by kernel_rfl) (by kernel_rfl) (by kernel_rfl) (fun _ _ _ h => h) (Or.inl ⟨by rfl, ?ya0_0⟩) ?ra0_0
            case ya0_0 => (intro W hW; go_simp; first | done | with_reducible rfl)
            try simp only [List.getElem_toArray, List.getElem_cons_zero, Act.put, List.setIfInBounds_toArray, List.set_cons_zero, List.set_cons_succ]
            refine anyP_pure (i := 2) (v := ?va1_2) rfl (by kernel_rfl) (by kernel_rfl) (by kernel_rfl) (by kernel_rfl) (fun _ _ _ h => h) (Or.inl ⟨by rfl, ?ya1_2⟩) ?ra1_2
            case ya1_2 => (intro W hW; go_simp; first | done | with_reducible rfl)
            try simp only [List.getElem_toArray, List.getElem_cons_succ, List.getElem_cons_zero, Act.put, List.setIfInBounds_toArray, List.set_cons_zero, List.set_cons_succ]
            refine anyP_pure (i := 4) (v := ?va2_4) rfl (by kernel_rfl) (by kernel_rfl) (by kernel_rfl) (by kernel_rfl) (fun _ _ _ h => h) (Or.inl ⟨by rfl, ?ya2_4⟩) ?ra2_4
            case ya2_4 => (intro W hW; go_simp; first | done | with_reducible rfl)
            try simp only [List.getElem_toArray, List.getElem_cons_succ, List.getElem_cons_zero, Act.put, List.setIfInBounds_toArray, List.set_cons_zero, List.set_cons_succ]
            refine anyP_ready (rs := [1, 3, 5]) (by kernel_rfl) (by simp) ?_
            refine AllP.cons rfl (fun K hK => ?ka3) (AllP.cons rfl (fun K hK => ?ka4) (AllP.cons rfl (fun K hK => ?ka5) (AllP.nil)))
            case ka3 =>
              as_aux_lemma =>
                go_simp
                refine hK.out _ _ (fun _ _ => trivial) ?_
                clear hK K
                try simp only [List.getElem_toArray, List.getElem_cons_succ, List.getElem_cons_zero, Act.put, List.setIfInBounds_toArray, List.set_cons_zero, List.set_cons_succ]
                refine anyP_pure (i := 6) (v := ?va6_6) rfl (by kernel_rfl) (by kernel_rfl) (by kernel_rfl) (by kernel_rfl) (fun _ _ _ h => h) (Or.inl ⟨by rfl, ?ya6_6⟩) ?ra6_6
                case ya6_6 => (intro W hW; go_simp; first | done | with_reducible rfl)
                try simp only [List.getElem_toArray, List.getElem_cons_succ, List.getElem_cons_zero, Act.put, List.setIfInBounds_toArray, List.set_cons_zero, List.set_cons_succ]
                refine anyP_ready (rs := [3, 5]) (by kernel_rfl) (by simp) ?_
                refine AllP.cons rfl (fun K hK => ?ka7) (AllP.cons rfl (fun K hK => ?ka8) (AllP.nil))
                case ka7 =>
                  go_simp
                  refine hK.out _ _ (fun _ _ => trivial) ?_
                  clear hK K
                  try simp only [List.getElem_toArray, List.getElem_cons_succ, List.getElem_cons_zero, Act.put, List.setIfInBounds_toArray, List.set_cons_zero, List.set_cons_succ]
                  refine anyP_pure (i := 7) (v := ?va9_7) rfl (by kernel_rfl) (by kernel_rfl) (by kernel_rfl) (by kernel_rfl) (fun _ _ _ h => h) (Or.inl ⟨by rfl, ?ya9_7⟩) ?ra9_7
                  case ya9_7 => (intro W hW; go_simp; first | done | with_reducible rfl)
                  try simp only [List.getElem_toArray, List.getElem_cons_succ, List.getElem_cons_zero, Act.put, List.setIfInBounds_toArray, List.set_cons_zero, List.set_cons_succ]
                  refine anyP_ready (rs := [5]) (by kernel_rfl) (by simp) ?_
                  refine AllP.cons rfl (fun K hK => ?ka10) (AllP.nil)
                  case ka10 =>
                    as_aux_lemma =>
                      go_simp
                      refine hK.out _ _ (fun _ _ => trivial) ?_
                      clear hK K
                      try simp only [List.getElem_toArray, List.getElem_cons_succ, List.getElem_cons_zero, Act.put, List.setIfInBounds_toArray, List.set_cons_zero, List.set_cons_succ]
                      refine anyP_pure (i := 8) (v := ?va11_8) rfl (by kernel_rfl) (by kernel_rfl) (by kernel_rfl) (by kernel_rfl) (fun _ _ _ h => h) (Or.inl ⟨by rfl, ?ya11_8⟩) ?ra11_8
                      case ya11_8 => (intro W hW; go_simp; first | done | with_reducible rfl)
                      try simp only [List.getElem_toArray, List.getElem_cons_succ, List.getElem_cons_zero, Act.put, List.setIfInBounds_toArray, List.set_cons_zero, List.set_cons_succ]
                      refine anyP_done (by kernel_rfl) ?_ _
                      go_wp2_with fail
                      go_meet
                      exact ⟨fun s => if s = 0 then b0 else if s = 1 then b1 else b2, rfl, rfl, rfl, sq_of O0.out O1.out O2.out L0.out L1.out L2.out (E01.out) (E02.out) (E12.out), HB8.out⟩
                case ka8 =>
                  go_simp
                  refine hK.out _ _ (fun _ _ => trivial) ?_
                  clear hK K
                  try simp only [List.getElem_toArray, List.getElem_cons_succ, List.getElem_cons_zero, Act.put, List.setIfInBounds_toArray, List.set_cons_zero, List.set_cons_succ]
                  refine anyP_ready (rs := [3]) (by kernel_rfl) (by simp) ?_
                  refine AllP.cons rfl (fun K hK => ?ka12) (AllP.nil)
                  case ka12 =>
                    as_aux_lemma =>
                      go_simp
                      refine hK.out _ _ (fun _ _ => trivial) ?_
                      clear hK K
                      try simp only [List.getElem_toArray, List.getElem_cons_succ, List.getElem_cons_zero, Act.put, List.setIfInBounds_toArray, List.set_cons_zero, List.set_cons_succ]
                      refine anyP_pure (i := 7) (v := ?va13_7) rfl (by kernel_rfl) (by kernel_rfl) (by kernel_rfl) (by kernel_rfl) (fun _ _ _ h => h) (Or.inl ⟨by rfl, ?ya13_7⟩) ?ra13_7
                      case ya13_7 => (intro W hW; go_simp; first | done | with_reducible rfl)
                      try simp only [List.getElem_toArray, List.getElem_cons_succ, List.getElem_cons_zero, Act.put, List.setIfInBounds_toArray, List.set_cons_zero, List.set_cons_succ]
                      refine anyP_pure (i := 8) (v := ?va14_8) rfl (by kernel_rfl) (by kernel_rfl) (by kernel_rfl) (by kernel_rfl) (fun _ _ _ h => h) (Or.inl ⟨by rfl, ?ya14_8⟩) ?ra14_8
                      case ya14_8 => (intro W hW; go_simp; first | done | with_reducible rfl)
                      try simp only [List.getElem_toArray, List.getElem_cons_succ, List.getElem_cons_zero, Act.put, List.setIfInBounds_toArray, List.set_cons_zero, List.set_cons_succ]
                      refine anyP_done (by kernel_rfl) ?_ _
                      go_wp2_with fail
                      go_meet
                      exact ⟨fun s => if s = 0 then b0 else if s = 1 then b2 else b1, rfl, rfl, rfl, sq_of O0.out O2.out O1.out L0.out L2.out L1.out (E02.out) (E01.out) (E12.out.symm), HB8.out⟩
            case ka4 =>
              as_aux_lemma =>
                go_simp
                refine hK.out _ _ (fun _ _ => trivial) ?_
                clear hK K
                try simp only [List.getElem_toArray, List.getElem_cons_succ, List.getElem_cons_zero, Act.put, List.setIfInBounds_toArray, List.set_cons_zero, List.set_cons_succ]
                refine anyP_ready (rs := [1, 5]) (by kernel_rfl) (by simp) ?_
                refine AllP.cons rfl (fun K hK => ?ka15) (AllP.cons rfl (fun K hK => ?ka16) (AllP.nil))
                case ka15 =>
                  go_simp
                  refine hK.out _ _ (fun _ _ => trivial) ?_
                  clear hK K
                  try simp only [List.getElem_toArray, List.getElem_cons_succ, List.getElem_cons_zero, Act.put, List.setIfInBounds_toArray, List.set_cons_zero, List.set_cons_succ]
                  refine anyP_pure (i := 6) (v := ?va17_6) rfl (by kernel_rfl) (by kernel_rfl) (by kernel_rfl) (by kernel_rfl) (fun _ _ _ h => h) (Or.inl ⟨by rfl, ?ya17_6⟩) ?ra17_6
                  case ya17_6 => (intro W hW; go_simp; first | done | with_reducible rfl)
                  try simp only [List.getElem_toArray, List.getElem_cons_succ, List.getElem_cons_zero, Act.put, List.setIfInBounds_toArray, List.set_cons_zero, List.set_cons_succ]
                  refine anyP_pure (i := 7) (v := ?va18_7) rfl (by kernel_rfl) (by kernel_rfl) (by kernel_rfl) (by kernel_rfl) (fun _ _ _ h => h) (Or.inl ⟨by rfl, ?ya18_7⟩) ?ra18_7
                  case ya18_7 => (intro W hW; go_simp; first | done | with_reducible rfl)
                  try simp only [List.getElem_toArray, List.getElem_cons_succ, List.getElem_cons_zero, Act.put, List.setIfInBounds_toArray, List.set_cons_zero, List.set_cons_succ]
                  refine anyP_ready (rs := [5]) (by kernel_rfl) (by simp) ?_
                  refine AllP.cons rfl (fun K hK => ?ka19) (AllP.nil)
                  case ka19 =>
                    as_aux_lemma =>
                      go_simp
                      refine hK.out _ _ (fun _ _ => trivial) ?_
                      clear hK K
                      try simp only [List.getElem_toArray, List.getElem_cons_succ, List.getElem_cons_zero, Act.put, List.setIfInBounds_toArray, List.set_cons_zero, List.set_cons_succ]
                      refine anyP_pure (i := 8) (v := ?va20_8) rfl (by kernel_rfl) (by kernel_rfl) (by kernel_rfl) (by kernel_rfl) (fun _ _ _ h => h) (Or.inl ⟨by rfl, ?ya20_8⟩) ?ra20_8
                      case ya20_8 => (intro W hW; go_simp; first | done | with_reducible rfl)
                      try simp only [List.getElem_toArray, List.getElem_cons_succ, List.getElem_cons_zero, Act.put, List.setIfInBounds_toArray, List.set_cons_zero, List.set_cons_succ]
                      refine anyP_done (by kernel_rfl) ?_ _
                      go_wp2_with fail
                      go_meet
                      exact ⟨fun s => if s = 0 then b1 else if s = 1 then b0 else b2, rfl, rfl, rfl, sq_of O1.out O0.out O2.out L1.out L0.out L2.out (E01.out.symm) (E12.out) (E02.out), HB8.out⟩
                case ka16 =>
                  go_simp
                  refine hK.out _ _ (fun _ _ => trivial) ?_
                  clear hK K
                  try simp only [List.getElem_toArray, List.getElem_cons_succ, List.getElem_cons_zero, Act.put, List.setIfInBounds_toArray, List.set_cons_zero, List.set_cons_succ]
                  refine anyP_ready (rs := [1]) (by kernel_rfl) (by simp) ?_
                  refine AllP.cons rfl (fun K hK => ?ka21) (AllP.nil)
                  case ka21 =>
                    as_aux_lemma =>
                      go_simp
                      refine hK.out _ _ (fun _ _ => trivial) ?_
                      clear hK K
                      try simp only [List.getElem_toArray, List.getElem_cons_succ, List.getElem_cons_zero, Act.put, List.setIfInBounds_toArray, List.set_cons_zero, List.set_cons_succ]
                      refine anyP_pure (i := 6) (v := ?va22_6) rfl (by kernel_rfl) (by kernel_rfl) (by kernel_rfl) (by kernel_rfl) (fun _ _ _ h => h) (Or.inl ⟨by rfl, ?ya22_6⟩) ?ra22_6
                      case ya22_6 => (intro W hW; go_simp; first | done | with_reducible rfl)
                      try simp only [List.getElem_toArray, List.getElem_cons_succ, List.getElem_cons_zero, Act.put, List.setIfInBounds_toArray, List.set_cons_zero, List.set_cons_succ]
                      refine anyP_pure (i := 7) (v := ?va23_7) rfl (by kernel_rfl) (by kernel_rfl) (by kernel_rfl) (by kernel_rfl) (fun _ _ _ h => h) (Or.inl ⟨by rfl, ?ya23_7⟩) ?ra23_7
                      case ya23_7 => (intro W hW; go_simp; first | done | with_reducible rfl)
                      try simp only [List.getElem_toArray, List.getElem_cons_succ, List.getElem_cons_zero, Act.put, List.setIfInBounds_toArray, List.set_cons_zero, List.set_cons_succ]
                      refine anyP_pure (i := 8) (v := ?va24_8) rfl (by kernel_rfl) (by kernel_rfl) (by kernel_rfl) (by kernel_rfl) (fun _ _ _ h => h) (Or.inl ⟨by rfl, ?ya24_8⟩) ?ra24_8
                      case ya24_8 => (intro W hW; go_simp; first | done | with_reducible rfl)
                      try simp only [List.getElem_toArray, List.getElem_cons_succ, List.getElem_cons_zero, Act.put, List.setIfInBounds_toArray, List.set_cons_zero, List.set_cons_succ]
                      refine anyP_done (by kernel_rfl) ?_ _
                      go_wp2_with fail
                      go_meet
                      exact ⟨fun s => if s = 0 then b2 else if s = 1 then b0 else b1, rfl, rfl, rfl, sq_of O2.out O0.out O1.out L2.out L0.out L1.out (E02.out.symm) (E12.out.symm) (E01.out), HB8.out⟩
            case ka5 =>
              as_aux_lemma =>
                go_simp
                refine hK.out _ _ (fun _ _ => trivial) ?_
                clear hK K
                try simp only [List.getElem_toArray, List.getElem_cons_succ, List.getElem_cons_zero, Act.put, List.setIfInBounds_toArray, List.set_cons_zero, List.set_cons_succ]
                refine anyP_ready (rs := [1, 3]) (by kernel_rfl) (by simp) ?_
                refine AllP.cons rfl (fun K hK => ?ka25) (AllP.cons rfl (fun K hK => ?ka26) (AllP.nil))
                case ka25 =>
                  go_simp
                  refine hK.out _ _ (fun _ _ => trivial) ?_
                  clear hK K
                  try simp only [List.getElem_toArray, List.getElem_cons_succ, List.getElem_cons_zero, Act.put, List.setIfInBounds_toArray, List.set_cons_zero, List.set_cons_succ]
                  refine anyP_pure (i := 6) (v := ?va27_6) rfl (by kernel_rfl) (by kernel_rfl) (by kernel_rfl) (by kernel_rfl) (fun _ _ _ h => h) (Or.inl ⟨by rfl, ?ya27_6⟩) ?ra27_6
                  case ya27_6 => (intro W hW; go_simp; first | done | with_reducible rfl)
                  try simp only [List.getElem_toArray, List.getElem_cons_succ, List.getElem_cons_zero, Act.put, List.setIfInBounds_toArray, List.set_cons_zero, List.set_cons_succ]
                  refine anyP_ready (rs := [3]) (by kernel_rfl) (by simp) ?_
                  refine AllP.cons rfl (fun K hK => ?ka28) (AllP.nil)
                  case ka28 =>
                    as_aux_lemma =>
                      go_simp
                      refine hK.out _ _ (fun _ _ => trivial) ?_
                      clear hK K
                      try simp only [List.getElem_toArray, List.getElem_cons_succ, List.getElem_cons_zero, Act.put, List.setIfInBounds_toArray, List.set_cons_zero, List.set_cons_succ]
                      refine anyP_pure (i := 7) (v := ?va29_7) rfl (by kernel_rfl) (by kernel_rfl) (by kernel_rfl) (by kernel_rfl) (fun _ _ _ h => h) (Or.inl ⟨by rfl, ?ya29_7⟩) ?ra29_7
                      case ya29_7 => (intro W hW; go_simp; first | done | with_reducible rfl)
                      try simp only [List.getElem_toArray, List.getElem_cons_succ, List.getElem_cons_zero, Act.put, List.setIfInBounds_toArray, List.set_cons_zero, List.set_cons_succ]
                      refine anyP_pure (i := 8) (v := ?va30_8) rfl (by kernel_rfl) (by kernel_rfl) (by kernel_rfl) (by kernel_rfl) (fun _ _ _ h => h) (Or.inl ⟨by rfl, ?ya30_8⟩) ?ra30_8
                      case ya30_8 => (intro W hW; go_simp; first | done | with_reducible rfl)
                      try simp only [List.getElem_toArray, List.getElem_cons_succ, List.getElem_cons_zero, Act.put, List.setIfInBounds_toArray, List.set_cons_zero, List.set_cons_succ]
                      refine anyP_done (by kernel_rfl) ?_ _
                      go_wp2_with fail
                      go_meet
                      exact ⟨fun s => if s = 0 then b1 else if s = 1 then b2 else b0, rfl, rfl, rfl, sq_of O1.out O2.out O0.out L1.out L2.out L0.out (E12.out) (E01.out.symm) (E02.out.symm), HB8.out⟩
                case ka26 =>
                  go_simp
                  refine hK.out _ _ (fun _ _ => trivial) ?_
                  clear hK K
                  try simp only [List.getElem_toArray, List.getElem_cons_succ, List.getElem_cons_zero, Act.put, List.setIfInBounds_toArray, List.set_cons_zero, List.set_cons_succ]
                  refine anyP_ready (rs := [1]) (by kernel_rfl) (by simp) ?_
                  refine AllP.cons rfl (fun K hK => ?ka31) (AllP.nil)
                  case ka31 =>
                    as_aux_lemma =>
                      go_simp
                      refine hK.out _ _ (fun _ _ => trivial) ?_
                      clear hK K
                      try simp only [List.getElem_toArray, List.getElem_cons_succ, List.getElem_cons_zero, Act.put, List.setIfInBounds_toArray, List.set_cons_zero, List.set_cons_succ]
                      refine anyP_pure (i := 6) (v := ?va32_6) rfl (by kernel_rfl) (by kernel_rfl) (by kernel_rfl) (by kernel_rfl) (fun _ _ _ h => h) (Or.inl ⟨by rfl, ?ya32_6⟩) ?ra32_6
                      case ya32_6 => (intro W hW; go_simp; first | done | with_reducible rfl)
                      try simp only [List.getElem_toArray, List.getElem_cons_succ, List.getElem_cons_zero, Act.put, List.setIfInBounds_toArray, List.set_cons_zero, List.set_cons_succ]
                      refine anyP_pure (i := 7) (v := ?va33_7) rfl (by kernel_rfl) (by kernel_rfl) (by kernel_rfl) (by kernel_rfl) (fun _ _ _ h => h) (Or.inl ⟨by rfl, ?ya33_7⟩) ?ra33_7
                      case ya33_7 => (intro W hW; go_simp; first | done | with_reducible rfl)
                      try simp only [List.getElem_toArray, List.getElem_cons_succ, List.getElem_cons_zero, Act.put, List.setIfInBounds_toArray, List.set_cons_zero, List.set_cons_succ]
                      refine anyP_pure (i := 8) (v := ?va34_8) rfl (by kernel_rfl) (by kernel_rfl) (by kernel_rfl) (by kernel_rfl) (fun _ _ _ h => h) (Or.inl ⟨by rfl, ?ya34_8⟩) ?ra34_8
                      case ya34_8 => (intro W hW; go_simp; first | done | with_reducible rfl)
                      try simp only [List.getElem_toArray, List.getElem_cons_succ, List.getElem_cons_zero, Act.put, List.setIfInBounds_toArray, List.set_cons_zero, List.set_cons_succ]
                      refine anyP_done (by kernel_rfl) ?_ _
                      go_wp2_with fail
                      go_meet
                      exact ⟨fun s => if s = 0 then b2 else if s = 1 then b1 else b0, rfl, rfl, rfl, sq_of O2.out O1.out O0.out L2.out L1.out L0.out (E12.out.symm) (E02.out.symm) (E01.out.symm), HB8.out⟩
        case rest =>
          obtain ⟨G, rfl, rfl, rfl, hsq, hbx⟩ := hcut
          clear O0 O1 O2 L0 L1 L2 E01 E02 E12 HB8 hm5 hm6 hm7
          have HS0 := Lib.hid hsq
          have HB0 := Lib.hid hbx
          clear hsq hbx
          go_wp2_with fail
          go_loopw [16] (fun p wr => ∃ (n : Nat) (B : Nat → Nat → Nat), p = .int .i64 n ∧ n ≤ i ∧ Sq wq.heap.size wr i n G B (fun _ _ _ => 0) ∧ Below wq.heap.size wq wr) (fun p _ => i - (intOf p).toNat)
          case atStart => exact ⟨0, _, rfl, Nat.zero_le _, HS0.out, HB0.out⟩
          case round =>
            obtain ⟨n, B, rfl, hn, hsq, hbr⟩ := hrel
            clear HS0 HB0
            rename World => wr
            have HS := Lib.hid hsq
            have HB := Lib.hid hbr
            have HQW := Lib.hid hbr.size
            have hi12 : i ≤ 1000 := by omega
            clear hsq hbr
            by_cases hni : n < i
            · have hnz : (n : Int) < (i : Int) := by omega
              have n0 : (0 : Int) ≤ (n : Int) := by omega
              go_upto_block 5 with (fail)
              go_cut [] (fun wx => ∃ B', Sq wq.heap.size wx i (n + 1) G B' (fun _ _ _ => 0) ∧ Below wq.heap.size wq wx)
              case first =>
                go_wp2_with fail
                obtain ⟨v0, hv0⟩ : ∃ v0, v0 = wr.drew := ⟨_, rfl⟩
                have hrm := HS.out.rm
                rw [← hv0] at hrm
                have Hv0 := Lib.hid hrm
                clear hrm
                as_aux_lemma =>
                  refine region_P (S := fun _ => True) (kill := []) (by kernel_rfl) trivial (fun _ => ?_)
                  rw [← hv0]
                  clear hv0
                  refine anyP_pure (i := 0) (v := ?vb0_0) rfl (by kernel_rfl) (by kernel_rfl) (by kernel_rfl) (by kernel_rfl) (fun _ _ _ h => h) (Or.inl ⟨by rfl, ?yb0_0⟩) ?rb0_0
                  case yb0_0 => (intro W hW; go_simp; first | done | with_reducible rfl)
                  try simp only [List.getElem_toArray, List.getElem_cons_zero, Act.put, List.setIfInBounds_toArray, List.set_cons_zero, List.set_cons_succ]
                  refine anyP_pure (i := 1) (v := ?vb1_1) rfl (by kernel_rfl) (by kernel_rfl) (by kernel_rfl) (by kernel_rfl) (fun _ _ _ h => h) (Or.inl ⟨by rfl, ?yb1_1⟩) ?rb1_1
                  case yb1_1 => (intro W hW; go_simp; first | done | with_reducible rfl)
                  try simp only [List.getElem_toArray, List.getElem_cons_succ, List.getElem_cons_zero, Act.put, List.setIfInBounds_toArray, List.set_cons_zero, List.set_cons_succ]
                  refine anyP_pure (i := 2) (v := ?vb2_2) rfl (by kernel_rfl) (by kernel_rfl) (by kernel_rfl) (by kernel_rfl) (fun _ _ _ h => h) (Or.inl ⟨by rfl, ?yb2_2⟩) ?rb2_2
                  case yb2_2 => (intro W hW; go_simp; first | done | with_reducible rfl)
                  try simp only [List.getElem_toArray, List.getElem_cons_succ, List.getElem_cons_zero, Act.put, List.setIfInBounds_toArray, List.set_cons_zero, List.set_cons_succ]
                  refine anyP_pure (i := 3) (v := ?vb3_3) rfl (by kernel_rfl) (by kernel_rfl) (by kernel_rfl) (by kernel_rfl) (fun _ _ _ h => h) (Or.inl ⟨by rfl, ?yb3_3⟩) ?rb3_3
                  case yb3_3 => (intro W hW; go_simp; first | done | with_reducible rfl)
                  try simp only [List.getElem_toArray, List.getElem_cons_succ, List.getElem_cons_zero, Act.put, List.setIfInBounds_toArray, List.set_cons_zero, List.set_cons_succ]
                  refine anyP_pure (i := 4) (v := ?vb4_4) rfl (by kernel_rfl) (by kernel_rfl) (by kernel_rfl) (by kernel_rfl) (fun _ _ _ h => h) (Or.inl ⟨by rfl, ?yb4_4⟩) ?rb4_4
                  case yb4_4 => (intro W hW; go_simp; first | done | with_reducible rfl)
                  try simp only [List.getElem_toArray, List.getElem_cons_succ, List.getElem_cons_zero, Act.put, List.setIfInBounds_toArray, List.set_cons_zero, List.set_cons_succ]
                  refine anyP_pure (i := 5) (v := ?vb5_5) rfl (by kernel_rfl) (by kernel_rfl) (by kernel_rfl) (by kernel_rfl) (fun _ _ _ h => h) (Or.inl ⟨by rfl, ?yb5_5⟩) ?rb5_5
                  case yb5_5 => (intro W hW; go_simp; first | done | with_reducible rfl)
                  try simp only [List.getElem_toArray, List.getElem_cons_succ, List.getElem_cons_zero, Act.put, List.setIfInBounds_toArray, List.set_cons_zero, List.set_cons_succ]
                  refine anyP_pure (i := 6) (v := ?vb6_6) rfl (by kernel_rfl) (by kernel_rfl) (by kernel_rfl) (by kernel_rfl) (fun _ _ _ h => h) (Or.inl ⟨by rfl, ?yb6_6⟩) ?rb6_6
                  case yb6_6 => (intro W hW; go_simp; first | done | with_reducible rfl)
                  try simp only [List.getElem_toArray, List.getElem_cons_succ, List.getElem_cons_zero, Act.put, List.setIfInBounds_toArray, List.set_cons_zero, List.set_cons_succ]
                  refine anyP_pure (i := 8) (v := ?vb7_8) rfl (by kernel_rfl) (by kernel_rfl) (by kernel_rfl) (by kernel_rfl) (fun _ _ _ h => h) (Or.inl ⟨by rfl, ?yb7_8⟩) ?rb7_8
                  case yb7_8 => (intro W hW; go_simp; first | done | with_reducible rfl)
                  try simp only [List.getElem_toArray, List.getElem_cons_succ, List.getElem_cons_zero, Act.put, List.setIfInBounds_toArray, List.set_cons_zero, List.set_cons_succ]
                  refine anyP_pure (i := 10) (v := ?vb8_10) rfl (by kernel_rfl) (by kernel_rfl) (by kernel_rfl) (by kernel_rfl) (fun _ _ _ h => h) (Or.inl ⟨by rfl, ?yb8_10⟩) ?rb8_10
                  case yb8_10 => (intro W hW; go_simp; first | done | with_reducible rfl)
                  try simp only [List.getElem_toArray, List.getElem_cons_succ, List.getElem_cons_zero, Act.put, List.setIfInBounds_toArray, List.set_cons_zero, List.set_cons_succ]
                  refine anyP_ready (rs := [7, 9, 11]) (by kernel_rfl) (by simp) ?_
                  refine AllP.cons rfl (fun K hK => ?kb9) (AllP.cons rfl (fun K hK => ?kb10) (AllP.cons rfl (fun K hK => ?kb11) (AllP.nil)))
                  case kb9 =>
                    as_aux_lemma =>
                      obtain ⟨v1, hm, hr⟩ : ∃ W2, (Instr.makeSlice 22 (.int .i64 (i : Int)) (.int .i64 (i : Int))).run Try.prog v0 = .ok (.slice (some ⟨v0.heap.size, 0, none⟩) i i) W2 ∧ RM wq.heap.size wr i n G B (fun _ _ _ => 0) (upB (fun _ => none) 0 v0.heap.size) 0 W2 := ⟨_, make_ints9 i hi12 v0, Hv0.out.alloc (by omega)⟩
                      obtain ⟨b0, hb0⟩ : ∃ b, b = v0.heap.size := ⟨_, rfl⟩
                      rw [← hb0] at hm hr
                      have Hv1 := Lib.hid hr
                      clear hr hb0 Hv0
                      go_simp
                      refine hK.out _ _ (fun _ _ => trivial) ?_
                      clear hK K
                      clear hm
                      try simp only [List.getElem_toArray, List.getElem_cons_succ, List.getElem_cons_zero, Act.put, List.setIfInBounds_toArray, List.set_cons_zero, List.set_cons_succ]
                      refine anyP_pure (i := 12) (v := ?vb12_12) rfl (by kernel_rfl) (by kernel_rfl) (by kernel_rfl) (by kernel_rfl) (fun _ _ _ h => h) (Or.inl ⟨by rfl, ?yb12_12⟩) ?rb12_12
                      case yb12_12 => (intro W hW; go_simp; first | done | with_reducible rfl)
                      try simp only [List.getElem_toArray, List.getElem_cons_succ, List.getElem_cons_zero, Act.put, List.setIfInBounds_toArray, List.set_cons_zero, List.set_cons_succ]
                      refine anyP_ready (rs := [9, 11, 13]) (by kernel_rfl) (by simp) ?_
                      refine AllP.cons rfl (fun K hK => ?kb13) (AllP.cons rfl (fun K hK => ?kb14) (AllP.cons rfl (fun K hK => ?kb15) (AllP.nil)))
                      case kb13 =>
                        obtain ⟨v2, hm, hr⟩ : ∃ W2, (Instr.makeSlice 22 (.int .i64 (i : Int)) (.int .i64 (i : Int))).run Try.prog v1 = .ok (.slice (some ⟨v1.heap.size, 0, none⟩) i i) W2 ∧ RM wq.heap.size wr i n G B (fun _ _ _ => 0) (upB (upB (fun _ => none) 0 b0) 1 v1.heap.size) 0 W2 := ⟨_, make_ints9 i hi12 v1, Hv1.out.alloc (by omega)⟩
                        obtain ⟨b1, hb1⟩ : ∃ b, b = v1.heap.size := ⟨_, rfl⟩
                        rw [← hb1] at hm hr
                        have Hv2 := Lib.hid hr
                        clear hr hb1 Hv1
                        go_simp
                        refine hK.out _ _ (fun _ _ => trivial) ?_
                        clear hK K
                        clear hm
                        try simp only [List.getElem_toArray, List.getElem_cons_succ, List.getElem_cons_zero, Act.put, List.setIfInBounds_toArray, List.set_cons_zero, List.set_cons_succ]
                        refine anyP_ready (rs := [11, 13]) (by kernel_rfl) (by simp) ?_
                        refine AllP.cons rfl (fun K hK => ?kb16) (AllP.cons rfl (fun K hK => ?kb17) (AllP.nil))
                        case kb16 =>
                          as_aux_lemma =>
                            obtain ⟨v3, hm, hr⟩ : ∃ W2, (Instr.makeSlice 22 (.int .i64 (i : Int)) (.int .i64 (i : Int))).run Try.prog v2 = .ok (.slice (some ⟨v2.heap.size, 0, none⟩) i i) W2 ∧ RM wq.heap.size wr i n G B (fun _ _ _ => 0) (upB (upB (upB (fun _ => none) 0 b0) 1 b1) 2 v2.heap.size) 0 W2 := ⟨_, make_ints9 i hi12 v2, Hv2.out.alloc (by omega)⟩
                            obtain ⟨b2, hb2⟩ : ∃ b, b = v2.heap.size := ⟨_, rfl⟩
                            rw [← hb2] at hm hr
                            have Hv3 := Lib.hid hr
                            clear hr hb2 Hv2
                            go_simp
                            refine hK.out _ _ (fun _ _ => trivial) ?_
                            clear hK K
                            clear hm
                            try simp only [List.getElem_toArray, List.getElem_cons_succ, List.getElem_cons_zero, Act.put, List.setIfInBounds_toArray, List.set_cons_zero, List.set_cons_succ]
                            refine anyP_ready (rs := [13]) (by kernel_rfl) (by simp) ?_
                            refine AllP.cons rfl (fun K hK => ?kb18) (AllP.nil)
                            case kb18 =>
                              obtain ⟨hc1, hc2⟩ := Hv3.out.cell (by omega) hni
                              obtain ⟨v4, hw⟩ : ∃ W2, W2 = v3.setCell ⟨G 0, n, none⟩ (.slice (some ⟨b0, 0, none⟩) i i) := ⟨_, rfl⟩
                              have hr := Hv3.out.store (b := b0) (by omega) (by simp [upB])
                              rw [← hw] at hr
                              have Hv4 := Lib.hid hr
                              clear hr Hv3
                              go_simp
                              rw [← hw]
                              refine hK.out _ _ (fun _ _ => trivial) ?_
                              clear hK K
                              clear hc1 hc2 hw
                              try simp only [List.getElem_toArray, List.getElem_cons_succ, List.getElem_cons_zero, Act.put, List.setIfInBounds_toArray, List.set_cons_zero, List.set_cons_succ]
                              refine anyP_pure (i := 14) (v := ?vb19_14) rfl (by kernel_rfl) (by kernel_rfl) (by kernel_rfl) (by kernel_rfl) (fun _ _ _ h => h) (Or.inl ⟨by rfl, ?yb19_14⟩) ?rb19_14
                              case yb19_14 => (intro W hW; go_simp; first | done | with_reducible rfl)
                              try simp only [List.getElem_toArray, List.getElem_cons_succ, List.getElem_cons_zero, Act.put, List.setIfInBounds_toArray, List.set_cons_zero, List.set_cons_succ]
                              refine anyP_ready (rs := [15]) (by kernel_rfl) (by simp) ?_
                              refine AllP.cons rfl (fun K hK => ?kb20) (AllP.nil)
                              case kb20 =>
                                obtain ⟨hc1, hc2⟩ := Hv4.out.cell (by omega) hni
                                obtain ⟨v5, hw⟩ : ∃ W2, W2 = v4.setCell ⟨G 1, n, none⟩ (.slice (some ⟨b1, 0, none⟩) i i) := ⟨_, rfl⟩
                                have hr := Hv4.out.store (b := b1) (by omega) (by simp [upB])
                                rw [← hw] at hr
                                have Hv5 := Lib.hid hr
                                clear hr Hv4
                                go_simp
                                rw [← hw]
                                refine hK.out _ _ (fun _ _ => trivial) ?_
                                clear hK K
                                clear hc1 hc2 hw
                                try simp only [List.getElem_toArray, List.getElem_cons_succ, List.getElem_cons_zero, Act.put, List.setIfInBounds_toArray, List.set_cons_zero, List.set_cons_succ]
                                refine anyP_pure (i := 16) (v := ?vb21_16) rfl (by kernel_rfl) (by kernel_rfl) (by kernel_rfl) (by kernel_rfl) (fun _ _ _ h => h) (Or.inl ⟨by rfl, ?yb21_16⟩) ?rb21_16
                                case yb21_16 => (intro W hW; go_simp; first | done | with_reducible rfl)
                                try simp only [List.getElem_toArray, List.getElem_cons_succ, List.getElem_cons_zero, Act.put, List.setIfInBounds_toArray, List.set_cons_zero, List.set_cons_succ]
                                refine anyP_ready (rs := [17]) (by kernel_rfl) (by simp) ?_
                                refine AllP.cons rfl (fun K hK => ?kb22) (AllP.nil)
                                case kb22 =>
                                  obtain ⟨hc1, hc2⟩ := Hv5.out.cell (by omega) hni
                                  obtain ⟨v6, hw⟩ : ∃ W2, W2 = v5.setCell ⟨G 2, n, none⟩ (.slice (some ⟨b2, 0, none⟩) i i) := ⟨_, rfl⟩
                                  have hr := Hv5.out.store (b := b2) (by omega) (by simp [upB])
                                  rw [← hw] at hr
                                  have Hv6 := Lib.hid hr
                                  clear hr Hv5
                                  go_simp
                                  rw [← hw]
                                  refine hK.out _ _ (fun _ _ => trivial) ?_
                                  clear hK K
                                  clear hc1 hc2 hw
                                  try simp only [List.getElem_toArray, List.getElem_cons_succ, List.getElem_cons_zero, Act.put, List.setIfInBounds_toArray, List.set_cons_zero, List.set_cons_succ]
                                  refine anyP_done (by kernel_rfl) ?_ _
                                  go_wp2_with fail
                                  go_meet
                                  obtain ⟨B', hsq⟩ := Hv6.out.done HQW.out (F' := fun _ _ _ => 0) (fun _ _ _ => rfl) (fun _ => rfl)
                                  exact ⟨B', hsq, HB.out.trans (Hv6.out.bel HQW.out)⟩
                        case kb17 =>
                          as_aux_lemma =>
                            obtain ⟨hc1, hc2⟩ := Hv2.out.cell (by omega) hni
                            obtain ⟨v3, hw⟩ : ∃ W2, W2 = v2.setCell ⟨G 0, n, none⟩ (.slice (some ⟨b0, 0, none⟩) i i) := ⟨_, rfl⟩
                            have hr := Hv2.out.store (b := b0) (by omega) (by simp [upB])
                            rw [← hw] at hr
                            have Hv3 := Lib.hid hr
                            clear hr Hv2
                            go_simp
                            rw [← hw]
                            refine hK.out _ _ (fun _ _ => trivial) ?_
                            clear hK K
                            clear hc1 hc2 hw
                            try simp only [List.getElem_toArray, List.getElem_cons_succ, List.getElem_cons_zero, Act.put, List.setIfInBounds_toArray, List.set_cons_zero, List.set_cons_succ]
                            refine anyP_pure (i := 14) (v := ?vb23_14) rfl (by kernel_rfl) (by kernel_rfl) (by kernel_rfl) (by kernel_rfl) (fun _ _ _ h => h) (Or.inl ⟨by rfl, ?yb23_14⟩) ?rb23_14
                            case yb23_14 => (intro W hW; go_simp; first | done | with_reducible rfl)
                            try simp only [List.getElem_toArray, List.getElem_cons_succ, List.getElem_cons_zero, Act.put, List.setIfInBounds_toArray, List.set_cons_zero, List.set_cons_succ]
                            refine anyP_ready (rs := [11, 15]) (by kernel_rfl) (by simp) ?_
                            refine AllP.cons rfl (fun K hK => ?kb24) (AllP.cons rfl (fun K hK => ?kb25) (AllP.nil))
                            case kb24 =>
                              obtain ⟨v4, hm, hr⟩ : ∃ W2, (Instr.makeSlice 22 (.int .i64 (i : Int)) (.int .i64 (i : Int))).run Try.prog v3 = .ok (.slice (some ⟨v3.heap.size, 0, none⟩) i i) W2 ∧ RM wq.heap.size wr i n G B (fun _ _ _ => 0) (upB (upB (upB (fun _ => none) 0 b0) 1 b1) 2 v3.heap.size) 1 W2 := ⟨_, make_ints9 i hi12 v3, Hv3.out.alloc (by omega)⟩
                              obtain ⟨b2, hb2⟩ : ∃ b, b = v3.heap.size := ⟨_, rfl⟩
                              rw [← hb2] at hm hr
                              have Hv4 := Lib.hid hr
                              clear hr hb2 Hv3
                              go_simp
                              refine hK.out _ _ (fun _ _ => trivial) ?_
                              clear hK K
                              clear hm
                              try simp only [List.getElem_toArray, List.getElem_cons_succ, List.getElem_cons_zero, Act.put, List.setIfInBounds_toArray, List.set_cons_zero, List.set_cons_succ]
                              refine anyP_ready (rs := [15]) (by kernel_rfl) (by simp) ?_
                              refine AllP.cons rfl (fun K hK => ?kb26) (AllP.nil)
                              case kb26 =>
                                obtain ⟨hc1, hc2⟩ := Hv4.out.cell (by omega) hni
                                obtain ⟨v5, hw⟩ : ∃ W2, W2 = v4.setCell ⟨G 1, n, none⟩ (.slice (some ⟨b1, 0, none⟩) i i) := ⟨_, rfl⟩
                                have hr := Hv4.out.store (b := b1) (by omega) (by simp [upB])
                                rw [← hw] at hr
                                have Hv5 := Lib.hid hr
                                clear hr Hv4
                                go_simp
                                rw [← hw]
                                refine hK.out _ _ (fun _ _ => trivial) ?_
                                clear hK K
                                clear hc1 hc2 hw
                                try simp only [List.getElem_toArray, List.getElem_cons_succ, List.getElem_cons_zero, Act.put, List.setIfInBounds_toArray, List.set_cons_zero, List.set_cons_succ]
                                refine anyP_pure (i := 16) (v := ?vb27_16) rfl (by kernel_rfl) (by kernel_rfl) (by kernel_rfl) (by kernel_rfl) (fun _ _ _ h => h) (Or.inl ⟨by rfl, ?yb27_16⟩) ?rb27_16
                                case yb27_16 => (intro W hW; go_simp; first | done | with_reducible rfl)
                                try simp only [List.getElem_toArray, List.getElem_cons_succ, List.getElem_cons_zero, Act.put, List.setIfInBounds_toArray, List.set_cons_zero, List.set_cons_succ]
                                refine anyP_ready (rs := [17]) (by kernel_rfl) (by simp) ?_
                                refine AllP.cons rfl (fun K hK => ?kb28) (AllP.nil)
                                case kb28 =>
                                  obtain ⟨hc1, hc2⟩ := Hv5.out.cell (by omega) hni
                                  obtain ⟨v6, hw⟩ : ∃ W2, W2 = v5.setCell ⟨G 2, n, none⟩ (.slice (some ⟨b2, 0, none⟩) i i) := ⟨_, rfl⟩
                                  have hr := Hv5.out.store (b := b2) (by omega) (by simp [upB])
                                  rw [← hw] at hr
                                  have Hv6 := Lib.hid hr
                                  clear hr Hv5
                                  go_simp
                                  rw [← hw]
                                  refine hK.out _ _ (fun _ _ => trivial) ?_
                                  clear hK K
                                  clear hc1 hc2 hw
                                  try simp only [List.getElem_toArray, List.getElem_cons_succ, List.getElem_cons_zero, Act.put, List.setIfInBounds_toArray, List.set_cons_zero, List.set_cons_succ]
                                  refine anyP_done (by kernel_rfl) ?_ _
                                  go_wp2_with fail
                                  go_meet
                                  obtain ⟨B', hsq⟩ := Hv6.out.done HQW.out (F' := fun _ _ _ => 0) (fun _ _ _ => rfl) (fun _ => rfl)
                                  exact ⟨B', hsq, HB.out.trans (Hv6.out.bel HQW.out)⟩
                            case kb25 =>
                              obtain ⟨hc1, hc2⟩ := Hv3.out.cell (by omega) hni
                              obtain ⟨v4, hw⟩ : ∃ W2, W2 = v3.setCell ⟨G 1, n, none⟩ (.slice (some ⟨b1, 0, none⟩) i i) := ⟨_, rfl⟩
                              have hr := Hv3.out.store (b := b1) (by omega) (by simp [upB])
                              rw [← hw] at hr
                              have Hv4 := Lib.hid hr
                              clear hr Hv3
                              go_simp
                              rw [← hw]
                              refine hK.out _ _ (fun _ _ => trivial) ?_
                              clear hK K
                              clear hc1 hc2 hw
                              try simp only [List.getElem_toArray, List.getElem_cons_succ, List.getElem_cons_zero, Act.put, List.setIfInBounds_toArray, List.set_cons_zero, List.set_cons_succ]
                              refine anyP_ready (rs := [11]) (by kernel_rfl) (by simp) ?_
                              refine AllP.cons rfl (fun K hK => ?kb29) (AllP.nil)
                              case kb29 =>
                                obtain ⟨v5, hm, hr⟩ : ∃ W2, (Instr.makeSlice 22 (.int .i64 (i : Int)) (.int .i64 (i : Int))).run Try.prog v4 = .ok (.slice (some ⟨v4.heap.size, 0, none⟩) i i) W2 ∧ RM wq.heap.size wr i n G B (fun _ _ _ => 0) (upB (upB (upB (fun _ => none) 0 b0) 1 b1) 2 v4.heap.size) 2 W2 := ⟨_, make_ints9 i hi12 v4, Hv4.out.alloc (by omega)⟩
                                obtain ⟨b2, hb2⟩ : ∃ b, b = v4.heap.size := ⟨_, rfl⟩
                                rw [← hb2] at hm hr
                                have Hv5 := Lib.hid hr
                                clear hr hb2 Hv4
                                go_simp
                                refine hK.out _ _ (fun _ _ => trivial) ?_
                                clear hK K
                                clear hm
                                try simp only [List.getElem_toArray, List.getElem_cons_succ, List.getElem_cons_zero, Act.put, List.setIfInBounds_toArray, List.set_cons_zero, List.set_cons_succ]
                                refine anyP_pure (i := 16) (v := ?vb30_16) rfl (by kernel_rfl) (by kernel_rfl) (by kernel_rfl) (by kernel_rfl) (fun _ _ _ h => h) (Or.inl ⟨by rfl, ?yb30_16⟩) ?rb30_16
                                case yb30_16 => (intro W hW; go_simp; first | done | with_reducible rfl)
                                try simp only [List.getElem_toArray, List.getElem_cons_succ, List.getElem_cons_zero, Act.put, List.setIfInBounds_toArray, List.set_cons_zero, List.set_cons_succ]
                                refine anyP_ready (rs := [17]) (by kernel_rfl) (by simp) ?_
                                refine AllP.cons rfl (fun K hK => ?kb31) (AllP.nil)
                                case kb31 =>
                                  obtain ⟨hc1, hc2⟩ := Hv5.out.cell (by omega) hni
                                  obtain ⟨v6, hw⟩ : ∃ W2, W2 = v5.setCell ⟨G 2, n, none⟩ (.slice (some ⟨b2, 0, none⟩) i i) := ⟨_, rfl⟩
                                  have hr := Hv5.out.store (b := b2) (by omega) (by simp [upB])
                                  rw [← hw] at hr
                                  have Hv6 := Lib.hid hr
                                  clear hr Hv5
                                  go_simp
                                  rw [← hw]
                                  refine hK.out _ _ (fun _ _ => trivial) ?_
                                  clear hK K
                                  clear hc1 hc2 hw
                                  try simp only [List.getElem_toArray, List.getElem_cons_succ, List.getElem_cons_zero, Act.put, List.setIfInBounds_toArray, List.set_cons_zero, List.set_cons_succ]
                                  refine anyP_done (by kernel_rfl) ?_ _
                                  go_wp2_with fail
                                  go_meet
                                  obtain ⟨B', hsq⟩ := Hv6.out.done HQW.out (F' := fun _ _ _ => 0) (fun _ _ _ => rfl) (fun _ => rfl)
                                  exact ⟨B', hsq, HB.out.trans (Hv6.out.bel HQW.out)⟩
                      case kb14 =>
                        obtain ⟨v2, hm, hr⟩ : ∃ W2, (Instr.makeSlice 22 (.int .i64 (i : Int)) (.int .i64 (i : Int))).run Try.prog v1 = .ok (.slice (some ⟨v1.heap.size, 0, none⟩) i i) W2 ∧ RM wq.heap.size wr i n G B (fun _ _ _ => 0) (upB (upB (fun _ => none) 0 b0) 2 v1.heap.size) 0 W2 := ⟨_, make_ints9 i hi12 v1, Hv1.out.alloc (by omega)⟩
                        obtain ⟨b2, hb2⟩ : ∃ b, b = v1.heap.size := ⟨_, rfl⟩
                        rw [← hb2] at hm hr
                        have Hv2 := Lib.hid hr
                        clear hr hb2 Hv1
                        go_simp
                        refine hK.out _ _ (fun _ _ => trivial) ?_
                        clear hK K
                        clear hm
                        try simp only [List.getElem_toArray, List.getElem_cons_succ, List.getElem_cons_zero, Act.put, List.setIfInBounds_toArray, List.set_cons_zero, List.set_cons_succ]
                        refine anyP_ready (rs := [9, 13]) (by kernel_rfl) (by simp) ?_
                        refine AllP.cons rfl (fun K hK => ?kb32) (AllP.cons rfl (fun K hK => ?kb33) (AllP.nil))
                        case kb32 =>
                          as_aux_lemma =>
                            obtain ⟨v3, hm, hr⟩ : ∃ W2, (Instr.makeSlice 22 (.int .i64 (i : Int)) (.int .i64 (i : Int))).run Try.prog v2 = .ok (.slice (some ⟨v2.heap.size, 0, none⟩) i i) W2 ∧ RM wq.heap.size wr i n G B (fun _ _ _ => 0) (upB (upB (upB (fun _ => none) 0 b0) 2 b2) 1 v2.heap.size) 0 W2 := ⟨_, make_ints9 i hi12 v2, Hv2.out.alloc (by omega)⟩
                            obtain ⟨b1, hb1⟩ : ∃ b, b = v2.heap.size := ⟨_, rfl⟩
                            rw [← hb1] at hm hr
                            have Hv3 := Lib.hid hr
                            clear hr hb1 Hv2
                            go_simp
                            refine hK.out _ _ (fun _ _ => trivial) ?_
                            clear hK K
                            clear hm
                            try simp only [List.getElem_toArray, List.getElem_cons_succ, List.getElem_cons_zero, Act.put, List.setIfInBounds_toArray, List.set_cons_zero, List.set_cons_succ]
                            refine anyP_ready (rs := [13]) (by kernel_rfl) (by simp) ?_
                            refine AllP.cons rfl (fun K hK => ?kb34) (AllP.nil)
                            case kb34 =>
                              obtain ⟨hc1, hc2⟩ := Hv3.out.cell (by omega) hni
                              obtain ⟨v4, hw⟩ : ∃ W2, W2 = v3.setCell ⟨G 0, n, none⟩ (.slice (some ⟨b0, 0, none⟩) i i) := ⟨_, rfl⟩
                              have hr := Hv3.out.store (b := b0) (by omega) (by simp [upB])
                              rw [← hw] at hr
                              have Hv4 := Lib.hid hr
                              clear hr Hv3
                              go_simp
                              rw [← hw]
                              refine hK.out _ _ (fun _ _ => trivial) ?_
                              clear hK K
                              clear hc1 hc2 hw
                              try simp only [List.getElem_toArray, List.getElem_cons_succ, List.getElem_cons_zero, Act.put, List.setIfInBounds_toArray, List.set_cons_zero, List.set_cons_succ]
                              refine anyP_pure (i := 14) (v := ?vb35_14) rfl (by kernel_rfl) (by kernel_rfl) (by kernel_rfl) (by kernel_rfl) (fun _ _ _ h => h) (Or.inl ⟨by rfl, ?yb35_14⟩) ?rb35_14
                              case yb35_14 => (intro W hW; go_simp; first | done | with_reducible rfl)
                              try simp only [List.getElem_toArray, List.getElem_cons_succ, List.getElem_cons_zero, Act.put, List.setIfInBounds_toArray, List.set_cons_zero, List.set_cons_succ]
                              refine anyP_ready (rs := [15]) (by kernel_rfl) (by simp) ?_
                              refine AllP.cons rfl (fun K hK => ?kb36) (AllP.nil)
                              case kb36 =>
                                obtain ⟨hc1, hc2⟩ := Hv4.out.cell (by omega) hni
                                obtain ⟨v5, hw⟩ : ∃ W2, W2 = v4.setCell ⟨G 1, n, none⟩ (.slice (some ⟨b1, 0, none⟩) i i) := ⟨_, rfl⟩
                                have hr := Hv4.out.store (b := b1) (by omega) (by simp [upB])
                                rw [← hw] at hr
                                have Hv5 := Lib.hid hr
                                clear hr Hv4
                                go_simp
                                rw [← hw]
                                refine hK.out _ _ (fun _ _ => trivial) ?_
                                clear hK K
                                clear hc1 hc2 hw
                                try simp only [List.getElem_toArray, List.getElem_cons_succ, List.getElem_cons_zero, Act.put, List.setIfInBounds_toArray, List.set_cons_zero, List.set_cons_succ]
                                refine anyP_pure (i := 16) (v := ?vb37_16) rfl (by kernel_rfl) (by kernel_rfl) (by kernel_rfl) (by kernel_rfl) (fun _ _ _ h => h) (Or.inl ⟨by rfl, ?yb37_16⟩) ?rb37_16
                                case yb37_16 => (intro W hW; go_simp; first | done | with_reducible rfl)
                                try simp only [List.getElem_toArray, List.getElem_cons_succ, List.getElem_cons_zero, Act.put, List.setIfInBounds_toArray, List.set_cons_zero, List.set_cons_succ]
                                refine anyP_ready (rs := [17]) (by kernel_rfl) (by simp) ?_
                                refine AllP.cons rfl (fun K hK => ?kb38) (AllP.nil)
                                case kb38 =>
                                  obtain ⟨hc1, hc2⟩ := Hv5.out.cell (by omega) hni
                                  obtain ⟨v6, hw⟩ : ∃ W2, W2 = v5.setCell ⟨G 2, n, none⟩ (.slice (some ⟨b2, 0, none⟩) i i) := ⟨_, rfl⟩
                                  have hr := Hv5.out.store (b := b2) (by omega) (by simp [upB])
                                  rw [← hw] at hr
                                  have Hv6 := Lib.hid hr
                                  clear hr Hv5
                                  go_simp
                                  rw [← hw]
                                  refine hK.out _ _ (fun _ _ => trivial) ?_
                                  clear hK K
                                  clear hc1 hc2 hw
                                  try simp only [List.getElem_toArray, List.getElem_cons_succ, List.getElem_cons_zero, Act.put, List.setIfInBounds_toArray, List.set_cons_zero, List.set_cons_succ]
                                  refine anyP_done (by kernel_rfl) ?_ _
                                  go_wp2_with fail
                                  go_meet
                                  obtain ⟨B', hsq⟩ := Hv6.out.done HQW.out (F' := fun _ _ _ => 0) (fun _ _ _ => rfl) (fun _ => rfl)
                                  exact ⟨B', hsq, HB.out.trans (Hv6.out.bel HQW.out)⟩
                        case kb33 =>
                          as_aux_lemma =>
                            obtain ⟨hc1, hc2⟩ := Hv2.out.cell (by omega) hni
                            obtain ⟨v3, hw⟩ : ∃ W2, W2 = v2.setCell ⟨G 0, n, none⟩ (.slice (some ⟨b0, 0, none⟩) i i) := ⟨_, rfl⟩
                            have hr := Hv2.out.store (b := b0) (by omega) (by simp [upB])
                            rw [← hw] at hr
                            have Hv3 := Lib.hid hr
                            clear hr Hv2
                            go_simp
                            rw [← hw]
                            refine hK.out _ _ (fun _ _ => trivial) ?_
                            clear hK K
                            clear hc1 hc2 hw
                            try simp only [List.getElem_toArray, List.getElem_cons_succ, List.getElem_cons_zero, Act.put, List.setIfInBounds_toArray, List.set_cons_zero, List.set_cons_succ]
                            refine anyP_ready (rs := [9]) (by kernel_rfl) (by simp) ?_
                            refine AllP.cons rfl (fun K hK => ?kb39) (AllP.nil)
                            case kb39 =>
                              obtain ⟨v4, hm, hr⟩ : ∃ W2, (Instr.makeSlice 22 (.int .i64 (i : Int)) (.int .i64 (i : Int))).run Try.prog v3 = .ok (.slice (some ⟨v3.heap.size, 0, none⟩) i i) W2 ∧ RM wq.heap.size wr i n G B (fun _ _ _ => 0) (upB (upB (upB (fun _ => none) 0 b0) 2 b2) 1 v3.heap.size) 1 W2 := ⟨_, make_ints9 i hi12 v3, Hv3.out.alloc (by omega)⟩
                              obtain ⟨b1, hb1⟩ : ∃ b, b = v3.heap.size := ⟨_, rfl⟩
                              rw [← hb1] at hm hr
                              have Hv4 := Lib.hid hr
                              clear hr hb1 Hv3
                              go_simp
                              refine hK.out _ _ (fun _ _ => trivial) ?_
                              clear hK K
                              clear hm
                              try simp only [List.getElem_toArray, List.getElem_cons_succ, List.getElem_cons_zero, Act.put, List.setIfInBounds_toArray, List.set_cons_zero, List.set_cons_succ]
                              refine anyP_pure (i := 14) (v := ?vb40_14) rfl (by kernel_rfl) (by kernel_rfl) (by kernel_rfl) (by kernel_rfl) (fun _ _ _ h => h) (Or.inl ⟨by rfl, ?yb40_14⟩) ?rb40_14
                              case yb40_14 => (intro W hW; go_simp; first | done | with_reducible rfl)
                              try simp only [List.getElem_toArray, List.getElem_cons_succ, List.getElem_cons_zero, Act.put, List.setIfInBounds_toArray, List.set_cons_zero, List.set_cons_succ]
                              refine anyP_ready (rs := [15]) (by kernel_rfl) (by simp) ?_
                              refine AllP.cons rfl (fun K hK => ?kb41) (AllP.nil)
                              case kb41 =>
                                obtain ⟨hc1, hc2⟩ := Hv4.out.cell (by omega) hni
                                obtain ⟨v5, hw⟩ : ∃ W2, W2 = v4.setCell ⟨G 1, n, none⟩ (.slice (some ⟨b1, 0, none⟩) i i) := ⟨_, rfl⟩
                                have hr := Hv4.out.store (b := b1) (by omega) (by simp [upB])
                                rw [← hw] at hr
                                have Hv5 := Lib.hid hr
                                clear hr Hv4
                                go_simp
                                rw [← hw]
                                refine hK.out _ _ (fun _ _ => trivial) ?_
                                clear hK K
                                clear hc1 hc2 hw
                                try simp only [List.getElem_toArray, List.getElem_cons_succ, List.getElem_cons_zero, Act.put, List.setIfInBounds_toArray, List.set_cons_zero, List.set_cons_succ]
                                refine anyP_pure (i := 16) (v := ?vb42_16) rfl (by kernel_rfl) (by kernel_rfl) (by kernel_rfl) (by kernel_rfl) (fun _ _ _ h => h) (Or.inl ⟨by rfl, ?yb42_16⟩) ?rb42_16
                                case yb42_16 => (intro W hW; go_simp; first | done | with_reducible rfl)
                                try simp only [List.getElem_toArray, List.getElem_cons_succ, List.getElem_cons_zero, Act.put, List.setIfInBounds_toArray, List.set_cons_zero, List.set_cons_succ]
                                refine anyP_ready (rs := [17]) (by kernel_rfl) (by simp) ?_
                                refine AllP.cons rfl (fun K hK => ?kb43) (AllP.nil)
                                case kb43 =>
                                  obtain ⟨hc1, hc2⟩ := Hv5.out.cell (by omega) hni
                                  obtain ⟨v6, hw⟩ : ∃ W2, W2 = v5.setCell ⟨G 2, n, none⟩ (.slice (some ⟨b2, 0, none⟩) i i) := ⟨_, rfl⟩
                                  have hr := Hv5.out.store (b := b2) (by omega) (by simp [upB])
                                  rw [← hw] at hr
                                  have Hv6 := Lib.hid hr
                                  clear hr Hv5
                                  go_simp
                                  rw [← hw]
                                  refine hK.out _ _ (fun _ _ => trivial) ?_
                                  clear hK K
                                  clear hc1 hc2 hw
                                  try simp only [List.getElem_toArray, List.getElem_cons_succ, List.getElem_cons_zero, Act.put, List.setIfInBounds_toArray, List.set_cons_zero, List.set_cons_succ]
                                  refine anyP_done (by kernel_rfl) ?_ _
                                  go_wp2_with fail
                                  go_meet
                                  obtain ⟨B', hsq⟩ := Hv6.out.done HQW.out (F' := fun _ _ _ => 0) (fun _ _ _ => rfl) (fun _ => rfl)
                                  exact ⟨B', hsq, HB.out.trans (Hv6.out.bel HQW.out)⟩
                      case kb15 =>
                        obtain ⟨hc1, hc2⟩ := Hv1.out.cell (by omega) hni
                        obtain ⟨v2, hw⟩ : ∃ W2, W2 = v1.setCell ⟨G 0, n, none⟩ (.slice (some ⟨b0, 0, none⟩) i i) := ⟨_, rfl⟩
                        have hr := Hv1.out.store (b := b0) (by omega) (by simp [upB])
                        rw [← hw] at hr
                        have Hv2 := Lib.hid hr
                        clear hr Hv1
                        go_simp
                        rw [← hw]
                        refine hK.out _ _ (fun _ _ => trivial) ?_
                        clear hK K
                        clear hc1 hc2 hw
                        try simp only [List.getElem_toArray, List.getElem_cons_succ, List.getElem_cons_zero, Act.put, List.setIfInBounds_toArray, List.set_cons_zero, List.set_cons_succ]
                        refine anyP_ready (rs := [9, 11]) (by kernel_rfl) (by simp) ?_
                        refine AllP.cons rfl (fun K hK => ?kb44) (AllP.cons rfl (fun K hK => ?kb45) (AllP.nil))
                        case kb44 =>
                          as_aux_lemma =>
                            obtain ⟨v3, hm, hr⟩ : ∃ W2, (Instr.makeSlice 22 (.int .i64 (i : Int)) (.int .i64 (i : Int))).run Try.prog v2 = .ok (.slice (some ⟨v2.heap.size, 0, none⟩) i i) W2 ∧ RM wq.heap.size wr i n G B (fun _ _ _ => 0) (upB (upB (fun _ => none) 0 b0) 1 v2.heap.size) 1 W2 := ⟨_, make_ints9 i hi12 v2, Hv2.out.alloc (by omega)⟩
                            obtain ⟨b1, hb1⟩ : ∃ b, b = v2.heap.size := ⟨_, rfl⟩
                            rw [← hb1] at hm hr
                            have Hv3 := Lib.hid hr
                            clear hr hb1 Hv2
                            go_simp
                            refine hK.out _ _ (fun _ _ => trivial) ?_
                            clear hK K
                            clear hm
                            try simp only [List.getElem_toArray, List.getElem_cons_succ, List.getElem_cons_zero, Act.put, List.setIfInBounds_toArray, List.set_cons_zero, List.set_cons_succ]
                            refine anyP_pure (i := 14) (v := ?vb46_14) rfl (by kernel_rfl) (by kernel_rfl) (by kernel_rfl) (by kernel_rfl) (fun _ _ _ h => h) (Or.inl ⟨by rfl, ?yb46_14⟩) ?rb46_14
                            case yb46_14 => (intro W hW; go_simp; first | done | with_reducible rfl)
                            try simp only [List.getElem_toArray, List.getElem_cons_succ, List.getElem_cons_zero, Act.put, List.setIfInBounds_toArray, List.set_cons_zero, List.set_cons_succ]
                            refine anyP_ready (rs := [11, 15]) (by kernel_rfl) (by simp) ?_
                            refine AllP.cons rfl (fun K hK => ?kb47) (AllP.cons rfl (fun K hK => ?kb48) (AllP.nil))
                            case kb47 =>
                              obtain ⟨v4, hm, hr⟩ : ∃ W2, (Instr.makeSlice 22 (.int .i64 (i : Int)) (.int .i64 (i : Int))).run Try.prog v3 = .ok (.slice (some ⟨v3.heap.size, 0, none⟩) i i) W2 ∧ RM wq.heap.size wr i n G B (fun _ _ _ => 0) (upB (upB (upB (fun _ => none) 0 b0) 1 b1) 2 v3.heap.size) 1 W2 := ⟨_, make_ints9 i hi12 v3, Hv3.out.alloc (by omega)⟩
                              obtain ⟨b2, hb2⟩ : ∃ b, b = v3.heap.size := ⟨_, rfl⟩
                              rw [← hb2] at hm hr
                              have Hv4 := Lib.hid hr
                              clear hr hb2 Hv3
                              go_simp
                              refine hK.out _ _ (fun _ _ => trivial) ?_
                              clear hK K
                              clear hm
                              try simp only [List.getElem_toArray, List.getElem_cons_succ, List.getElem_cons_zero, Act.put, List.setIfInBounds_toArray, List.set_cons_zero, List.set_cons_succ]
                              refine anyP_ready (rs := [15]) (by kernel_rfl) (by simp) ?_
                              refine AllP.cons rfl (fun K hK => ?kb49) (AllP.nil)
                              case kb49 =>
                                obtain ⟨hc1, hc2⟩ := Hv4.out.cell (by omega) hni
                                obtain ⟨v5, hw⟩ : ∃ W2, W2 = v4.setCell ⟨G 1, n, none⟩ (.slice (some ⟨b1, 0, none⟩) i i) := ⟨_, rfl⟩
                                have hr := Hv4.out.store (b := b1) (by omega) (by simp [upB])
                                rw [← hw] at hr
                                have Hv5 := Lib.hid hr
                                clear hr Hv4
                                go_simp
                                rw [← hw]
                                refine hK.out _ _ (fun _ _ => trivial) ?_
                                clear hK K
                                clear hc1 hc2 hw
                                try simp only [List.getElem_toArray, List.getElem_cons_succ, List.getElem_cons_zero, Act.put, List.setIfInBounds_toArray, List.set_cons_zero, List.set_cons_succ]
                                refine anyP_pure (i := 16) (v := ?vb50_16) rfl (by kernel_rfl) (by kernel_rfl) (by kernel_rfl) (by kernel_rfl) (fun _ _ _ h => h) (Or.inl ⟨by rfl, ?yb50_16⟩) ?rb50_16
                                case yb50_16 => (intro W hW; go_simp; first | done | with_reducible rfl)
                                try simp only [List.getElem_toArray, List.getElem_cons_succ, List.getElem_cons_zero, Act.put, List.setIfInBounds_toArray, List.set_cons_zero, List.set_cons_succ]
                                refine anyP_ready (rs := [17]) (by kernel_rfl) (by simp) ?_
                                refine AllP.cons rfl (fun K hK => ?kb51) (AllP.nil)
                                case kb51 =>
                                  obtain ⟨hc1, hc2⟩ := Hv5.out.cell (by omega) hni
                                  obtain ⟨v6, hw⟩ : ∃ W2, W2 = v5.setCell ⟨G 2, n, none⟩ (.slice (some ⟨b2, 0, none⟩) i i) := ⟨_, rfl⟩
                                  have hr := Hv5.out.store (b := b2) (by omega) (by simp [upB])
                                  rw [← hw] at hr
                                  have Hv6 := Lib.hid hr
                                  clear hr Hv5
                                  go_simp
                                  rw [← hw]
                                  refine hK.out _ _ (fun _ _ => trivial) ?_
                                  clear hK K
                                  clear hc1 hc2 hw
                                  try simp only [List.getElem_toArray, List.getElem_cons_succ, List.getElem_cons_zero, Act.put, List.setIfInBounds_toArray, List.set_cons_zero, List.set_cons_succ]
                                  refine anyP_done (by kernel_rfl) ?_ _
                                  go_wp2_with fail
                                  go_meet
                                  obtain ⟨B', hsq⟩ := Hv6.out.done HQW.out (F' := fun _ _ _ => 0) (fun _ _ _ => rfl) (fun _ => rfl)
                                  exact ⟨B', hsq, HB.out.trans (Hv6.out.bel HQW.out)⟩
                            case kb48 =>
                              obtain ⟨hc1, hc2⟩ := Hv3.out.cell (by omega) hni
                              obtain ⟨v4, hw⟩ : ∃ W2, W2 = v3.setCell ⟨G 1, n, none⟩ (.slice (some ⟨b1, 0, none⟩) i i) := ⟨_, rfl⟩
                              have hr := Hv3.out.store (b := b1) (by omega) (by simp [upB])
                              rw [← hw] at hr
                              have Hv4 := Lib.hid hr
                              clear hr Hv3
                              go_simp
                              rw [← hw]
                              refine hK.out _ _ (fun _ _ => trivial) ?_
                              clear hK K
                              clear hc1 hc2 hw
                              try simp only [List.getElem_toArray, List.getElem_cons_succ, List.getElem_cons_zero, Act.put, List.setIfInBounds_toArray, List.set_cons_zero, List.set_cons_succ]
                              refine anyP_ready (rs := [11]) (by kernel_rfl) (by simp) ?_
                              refine AllP.cons rfl (fun K hK => ?kb52) (AllP.nil)
                              case kb52 =>
                                obtain ⟨v5, hm, hr⟩ : ∃ W2, (Instr.makeSlice 22 (.int .i64 (i : Int)) (.int .i64 (i : Int))).run Try.prog v4 = .ok (.slice (some ⟨v4.heap.size, 0, none⟩) i i) W2 ∧ RM wq.heap.size wr i n G B (fun _ _ _ => 0) (upB (upB (upB (fun _ => none) 0 b0) 1 b1) 2 v4.heap.size) 2 W2 := ⟨_, make_ints9 i hi12 v4, Hv4.out.alloc (by omega)⟩
                                obtain ⟨b2, hb2⟩ : ∃ b, b = v4.heap.size := ⟨_, rfl⟩
                                rw [← hb2] at hm hr
                                have Hv5 := Lib.hid hr
                                clear hr hb2 Hv4
                                go_simp
                                refine hK.out _ _ (fun _ _ => trivial) ?_
                                clear hK K
                                clear hm
                                try simp only [List.getElem_toArray, List.getElem_cons_succ, List.getElem_cons_zero, Act.put, List.setIfInBounds_toArray, List.set_cons_zero, List.set_cons_succ]
                                refine anyP_pure (i := 16) (v := ?vb53_16) rfl (by kernel_rfl) (by kernel_rfl) (by kernel_rfl) (by kernel_rfl) (fun _ _ _ h => h) (Or.inl ⟨by rfl, ?yb53_16⟩) ?rb53_16
                                case yb53_16 => (intro W hW; go_simp; first | done | with_reducible rfl)
                                try simp only [List.getElem_toArray, List.getElem_cons_succ, List.getElem_cons_zero, Act.put, List.setIfInBounds_toArray, List.set_cons_zero, List.set_cons_succ]
                                refine anyP_ready (rs := [17]) (by kernel_rfl) (by simp) ?_
                                refine AllP.cons rfl (fun K hK => ?kb54) (AllP.nil)
                                case kb54 =>
                                  obtain ⟨hc1, hc2⟩ := Hv5.out.cell (by omega) hni
                                  obtain ⟨v6, hw⟩ : ∃ W2, W2 = v5.setCell ⟨G 2, n, none⟩ (.slice (some ⟨b2, 0, none⟩) i i) := ⟨_, rfl⟩
                                  have hr := Hv5.out.store (b := b2) (by omega) (by simp [upB])
                                  rw [← hw] at hr
                                  have Hv6 := Lib.hid hr
                                  clear hr Hv5
                                  go_simp
                                  rw [← hw]
                                  refine hK.out _ _ (fun _ _ => trivial) ?_
                                  clear hK K
                                  clear hc1 hc2 hw
                                  try simp only [List.getElem_toArray, List.getElem_cons_succ, List.getElem_cons_zero, Act.put, List.setIfInBounds_toArray, List.set_cons_zero, List.set_cons_succ]
                                  refine anyP_done (by kernel_rfl) ?_ _
                                  go_wp2_with fail
                                  go_meet
                                  obtain ⟨B', hsq⟩ := Hv6.out.done HQW.out (F' := fun _ _ _ => 0) (fun _ _ _ => rfl) (fun _ => rfl)
                                  exact ⟨B', hsq, HB.out.trans (Hv6.out.bel HQW.out)⟩
                        case kb45 =>
                          as_aux_lemma =>
                            obtain ⟨v3, hm, hr⟩ : ∃ W2, (Instr.makeSlice 22 (.int .i64 (i : Int)) (.int .i64 (i : Int))).run Try.prog v2 = .ok (.slice (some ⟨v2.heap.size, 0, none⟩) i i) W2 ∧ RM wq.heap.size wr i n G B (fun _ _ _ => 0) (upB (upB (fun _ => none) 0 b0) 2 v2.heap.size) 1 W2 := ⟨_, make_ints9 i hi12 v2, Hv2.out.alloc (by omega)⟩
                            obtain ⟨b2, hb2⟩ : ∃ b, b = v2.heap.size := ⟨_, rfl⟩
                            rw [← hb2] at hm hr
                            have Hv3 := Lib.hid hr
                            clear hr hb2 Hv2
                            go_simp
                            refine hK.out _ _ (fun _ _ => trivial) ?_
                            clear hK K
                            clear hm
                            try simp only [List.getElem_toArray, List.getElem_cons_succ, List.getElem_cons_zero, Act.put, List.setIfInBounds_toArray, List.set_cons_zero, List.set_cons_succ]
                            refine anyP_ready (rs := [9]) (by kernel_rfl) (by simp) ?_
                            refine AllP.cons rfl (fun K hK => ?kb55) (AllP.nil)
                            case kb55 =>
                              obtain ⟨v4, hm, hr⟩ : ∃ W2, (Instr.makeSlice 22 (.int .i64 (i : Int)) (.int .i64 (i : Int))).run Try.prog v3 = .ok (.slice (some ⟨v3.heap.size, 0, none⟩) i i) W2 ∧ RM wq.heap.size wr i n G B (fun _ _ _ => 0) (upB (upB (upB (fun _ => none) 0 b0) 2 b2) 1 v3.heap.size) 1 W2 := ⟨_, make_ints9 i hi12 v3, Hv3.out.alloc (by omega)⟩
                              obtain ⟨b1, hb1⟩ : ∃ b, b = v3.heap.size := ⟨_, rfl⟩
                              rw [← hb1] at hm hr
                              have Hv4 := Lib.hid hr
                              clear hr hb1 Hv3
                              go_simp
                              refine hK.out _ _ (fun _ _ => trivial) ?_
                              clear hK K
                              clear hm
                              try simp only [List.getElem_toArray, List.getElem_cons_succ, List.getElem_cons_zero, Act.put, List.setIfInBounds_toArray, List.set_cons_zero, List.set_cons_succ]
                              refine anyP_pure (i := 14) (v := ?vb56_14) rfl (by kernel_rfl) (by kernel_rfl) (by kernel_rfl) (by kernel_rfl) (fun _ _ _ h => h) (Or.inl ⟨by rfl, ?yb56_14⟩) ?rb56_14
                              case yb56_14 => (intro W hW; go_simp; first | done | with_reducible rfl)
                              try simp only [List.getElem_toArray, List.getElem_cons_succ, List.getElem_cons_zero, Act.put, List.setIfInBounds_toArray, List.set_cons_zero, List.set_cons_succ]
                              refine anyP_ready (rs := [15]) (by kernel_rfl) (by simp) ?_
                              refine AllP.cons rfl (fun K hK => ?kb57) (AllP.nil)
                              case kb57 =>
                                obtain ⟨hc1, hc2⟩ := Hv4.out.cell (by omega) hni
                                obtain ⟨v5, hw⟩ : ∃ W2, W2 = v4.setCell ⟨G 1, n, none⟩ (.slice (some ⟨b1, 0, none⟩) i i) := ⟨_, rfl⟩
                                have hr := Hv4.out.store (b := b1) (by omega) (by simp [upB])
                                rw [← hw] at hr
                                have Hv5 := Lib.hid hr
                                clear hr Hv4
                                go_simp
                                rw [← hw]
                                refine hK.out _ _ (fun _ _ => trivial) ?_
                                clear hK K
                                clear hc1 hc2 hw
                                try simp only [List.getElem_toArray, List.getElem_cons_succ, List.getElem_cons_zero, Act.put, List.setIfInBounds_toArray, List.set_cons_zero, List.set_cons_succ]
                                refine anyP_pure (i := 16) (v := ?vb58_16) rfl (by kernel_rfl) (by kernel_rfl) (by kernel_rfl) (by kernel_rfl) (fun _ _ _ h => h) (Or.inl ⟨by rfl, ?yb58_16⟩) ?rb58_16
                                case yb58_16 => (intro W hW; go_simp; first | done | with_reducible rfl)
                                try simp only [List.getElem_toArray, List.getElem_cons_succ, List.getElem_cons_zero, Act.put, List.setIfInBounds_toArray, List.set_cons_zero, List.set_cons_succ]
                                refine anyP_ready (rs := [17]) (by kernel_rfl) (by simp) ?_
                                refine AllP.cons rfl (fun K hK => ?kb59) (AllP.nil)
                                case kb59 =>
                                  obtain ⟨hc1, hc2⟩ := Hv5.out.cell (by omega) hni
                                  obtain ⟨v6, hw⟩ : ∃ W2, W2 = v5.setCell ⟨G 2, n, none⟩ (.slice (some ⟨b2, 0, none⟩) i i) := ⟨_, rfl⟩
                                  have hr := Hv5.out.store (b := b2) (by omega) (by simp [upB])
                                  rw [← hw] at hr
                                  have Hv6 := Lib.hid hr
                                  clear hr Hv5
                                  go_simp
                                  rw [← hw]
                                  refine hK.out _ _ (fun _ _ => trivial) ?_
                                  clear hK K
                                  clear hc1 hc2 hw
                                  try simp only [List.getElem_toArray, List.getElem_cons_succ, List.getElem_cons_zero, Act.put, List.setIfInBounds_toArray, List.set_cons_zero, List.set_cons_succ]
                                  refine anyP_done (by kernel_rfl) ?_ _
                                  go_wp2_with fail
                                  go_meet
                                  obtain ⟨B', hsq⟩ := Hv6.out.done HQW.out (F' := fun _ _ _ => 0) (fun _ _ _ => rfl) (fun _ => rfl)
                                  exact ⟨B', hsq, HB.out.trans (Hv6.out.bel HQW.out)⟩
                  case kb10 =>
                    as_aux_lemma =>
                      obtain ⟨v1, hm, hr⟩ : ∃ W2, (Instr.makeSlice 22 (.int .i64 (i : Int)) (.int .i64 (i : Int))).run Try.prog v0 = .ok (.slice (some ⟨v0.heap.size, 0, none⟩) i i) W2 ∧ RM wq.heap.size wr i n G B (fun _ _ _ => 0) (upB (fun _ => none) 1 v0.heap.size) 0 W2 := ⟨_, make_ints9 i hi12 v0, Hv0.out.alloc (by omega)⟩
                      obtain ⟨b1, hb1⟩ : ∃ b, b = v0.heap.size := ⟨_, rfl⟩
                      rw [← hb1] at hm hr
                      have Hv1 := Lib.hid hr
                      clear hr hb1 Hv0
                      go_simp
                      refine hK.out _ _ (fun _ _ => trivial) ?_
                      clear hK K
                      clear hm
                      try simp only [List.getElem_toArray, List.getElem_cons_succ, List.getElem_cons_zero, Act.put, List.setIfInBounds_toArray, List.set_cons_zero, List.set_cons_succ]
                      refine anyP_ready (rs := [7, 11]) (by kernel_rfl) (by simp) ?_
                      refine AllP.cons rfl (fun K hK => ?kb60) (AllP.cons rfl (fun K hK => ?kb61) (AllP.nil))
                      case kb60 =>
                        obtain ⟨v2, hm, hr⟩ : ∃ W2, (Instr.makeSlice 22 (.int .i64 (i : Int)) (.int .i64 (i : Int))).run Try.prog v1 = .ok (.slice (some ⟨v1.heap.size, 0, none⟩) i i) W2 ∧ RM wq.heap.size wr i n G B (fun _ _ _ => 0) (upB (upB (fun _ => none) 1 b1) 0 v1.heap.size) 0 W2 := ⟨_, make_ints9 i hi12 v1, Hv1.out.alloc (by omega)⟩
                        obtain ⟨b0, hb0⟩ : ∃ b, b = v1.heap.size := ⟨_, rfl⟩
                        rw [← hb0] at hm hr
                        have Hv2 := Lib.hid hr
                        clear hr hb0 Hv1
                        go_simp
                        refine hK.out _ _ (fun _ _ => trivial) ?_
                        clear hK K
                        clear hm
                        try simp only [List.getElem_toArray, List.getElem_cons_succ, List.getElem_cons_zero, Act.put, List.setIfInBounds_toArray, List.set_cons_zero, List.set_cons_succ]
                        refine anyP_pure (i := 12) (v := ?vb62_12) rfl (by kernel_rfl) (by kernel_rfl) (by kernel_rfl) (by kernel_rfl) (fun _ _ _ h => h) (Or.inl ⟨by rfl, ?yb62_12⟩) ?rb62_12
                        case yb62_12 => (intro W hW; go_simp; first | done | with_reducible rfl)
                        try simp only [List.getElem_toArray, List.getElem_cons_succ, List.getElem_cons_zero, Act.put, List.setIfInBounds_toArray, List.set_cons_zero, List.set_cons_succ]
                        refine anyP_ready (rs := [11, 13]) (by kernel_rfl) (by simp) ?_
                        refine AllP.cons rfl (fun K hK => ?kb63) (AllP.cons rfl (fun K hK => ?kb64) (AllP.nil))
                        case kb63 =>
                          as_aux_lemma =>
                            obtain ⟨v3, hm, hr⟩ : ∃ W2, (Instr.makeSlice 22 (.int .i64 (i : Int)) (.int .i64 (i : Int))).run Try.prog v2 = .ok (.slice (some ⟨v2.heap.size, 0, none⟩) i i) W2 ∧ RM wq.heap.size wr i n G B (fun _ _ _ => 0) (upB (upB (upB (fun _ => none) 1 b1) 0 b0) 2 v2.heap.size) 0 W2 := ⟨_, make_ints9 i hi12 v2, Hv2.out.alloc (by omega)⟩
                            obtain ⟨b2, hb2⟩ : ∃ b, b = v2.heap.size := ⟨_, rfl⟩
                            rw [← hb2] at hm hr
                            have Hv3 := Lib.hid hr
                            clear hr hb2 Hv2
                            go_simp
                            refine hK.out _ _ (fun _ _ => trivial) ?_
                            clear hK K
                            clear hm
                            try simp only [List.getElem_toArray, List.getElem_cons_succ, List.getElem_cons_zero, Act.put, List.setIfInBounds_toArray, List.set_cons_zero, List.set_cons_succ]
                            refine anyP_ready (rs := [13]) (by kernel_rfl) (by simp) ?_
                            refine AllP.cons rfl (fun K hK => ?kb65) (AllP.nil)
                            case kb65 =>
                              obtain ⟨hc1, hc2⟩ := Hv3.out.cell (by omega) hni
                              obtain ⟨v4, hw⟩ : ∃ W2, W2 = v3.setCell ⟨G 0, n, none⟩ (.slice (some ⟨b0, 0, none⟩) i i) := ⟨_, rfl⟩
                              have hr := Hv3.out.store (b := b0) (by omega) (by simp [upB])
                              rw [← hw] at hr
                              have Hv4 := Lib.hid hr
                              clear hr Hv3
                              go_simp
                              rw [← hw]
                              refine hK.out _ _ (fun _ _ => trivial) ?_
                              clear hK K
                              clear hc1 hc2 hw
                              try simp only [List.getElem_toArray, List.getElem_cons_succ, List.getElem_cons_zero, Act.put, List.setIfInBounds_toArray, List.set_cons_zero, List.set_cons_succ]
                              refine anyP_pure (i := 14) (v := ?vb66_14) rfl (by kernel_rfl) (by kernel_rfl) (by kernel_rfl) (by kernel_rfl) (fun _ _ _ h => h) (Or.inl ⟨by rfl, ?yb66_14⟩) ?rb66_14
                              case yb66_14 => (intro W hW; go_simp; first | done | with_reducible rfl)
                              try simp only [List.getElem_toArray, List.getElem_cons_succ, List.getElem_cons_zero, Act.put, List.setIfInBounds_toArray, List.set_cons_zero, List.set_cons_succ]
                              refine anyP_ready (rs := [15]) (by kernel_rfl) (by simp) ?_
                              refine AllP.cons rfl (fun K hK => ?kb67) (AllP.nil)
                              case kb67 =>
                                obtain ⟨hc1, hc2⟩ := Hv4.out.cell (by omega) hni
                                obtain ⟨v5, hw⟩ : ∃ W2, W2 = v4.setCell ⟨G 1, n, none⟩ (.slice (some ⟨b1, 0, none⟩) i i) := ⟨_, rfl⟩
                                have hr := Hv4.out.store (b := b1) (by omega) (by simp [upB])
                                rw [← hw] at hr
                                have Hv5 := Lib.hid hr
                                clear hr Hv4
                                go_simp
                                rw [← hw]
                                refine hK.out _ _ (fun _ _ => trivial) ?_
                                clear hK K
                                clear hc1 hc2 hw
                                try simp only [List.getElem_toArray, List.getElem_cons_succ, List.getElem_cons_zero, Act.put, List.setIfInBounds_toArray, List.set_cons_zero, List.set_cons_succ]
                                refine anyP_pure (i := 16) (v := ?vb68_16) rfl (by kernel_rfl) (by kernel_rfl) (by kernel_rfl) (by kernel_rfl) (fun _ _ _ h => h) (Or.inl ⟨by rfl, ?yb68_16⟩) ?rb68_16
                                case yb68_16 => (intro W hW; go_simp; first | done | with_reducible rfl)
                                try simp only [List.getElem_toArray, List.getElem_cons_succ, List.getElem_cons_zero, Act.put, List.setIfInBounds_toArray, List.set_cons_zero, List.set_cons_succ]
                                refine anyP_ready (rs := [17]) (by kernel_rfl) (by simp) ?_
                                refine AllP.cons rfl (fun K hK => ?kb69) (AllP.nil)
                                case kb69 =>
                                  obtain ⟨hc1, hc2⟩ := Hv5.out.cell (by omega) hni
                                  obtain ⟨v6, hw⟩ : ∃ W2, W2 = v5.setCell ⟨G 2, n, none⟩ (.slice (some ⟨b2, 0, none⟩) i i) := ⟨_, rfl⟩
                                  have hr := Hv5.out.store (b := b2) (by omega) (by simp [upB])
                                  rw [← hw] at hr
                                  have Hv6 := Lib.hid hr
                                  clear hr Hv5
                                  go_simp
                                  rw [← hw]
                                  refine hK.out _ _ (fun _ _ => trivial) ?_
                                  clear hK K
                                  clear hc1 hc2 hw
                                  try simp only [List.getElem_toArray, List.getElem_cons_succ, List.getElem_cons_zero, Act.put, List.setIfInBounds_toArray, List.set_cons_zero, List.set_cons_succ]
                                  refine anyP_done (by kernel_rfl) ?_ _
                                  go_wp2_with fail
                                  go_meet
                                  obtain ⟨B', hsq⟩ := Hv6.out.done HQW.out (F' := fun _ _ _ => 0) (fun _ _ _ => rfl) (fun _ => rfl)
                                  exact ⟨B', hsq, HB.out.trans (Hv6.out.bel HQW.out)⟩
                        case kb64 =>
                          as_aux_lemma =>
                            obtain ⟨hc1, hc2⟩ := Hv2.out.cell (by omega) hni
                            obtain ⟨v3, hw⟩ : ∃ W2, W2 = v2.setCell ⟨G 0, n, none⟩ (.slice (some ⟨b0, 0, none⟩) i i) := ⟨_, rfl⟩
                            have hr := Hv2.out.store (b := b0) (by omega) (by simp [upB])
                            rw [← hw] at hr
                            have Hv3 := Lib.hid hr
                            clear hr Hv2
                            go_simp
                            rw [← hw]
                            refine hK.out _ _ (fun _ _ => trivial) ?_
                            clear hK K
                            clear hc1 hc2 hw
                            try simp only [List.getElem_toArray, List.getElem_cons_succ, List.getElem_cons_zero, Act.put, List.setIfInBounds_toArray, List.set_cons_zero, List.set_cons_succ]
                            refine anyP_pure (i := 14) (v := ?vb70_14) rfl (by kernel_rfl) (by kernel_rfl) (by kernel_rfl) (by kernel_rfl) (fun _ _ _ h => h) (Or.inl ⟨by rfl, ?yb70_14⟩) ?rb70_14
                            case yb70_14 => (intro W hW; go_simp; first | done | with_reducible rfl)
                            try simp only [List.getElem_toArray, List.getElem_cons_succ, List.getElem_cons_zero, Act.put, List.setIfInBounds_toArray, List.set_cons_zero, List.set_cons_succ]
                            refine anyP_ready (rs := [11, 15]) (by kernel_rfl) (by simp) ?_
                            refine AllP.cons rfl (fun K hK => ?kb71) (AllP.cons rfl (fun K hK => ?kb72) (AllP.nil))
                            case kb71 =>
                              obtain ⟨v4, hm, hr⟩ : ∃ W2, (Instr.makeSlice 22 (.int .i64 (i : Int)) (.int .i64 (i : Int))).run Try.prog v3 = .ok (.slice (some ⟨v3.heap.size, 0, none⟩) i i) W2 ∧ RM wq.heap.size wr i n G B (fun _ _ _ => 0) (upB (upB (upB (fun _ => none) 1 b1) 0 b0) 2 v3.heap.size) 1 W2 := ⟨_, make_ints9 i hi12 v3, Hv3.out.alloc (by omega)⟩
                              obtain ⟨b2, hb2⟩ : ∃ b, b = v3.heap.size := ⟨_, rfl⟩
                              rw [← hb2] at hm hr
                              have Hv4 := Lib.hid hr
                              clear hr hb2 Hv3
                              go_simp
                              refine hK.out _ _ (fun _ _ => trivial) ?_
                              clear hK K
                              clear hm
                              try simp only [List.getElem_toArray, List.getElem_cons_succ, List.getElem_cons_zero, Act.put, List.setIfInBounds_toArray, List.set_cons_zero, List.set_cons_succ]
                              refine anyP_ready (rs := [15]) (by kernel_rfl) (by simp) ?_
                              refine AllP.cons rfl (fun K hK => ?kb73) (AllP.nil)
                              case kb73 =>
                                obtain ⟨hc1, hc2⟩ := Hv4.out.cell (by omega) hni
                                obtain ⟨v5, hw⟩ : ∃ W2, W2 = v4.setCell ⟨G 1, n, none⟩ (.slice (some ⟨b1, 0, none⟩) i i) := ⟨_, rfl⟩
                                have hr := Hv4.out.store (b := b1) (by omega) (by simp [upB])
                                rw [← hw] at hr
                                have Hv5 := Lib.hid hr
                                clear hr Hv4
                                go_simp
                                rw [← hw]
                                refine hK.out _ _ (fun _ _ => trivial) ?_
                                clear hK K
                                clear hc1 hc2 hw
                                try simp only [List.getElem_toArray, List.getElem_cons_succ, List.getElem_cons_zero, Act.put, List.setIfInBounds_toArray, List.set_cons_zero, List.set_cons_succ]
                                refine anyP_pure (i := 16) (v := ?vb74_16) rfl (by kernel_rfl) (by kernel_rfl) (by kernel_rfl) (by kernel_rfl) (fun _ _ _ h => h) (Or.inl ⟨by rfl, ?yb74_16⟩) ?rb74_16
                                case yb74_16 => (intro W hW; go_simp; first | done | with_reducible rfl)
                                try simp only [List.getElem_toArray, List.getElem_cons_succ, List.getElem_cons_zero, Act.put, List.setIfInBounds_toArray, List.set_cons_zero, List.set_cons_succ]
                                refine anyP_ready (rs := [17]) (by kernel_rfl) (by simp) ?_
                                refine AllP.cons rfl (fun K hK => ?kb75) (AllP.nil)
                                case kb75 =>
                                  obtain ⟨hc1, hc2⟩ := Hv5.out.cell (by omega) hni
                                  obtain ⟨v6, hw⟩ : ∃ W2, W2 = v5.setCell ⟨G 2, n, none⟩ (.slice (some ⟨b2, 0, none⟩) i i) := ⟨_, rfl⟩
                                  have hr := Hv5.out.store (b := b2) (by omega) (by simp [upB])
                                  rw [← hw] at hr
                                  have Hv6 := Lib.hid hr
                                  clear hr Hv5
                                  go_simp
                                  rw [← hw]
                                  refine hK.out _ _ (fun _ _ => trivial) ?_
                                  clear hK K
                                  clear hc1 hc2 hw
                                  try simp only [List.getElem_toArray, List.getElem_cons_succ, List.getElem_cons_zero, Act.put, List.setIfInBounds_toArray, List.set_cons_zero, List.set_cons_succ]
                                  refine anyP_done (by kernel_rfl) ?_ _
                                  go_wp2_with fail
                                  go_meet
                                  obtain ⟨B', hsq⟩ := Hv6.out.done HQW.out (F' := fun _ _ _ => 0) (fun _ _ _ => rfl) (fun _ => rfl)
                                  exact ⟨B', hsq, HB.out.trans (Hv6.out.bel HQW.out)⟩
                            case kb72 =>
                              obtain ⟨hc1, hc2⟩ := Hv3.out.cell (by omega) hni
                              obtain ⟨v4, hw⟩ : ∃ W2, W2 = v3.setCell ⟨G 1, n, none⟩ (.slice (some ⟨b1, 0, none⟩) i i) := ⟨_, rfl⟩
                              have hr := Hv3.out.store (b := b1) (by omega) (by simp [upB])
                              rw [← hw] at hr
                              have Hv4 := Lib.hid hr
                              clear hr Hv3
                              go_simp
                              rw [← hw]
                              refine hK.out _ _ (fun _ _ => trivial) ?_
                              clear hK K
                              clear hc1 hc2 hw
                              try simp only [List.getElem_toArray, List.getElem_cons_succ, List.getElem_cons_zero, Act.put, List.setIfInBounds_toArray, List.set_cons_zero, List.set_cons_succ]
                              refine anyP_ready (rs := [11]) (by kernel_rfl) (by simp) ?_
                              refine AllP.cons rfl (fun K hK => ?kb76) (AllP.nil)
                              case kb76 =>
                                obtain ⟨v5, hm, hr⟩ : ∃ W2, (Instr.makeSlice 22 (.int .i64 (i : Int)) (.int .i64 (i : Int))).run Try.prog v4 = .ok (.slice (some ⟨v4.heap.size, 0, none⟩) i i) W2 ∧ RM wq.heap.size wr i n G B (fun _ _ _ => 0) (upB (upB (upB (fun _ => none) 1 b1) 0 b0) 2 v4.heap.size) 2 W2 := ⟨_, make_ints9 i hi12 v4, Hv4.out.alloc (by omega)⟩
                                obtain ⟨b2, hb2⟩ : ∃ b, b = v4.heap.size := ⟨_, rfl⟩
                                rw [← hb2] at hm hr
                                have Hv5 := Lib.hid hr
                                clear hr hb2 Hv4
                                go_simp
                                refine hK.out _ _ (fun _ _ => trivial) ?_
                                clear hK K
                                clear hm
                                try simp only [List.getElem_toArray, List.getElem_cons_succ, List.getElem_cons_zero, Act.put, List.setIfInBounds_toArray, List.set_cons_zero, List.set_cons_succ]
                                refine anyP_pure (i := 16) (v := ?vb77_16) rfl (by kernel_rfl) (by kernel_rfl) (by kernel_rfl) (by kernel_rfl) (fun _ _ _ h => h) (Or.inl ⟨by rfl, ?yb77_16⟩) ?rb77_16
                                case yb77_16 => (intro W hW; go_simp; first | done | with_reducible rfl)
                                try simp only [List.getElem_toArray, List.getElem_cons_succ, List.getElem_cons_zero, Act.put, List.setIfInBounds_toArray, List.set_cons_zero, List.set_cons_succ]
                                refine anyP_ready (rs := [17]) (by kernel_rfl) (by simp) ?_
                                refine AllP.cons rfl (fun K hK => ?kb78) (AllP.nil)
                                case kb78 =>
                                  obtain ⟨hc1, hc2⟩ := Hv5.out.cell (by omega) hni
                                  obtain ⟨v6, hw⟩ : ∃ W2, W2 = v5.setCell ⟨G 2, n, none⟩ (.slice (some ⟨b2, 0, none⟩) i i) := ⟨_, rfl⟩
                                  have hr := Hv5.out.store (b := b2) (by omega) (by simp [upB])
                                  rw [← hw] at hr
                                  have Hv6 := Lib.hid hr
                                  clear hr Hv5
                                  go_simp
                                  rw [← hw]
                                  refine hK.out _ _ (fun _ _ => trivial) ?_
                                  clear hK K
                                  clear hc1 hc2 hw
                                  try simp only [List.getElem_toArray, List.getElem_cons_succ, List.getElem_cons_zero, Act.put, List.setIfInBounds_toArray, List.set_cons_zero, List.set_cons_succ]
                                  refine anyP_done (by kernel_rfl) ?_ _
                                  go_wp2_with fail
                                  go_meet
                                  obtain ⟨B', hsq⟩ := Hv6.out.done HQW.out (F' := fun _ _ _ => 0) (fun _ _ _ => rfl) (fun _ => rfl)
                                  exact ⟨B', hsq, HB.out.trans (Hv6.out.bel HQW.out)⟩
                      case kb61 =>
                        obtain ⟨v2, hm, hr⟩ : ∃ W2, (Instr.makeSlice 22 (.int .i64 (i : Int)) (.int .i64 (i : Int))).run Try.prog v1 = .ok (.slice (some ⟨v1.heap.size, 0, none⟩) i i) W2 ∧ RM wq.heap.size wr i n G B (fun _ _ _ => 0) (upB (upB (fun _ => none) 1 b1) 2 v1.heap.size) 0 W2 := ⟨_, make_ints9 i hi12 v1, Hv1.out.alloc (by omega)⟩
                        obtain ⟨b2, hb2⟩ : ∃ b, b = v1.heap.size := ⟨_, rfl⟩
                        rw [← hb2] at hm hr
                        have Hv2 := Lib.hid hr
                        clear hr hb2 Hv1
                        go_simp
                        refine hK.out _ _ (fun _ _ => trivial) ?_
                        clear hK K
                        clear hm
                        try simp only [List.getElem_toArray, List.getElem_cons_succ, List.getElem_cons_zero, Act.put, List.setIfInBounds_toArray, List.set_cons_zero, List.set_cons_succ]
                        refine anyP_ready (rs := [7]) (by kernel_rfl) (by simp) ?_
                        refine AllP.cons rfl (fun K hK => ?kb79) (AllP.nil)
                        case kb79 =>
                          as_aux_lemma =>
                            obtain ⟨v3, hm, hr⟩ : ∃ W2, (Instr.makeSlice 22 (.int .i64 (i : Int)) (.int .i64 (i : Int))).run Try.prog v2 = .ok (.slice (some ⟨v2.heap.size, 0, none⟩) i i) W2 ∧ RM wq.heap.size wr i n G B (fun _ _ _ => 0) (upB (upB (upB (fun _ => none) 1 b1) 2 b2) 0 v2.heap.size) 0 W2 := ⟨_, make_ints9 i hi12 v2, Hv2.out.alloc (by omega)⟩
                            obtain ⟨b0, hb0⟩ : ∃ b, b = v2.heap.size := ⟨_, rfl⟩
                            rw [← hb0] at hm hr
                            have Hv3 := Lib.hid hr
                            clear hr hb0 Hv2
                            go_simp
                            refine hK.out _ _ (fun _ _ => trivial) ?_
                            clear hK K
                            clear hm
                            try simp only [List.getElem_toArray, List.getElem_cons_succ, List.getElem_cons_zero, Act.put, List.setIfInBounds_toArray, List.set_cons_zero, List.set_cons_succ]
                            refine anyP_pure (i := 12) (v := ?vb80_12) rfl (by kernel_rfl) (by kernel_rfl) (by kernel_rfl) (by kernel_rfl) (fun _ _ _ h => h) (Or.inl ⟨by rfl, ?yb80_12⟩) ?rb80_12
                            case yb80_12 => (intro W hW; go_simp; first | done | with_reducible rfl)
                            try simp only [List.getElem_toArray, List.getElem_cons_succ, List.getElem_cons_zero, Act.put, List.setIfInBounds_toArray, List.set_cons_zero, List.set_cons_succ]
                            refine anyP_ready (rs := [13]) (by kernel_rfl) (by simp) ?_
                            refine AllP.cons rfl (fun K hK => ?kb81) (AllP.nil)
                            case kb81 =>
                              obtain ⟨hc1, hc2⟩ := Hv3.out.cell (by omega) hni
                              obtain ⟨v4, hw⟩ : ∃ W2, W2 = v3.setCell ⟨G 0, n, none⟩ (.slice (some ⟨b0, 0, none⟩) i i) := ⟨_, rfl⟩
                              have hr := Hv3.out.store (b := b0) (by omega) (by simp [upB])
                              rw [← hw] at hr
                              have Hv4 := Lib.hid hr
                              clear hr Hv3
                              go_simp
                              rw [← hw]
                              refine hK.out _ _ (fun _ _ => trivial) ?_
                              clear hK K
                              clear hc1 hc2 hw
                              try simp only [List.getElem_toArray, List.getElem_cons_succ, List.getElem_cons_zero, Act.put, List.setIfInBounds_toArray, List.set_cons_zero, List.set_cons_succ]
                              refine anyP_pure (i := 14) (v := ?vb82_14) rfl (by kernel_rfl) (by kernel_rfl) (by kernel_rfl) (by kernel_rfl) (fun _ _ _ h => h) (Or.inl ⟨by rfl, ?yb82_14⟩) ?rb82_14
                              case yb82_14 => (intro W hW; go_simp; first | done | with_reducible rfl)
                              try simp only [List.getElem_toArray, List.getElem_cons_succ, List.getElem_cons_zero, Act.put, List.setIfInBounds_toArray, List.set_cons_zero, List.set_cons_succ]
                              refine anyP_ready (rs := [15]) (by kernel_rfl) (by simp) ?_
                              refine AllP.cons rfl (fun K hK => ?kb83) (AllP.nil)
                              case kb83 =>
                                obtain ⟨hc1, hc2⟩ := Hv4.out.cell (by omega) hni
                                obtain ⟨v5, hw⟩ : ∃ W2, W2 = v4.setCell ⟨G 1, n, none⟩ (.slice (some ⟨b1, 0, none⟩) i i) := ⟨_, rfl⟩
                                have hr := Hv4.out.store (b := b1) (by omega) (by simp [upB])
                                rw [← hw] at hr
                                have Hv5 := Lib.hid hr
                                clear hr Hv4
                                go_simp
                                rw [← hw]
                                refine hK.out _ _ (fun _ _ => trivial) ?_
                                clear hK K
                                clear hc1 hc2 hw
                                try simp only [List.getElem_toArray, List.getElem_cons_succ, List.getElem_cons_zero, Act.put, List.setIfInBounds_toArray, List.set_cons_zero, List.set_cons_succ]
                                refine anyP_pure (i := 16) (v := ?vb84_16) rfl (by kernel_rfl) (by kernel_rfl) (by kernel_rfl) (by kernel_rfl) (fun _ _ _ h => h) (Or.inl ⟨by rfl, ?yb84_16⟩) ?rb84_16
                                case yb84_16 => (intro W hW; go_simp; first | done | with_reducible rfl)
                                try simp only [List.getElem_toArray, List.getElem_cons_succ, List.getElem_cons_zero, Act.put, List.setIfInBounds_toArray, List.set_cons_zero, List.set_cons_succ]
                                refine anyP_ready (rs := [17]) (by kernel_rfl) (by simp) ?_
                                refine AllP.cons rfl (fun K hK => ?kb85) (AllP.nil)
                                case kb85 =>
                                  obtain ⟨hc1, hc2⟩ := Hv5.out.cell (by omega) hni
                                  obtain ⟨v6, hw⟩ : ∃ W2, W2 = v5.setCell ⟨G 2, n, none⟩ (.slice (some ⟨b2, 0, none⟩) i i) := ⟨_, rfl⟩
                                  have hr := Hv5.out.store (b := b2) (by omega) (by simp [upB])
                                  rw [← hw] at hr
                                  have Hv6 := Lib.hid hr
                                  clear hr Hv5
                                  go_simp
                                  rw [← hw]
                                  refine hK.out _ _ (fun _ _ => trivial) ?_
                                  clear hK K
                                  clear hc1 hc2 hw
                                  try simp only [List.getElem_toArray, List.getElem_cons_succ, List.getElem_cons_zero, Act.put, List.setIfInBounds_toArray, List.set_cons_zero, List.set_cons_succ]
                                  refine anyP_done (by kernel_rfl) ?_ _
                                  go_wp2_with fail
                                  go_meet
                                  obtain ⟨B', hsq⟩ := Hv6.out.done HQW.out (F' := fun _ _ _ => 0) (fun _ _ _ => rfl) (fun _ => rfl)
                                  exact ⟨B', hsq, HB.out.trans (Hv6.out.bel HQW.out)⟩
                  case kb11 =>
                    as_aux_lemma =>
                      obtain ⟨v1, hm, hr⟩ : ∃ W2, (Instr.makeSlice 22 (.int .i64 (i : Int)) (.int .i64 (i : Int))).run Try.prog v0 = .ok (.slice (some ⟨v0.heap.size, 0, none⟩) i i) W2 ∧ RM wq.heap.size wr i n G B (fun _ _ _ => 0) (upB (fun _ => none) 2 v0.heap.size) 0 W2 := ⟨_, make_ints9 i hi12 v0, Hv0.out.alloc (by omega)⟩
                      obtain ⟨b2, hb2⟩ : ∃ b, b = v0.heap.size := ⟨_, rfl⟩
                      rw [← hb2] at hm hr
                      have Hv1 := Lib.hid hr
                      clear hr hb2 Hv0
                      go_simp
                      refine hK.out _ _ (fun _ _ => trivial) ?_
                      clear hK K
                      clear hm
                      try simp only [List.getElem_toArray, List.getElem_cons_succ, List.getElem_cons_zero, Act.put, List.setIfInBounds_toArray, List.set_cons_zero, List.set_cons_succ]
                      refine anyP_ready (rs := [7, 9]) (by kernel_rfl) (by simp) ?_
                      refine AllP.cons rfl (fun K hK => ?kb86) (AllP.cons rfl (fun K hK => ?kb87) (AllP.nil))
                      case kb86 =>
                        obtain ⟨v2, hm, hr⟩ : ∃ W2, (Instr.makeSlice 22 (.int .i64 (i : Int)) (.int .i64 (i : Int))).run Try.prog v1 = .ok (.slice (some ⟨v1.heap.size, 0, none⟩) i i) W2 ∧ RM wq.heap.size wr i n G B (fun _ _ _ => 0) (upB (upB (fun _ => none) 2 b2) 0 v1.heap.size) 0 W2 := ⟨_, make_ints9 i hi12 v1, Hv1.out.alloc (by omega)⟩
                        obtain ⟨b0, hb0⟩ : ∃ b, b = v1.heap.size := ⟨_, rfl⟩
                        rw [← hb0] at hm hr
                        have Hv2 := Lib.hid hr
                        clear hr hb0 Hv1
                        go_simp
                        refine hK.out _ _ (fun _ _ => trivial) ?_
                        clear hK K
                        clear hm
                        try simp only [List.getElem_toArray, List.getElem_cons_succ, List.getElem_cons_zero, Act.put, List.setIfInBounds_toArray, List.set_cons_zero, List.set_cons_succ]
                        refine anyP_pure (i := 12) (v := ?vb88_12) rfl (by kernel_rfl) (by kernel_rfl) (by kernel_rfl) (by kernel_rfl) (fun _ _ _ h => h) (Or.inl ⟨by rfl, ?yb88_12⟩) ?rb88_12
                        case yb88_12 => (intro W hW; go_simp; first | done | with_reducible rfl)
                        try simp only [List.getElem_toArray, List.getElem_cons_succ, List.getElem_cons_zero, Act.put, List.setIfInBounds_toArray, List.set_cons_zero, List.set_cons_succ]
                        refine anyP_ready (rs := [9, 13]) (by kernel_rfl) (by simp) ?_
                        refine AllP.cons rfl (fun K hK => ?kb89) (AllP.cons rfl (fun K hK => ?kb90) (AllP.nil))
                        case kb89 =>
                          as_aux_lemma =>
                            obtain ⟨v3, hm, hr⟩ : ∃ W2, (Instr.makeSlice 22 (.int .i64 (i : Int)) (.int .i64 (i : Int))).run Try.prog v2 = .ok (.slice (some ⟨v2.heap.size, 0, none⟩) i i) W2 ∧ RM wq.heap.size wr i n G B (fun _ _ _ => 0) (upB (upB (upB (fun _ => none) 2 b2) 0 b0) 1 v2.heap.size) 0 W2 := ⟨_, make_ints9 i hi12 v2, Hv2.out.alloc (by omega)⟩
                            obtain ⟨b1, hb1⟩ : ∃ b, b = v2.heap.size := ⟨_, rfl⟩
                            rw [← hb1] at hm hr
                            have Hv3 := Lib.hid hr
                            clear hr hb1 Hv2
                            go_simp
                            refine hK.out _ _ (fun _ _ => trivial) ?_
                            clear hK K
                            clear hm
                            try simp only [List.getElem_toArray, List.getElem_cons_succ, List.getElem_cons_zero, Act.put, List.setIfInBounds_toArray, List.set_cons_zero, List.set_cons_succ]
                            refine anyP_ready (rs := [13]) (by kernel_rfl) (by simp) ?_
                            refine AllP.cons rfl (fun K hK => ?kb91) (AllP.nil)
                            case kb91 =>
                              obtain ⟨hc1, hc2⟩ := Hv3.out.cell (by omega) hni
                              obtain ⟨v4, hw⟩ : ∃ W2, W2 = v3.setCell ⟨G 0, n, none⟩ (.slice (some ⟨b0, 0, none⟩) i i) := ⟨_, rfl⟩
                              have hr := Hv3.out.store (b := b0) (by omega) (by simp [upB])
                              rw [← hw] at hr
                              have Hv4 := Lib.hid hr
                              clear hr Hv3
                              go_simp
                              rw [← hw]
                              refine hK.out _ _ (fun _ _ => trivial) ?_
                              clear hK K
                              clear hc1 hc2 hw
                              try simp only [List.getElem_toArray, List.getElem_cons_succ, List.getElem_cons_zero, Act.put, List.setIfInBounds_toArray, List.set_cons_zero, List.set_cons_succ]
                              refine anyP_pure (i := 14) (v := ?vb92_14) rfl (by kernel_rfl) (by kernel_rfl) (by kernel_rfl) (by kernel_rfl) (fun _ _ _ h => h) (Or.inl ⟨by rfl, ?yb92_14⟩) ?rb92_14
                              case yb92_14 => (intro W hW; go_simp; first | done | with_reducible rfl)
                              try simp only [List.getElem_toArray, List.getElem_cons_succ, List.getElem_cons_zero, Act.put, List.setIfInBounds_toArray, List.set_cons_zero, List.set_cons_succ]
                              refine anyP_ready (rs := [15]) (by kernel_rfl) (by simp) ?_
                              refine AllP.cons rfl (fun K hK => ?kb93) (AllP.nil)
                              case kb93 =>
                                obtain ⟨hc1, hc2⟩ := Hv4.out.cell (by omega) hni
                                obtain ⟨v5, hw⟩ : ∃ W2, W2 = v4.setCell ⟨G 1, n, none⟩ (.slice (some ⟨b1, 0, none⟩) i i) := ⟨_, rfl⟩
                                have hr := Hv4.out.store (b := b1) (by omega) (by simp [upB])
                                rw [← hw] at hr
                                have Hv5 := Lib.hid hr
                                clear hr Hv4
                                go_simp
                                rw [← hw]
                                refine hK.out _ _ (fun _ _ => trivial) ?_
                                clear hK K
                                clear hc1 hc2 hw
                                try simp only [List.getElem_toArray, List.getElem_cons_succ, List.getElem_cons_zero, Act.put, List.setIfInBounds_toArray, List.set_cons_zero, List.set_cons_succ]
                                refine anyP_pure (i := 16) (v := ?vb94_16) rfl (by kernel_rfl) (by kernel_rfl) (by kernel_rfl) (by kernel_rfl) (fun _ _ _ h => h) (Or.inl ⟨by rfl, ?yb94_16⟩) ?rb94_16
                                case yb94_16 => (intro W hW; go_simp; first | done | with_reducible rfl)
                                try simp only [List.getElem_toArray, List.getElem_cons_succ, List.getElem_cons_zero, Act.put, List.setIfInBounds_toArray, List.set_cons_zero, List.set_cons_succ]
                                refine anyP_ready (rs := [17]) (by kernel_rfl) (by simp) ?_
                                refine AllP.cons rfl (fun K hK => ?kb95) (AllP.nil)
                                case kb95 =>
                                  obtain ⟨hc1, hc2⟩ := Hv5.out.cell (by omega) hni
                                  obtain ⟨v6, hw⟩ : ∃ W2, W2 = v5.setCell ⟨G 2, n, none⟩ (.slice (some ⟨b2, 0, none⟩) i i) := ⟨_, rfl⟩
                                  have hr := Hv5.out.store (b := b2) (by omega) (by simp [upB])
                                  rw [← hw] at hr
                                  have Hv6 := Lib.hid hr
                                  clear hr Hv5
                                  go_simp
                                  rw [← hw]
                                  refine hK.out _ _ (fun _ _ => trivial) ?_
                                  clear hK K
                                  clear hc1 hc2 hw
                                  try simp only [List.getElem_toArray, List.getElem_cons_succ, List.getElem_cons_zero, Act.put, List.setIfInBounds_toArray, List.set_cons_zero, List.set_cons_succ]
                                  refine anyP_done (by kernel_rfl) ?_ _
                                  go_wp2_with fail
                                  go_meet
                                  obtain ⟨B', hsq⟩ := Hv6.out.done HQW.out (F' := fun _ _ _ => 0) (fun _ _ _ => rfl) (fun _ => rfl)
                                  exact ⟨B', hsq, HB.out.trans (Hv6.out.bel HQW.out)⟩
                        case kb90 =>
                          as_aux_lemma =>
                            obtain ⟨hc1, hc2⟩ := Hv2.out.cell (by omega) hni
                            obtain ⟨v3, hw⟩ : ∃ W2, W2 = v2.setCell ⟨G 0, n, none⟩ (.slice (some ⟨b0, 0, none⟩) i i) := ⟨_, rfl⟩
                            have hr := Hv2.out.store (b := b0) (by omega) (by simp [upB])
                            rw [← hw] at hr
                            have Hv3 := Lib.hid hr
                            clear hr Hv2
                            go_simp
                            rw [← hw]
                            refine hK.out _ _ (fun _ _ => trivial) ?_
                            clear hK K
                            clear hc1 hc2 hw
                            try simp only [List.getElem_toArray, List.getElem_cons_succ, List.getElem_cons_zero, Act.put, List.setIfInBounds_toArray, List.set_cons_zero, List.set_cons_succ]
                            refine anyP_ready (rs := [9]) (by kernel_rfl) (by simp) ?_
                            refine AllP.cons rfl (fun K hK => ?kb96) (AllP.nil)
                            case kb96 =>
                              obtain ⟨v4, hm, hr⟩ : ∃ W2, (Instr.makeSlice 22 (.int .i64 (i : Int)) (.int .i64 (i : Int))).run Try.prog v3 = .ok (.slice (some ⟨v3.heap.size, 0, none⟩) i i) W2 ∧ RM wq.heap.size wr i n G B (fun _ _ _ => 0) (upB (upB (upB (fun _ => none) 2 b2) 0 b0) 1 v3.heap.size) 1 W2 := ⟨_, make_ints9 i hi12 v3, Hv3.out.alloc (by omega)⟩
                              obtain ⟨b1, hb1⟩ : ∃ b, b = v3.heap.size := ⟨_, rfl⟩
                              rw [← hb1] at hm hr
                              have Hv4 := Lib.hid hr
                              clear hr hb1 Hv3
                              go_simp
                              refine hK.out _ _ (fun _ _ => trivial) ?_
                              clear hK K
                              clear hm
                              try simp only [List.getElem_toArray, List.getElem_cons_succ, List.getElem_cons_zero, Act.put, List.setIfInBounds_toArray, List.set_cons_zero, List.set_cons_succ]
                              refine anyP_pure (i := 14) (v := ?vb97_14) rfl (by kernel_rfl) (by kernel_rfl) (by kernel_rfl) (by kernel_rfl) (fun _ _ _ h => h) (Or.inl ⟨by rfl, ?yb97_14⟩) ?rb97_14
                              case yb97_14 => (intro W hW; go_simp; first | done | with_reducible rfl)
                              try simp only [List.getElem_toArray, List.getElem_cons_succ, List.getElem_cons_zero, Act.put, List.setIfInBounds_toArray, List.set_cons_zero, List.set_cons_succ]
                              refine anyP_ready (rs := [15]) (by kernel_rfl) (by simp) ?_
                              refine AllP.cons rfl (fun K hK => ?kb98) (AllP.nil)
                              case kb98 =>
                                obtain ⟨hc1, hc2⟩ := Hv4.out.cell (by omega) hni
                                obtain ⟨v5, hw⟩ : ∃ W2, W2 = v4.setCell ⟨G 1, n, none⟩ (.slice (some ⟨b1, 0, none⟩) i i) := ⟨_, rfl⟩
                                have hr := Hv4.out.store (b := b1) (by omega) (by simp [upB])
                                rw [← hw] at hr
                                have Hv5 := Lib.hid hr
                                clear hr Hv4
                                go_simp
                                rw [← hw]
                                refine hK.out _ _ (fun _ _ => trivial) ?_
                                clear hK K
                                clear hc1 hc2 hw
                                try simp only [List.getElem_toArray, List.getElem_cons_succ, List.getElem_cons_zero, Act.put, List.setIfInBounds_toArray, List.set_cons_zero, List.set_cons_succ]
                                refine anyP_pure (i := 16) (v := ?vb99_16) rfl (by kernel_rfl) (by kernel_rfl) (by kernel_rfl) (by kernel_rfl) (fun _ _ _ h => h) (Or.inl ⟨by rfl, ?yb99_16⟩) ?rb99_16
                                case yb99_16 => (intro W hW; go_simp; first | done | with_reducible rfl)
                                try simp only [List.getElem_toArray, List.getElem_cons_succ, List.getElem_cons_zero, Act.put, List.setIfInBounds_toArray, List.set_cons_zero, List.set_cons_succ]
                                refine anyP_ready (rs := [17]) (by kernel_rfl) (by simp) ?_
                                refine AllP.cons rfl (fun K hK => ?kb100) (AllP.nil)
                                case kb100 =>
                                  obtain ⟨hc1, hc2⟩ := Hv5.out.cell (by omega) hni
                                  obtain ⟨v6, hw⟩ : ∃ W2, W2 = v5.setCell ⟨G 2, n, none⟩ (.slice (some ⟨b2, 0, none⟩) i i) := ⟨_, rfl⟩
                                  have hr := Hv5.out.store (b := b2) (by omega) (by simp [upB])
                                  rw [← hw] at hr
                                  have Hv6 := Lib.hid hr
                                  clear hr Hv5
                                  go_simp
                                  rw [← hw]
                                  refine hK.out _ _ (fun _ _ => trivial) ?_
                                  clear hK K
                                  clear hc1 hc2 hw
                                  try simp only [List.getElem_toArray, List.getElem_cons_succ, List.getElem_cons_zero, Act.put, List.setIfInBounds_toArray, List.set_cons_zero, List.set_cons_succ]
                                  refine anyP_done (by kernel_rfl) ?_ _
                                  go_wp2_with fail
                                  go_meet
                                  obtain ⟨B', hsq⟩ := Hv6.out.done HQW.out (F' := fun _ _ _ => 0) (fun _ _ _ => rfl) (fun _ => rfl)
                                  exact ⟨B', hsq, HB.out.trans (Hv6.out.bel HQW.out)⟩
                      case kb87 =>
                        obtain ⟨v2, hm, hr⟩ : ∃ W2, (Instr.makeSlice 22 (.int .i64 (i : Int)) (.int .i64 (i : Int))).run Try.prog v1 = .ok (.slice (some ⟨v1.heap.size, 0, none⟩) i i) W2 ∧ RM wq.heap.size wr i n G B (fun _ _ _ => 0) (upB (upB (fun _ => none) 2 b2) 1 v1.heap.size) 0 W2 := ⟨_, make_ints9 i hi12 v1, Hv1.out.alloc (by omega)⟩
                        obtain ⟨b1, hb1⟩ : ∃ b, b = v1.heap.size := ⟨_, rfl⟩
                        rw [← hb1] at hm hr
                        have Hv2 := Lib.hid hr
                        clear hr hb1 Hv1
                        go_simp
                        refine hK.out _ _ (fun _ _ => trivial) ?_
                        clear hK K
                        clear hm
                        try simp only [List.getElem_toArray, List.getElem_cons_succ, List.getElem_cons_zero, Act.put, List.setIfInBounds_toArray, List.set_cons_zero, List.set_cons_succ]
                        refine anyP_ready (rs := [7]) (by kernel_rfl) (by simp) ?_
                        refine AllP.cons rfl (fun K hK => ?kb101) (AllP.nil)
                        case kb101 =>
                          as_aux_lemma =>
                            obtain ⟨v3, hm, hr⟩ : ∃ W2, (Instr.makeSlice 22 (.int .i64 (i : Int)) (.int .i64 (i : Int))).run Try.prog v2 = .ok (.slice (some ⟨v2.heap.size, 0, none⟩) i i) W2 ∧ RM wq.heap.size wr i n G B (fun _ _ _ => 0) (upB (upB (upB (fun _ => none) 2 b2) 1 b1) 0 v2.heap.size) 0 W2 := ⟨_, make_ints9 i hi12 v2, Hv2.out.alloc (by omega)⟩
                            obtain ⟨b0, hb0⟩ : ∃ b, b = v2.heap.size := ⟨_, rfl⟩
                            rw [← hb0] at hm hr
                            have Hv3 := Lib.hid hr
                            clear hr hb0 Hv2
                            go_simp
                            refine hK.out _ _ (fun _ _ => trivial) ?_
                            clear hK K
                            clear hm
                            try simp only [List.getElem_toArray, List.getElem_cons_succ, List.getElem_cons_zero, Act.put, List.setIfInBounds_toArray, List.set_cons_zero, List.set_cons_succ]
                            refine anyP_pure (i := 12) (v := ?vb102_12) rfl (by kernel_rfl) (by kernel_rfl) (by kernel_rfl) (by kernel_rfl) (fun _ _ _ h => h) (Or.inl ⟨by rfl, ?yb102_12⟩) ?rb102_12
                            case yb102_12 => (intro W hW; go_simp; first | done | with_reducible rfl)
                            try simp only [List.getElem_toArray, List.getElem_cons_succ, List.getElem_cons_zero, Act.put, List.setIfInBounds_toArray, List.set_cons_zero, List.set_cons_succ]
                            refine anyP_ready (rs := [13]) (by kernel_rfl) (by simp) ?_
                            refine AllP.cons rfl (fun K hK => ?kb103) (AllP.nil)
                            case kb103 =>
                              obtain ⟨hc1, hc2⟩ := Hv3.out.cell (by omega) hni
                              obtain ⟨v4, hw⟩ : ∃ W2, W2 = v3.setCell ⟨G 0, n, none⟩ (.slice (some ⟨b0, 0, none⟩) i i) := ⟨_, rfl⟩
                              have hr := Hv3.out.store (b := b0) (by omega) (by simp [upB])
                              rw [← hw] at hr
                              have Hv4 := Lib.hid hr
                              clear hr Hv3
                              go_simp
                              rw [← hw]
                              refine hK.out _ _ (fun _ _ => trivial) ?_
                              clear hK K
                              clear hc1 hc2 hw
                              try simp only [List.getElem_toArray, List.getElem_cons_succ, List.getElem_cons_zero, Act.put, List.setIfInBounds_toArray, List.set_cons_zero, List.set_cons_succ]
                              refine anyP_pure (i := 14) (v := ?vb104_14) rfl (by kernel_rfl) (by kernel_rfl) (by kernel_rfl) (by kernel_rfl) (fun _ _ _ h => h) (Or.inl ⟨by rfl, ?yb104_14⟩) ?rb104_14
                              case yb104_14 => (intro W hW; go_simp; first | done | with_reducible rfl)
                              try simp only [List.getElem_toArray, List.getElem_cons_succ, List.getElem_cons_zero, Act.put, List.setIfInBounds_toArray, List.set_cons_zero, List.set_cons_succ]
                              refine anyP_ready (rs := [15]) (by kernel_rfl) (by simp) ?_
                              refine AllP.cons rfl (fun K hK => ?kb105) (AllP.nil)
                              case kb105 =>
                                obtain ⟨hc1, hc2⟩ := Hv4.out.cell (by omega) hni
                                obtain ⟨v5, hw⟩ : ∃ W2, W2 = v4.setCell ⟨G 1, n, none⟩ (.slice (some ⟨b1, 0, none⟩) i i) := ⟨_, rfl⟩
                                have hr := Hv4.out.store (b := b1) (by omega) (by simp [upB])
                                rw [← hw] at hr
                                have Hv5 := Lib.hid hr
                                clear hr Hv4
                                go_simp
                                rw [← hw]
                                refine hK.out _ _ (fun _ _ => trivial) ?_
                                clear hK K
                                clear hc1 hc2 hw
                                try simp only [List.getElem_toArray, List.getElem_cons_succ, List.getElem_cons_zero, Act.put, List.setIfInBounds_toArray, List.set_cons_zero, List.set_cons_succ]
                                refine anyP_pure (i := 16) (v := ?vb106_16) rfl (by kernel_rfl) (by kernel_rfl) (by kernel_rfl) (by kernel_rfl) (fun _ _ _ h => h) (Or.inl ⟨by rfl, ?yb106_16⟩) ?rb106_16
                                case yb106_16 => (intro W hW; go_simp; first | done | with_reducible rfl)
                                try simp only [List.getElem_toArray, List.getElem_cons_succ, List.getElem_cons_zero, Act.put, List.setIfInBounds_toArray, List.set_cons_zero, List.set_cons_succ]
                                refine anyP_ready (rs := [17]) (by kernel_rfl) (by simp) ?_
                                refine AllP.cons rfl (fun K hK => ?kb107) (AllP.nil)
                                case kb107 =>
                                  obtain ⟨hc1, hc2⟩ := Hv5.out.cell (by omega) hni
                                  obtain ⟨v6, hw⟩ : ∃ W2, W2 = v5.setCell ⟨G 2, n, none⟩ (.slice (some ⟨b2, 0, none⟩) i i) := ⟨_, rfl⟩
                                  have hr := Hv5.out.store (b := b2) (by omega) (by simp [upB])
                                  rw [← hw] at hr
                                  have Hv6 := Lib.hid hr
                                  clear hr Hv5
                                  go_simp
                                  rw [← hw]
                                  refine hK.out _ _ (fun _ _ => trivial) ?_
                                  clear hK K
                                  clear hc1 hc2 hw
                                  try simp only [List.getElem_toArray, List.getElem_cons_succ, List.getElem_cons_zero, Act.put, List.setIfInBounds_toArray, List.set_cons_zero, List.set_cons_succ]
                                  refine anyP_done (by kernel_rfl) ?_ _
                                  go_wp2_with fail
                                  go_meet
                                  obtain ⟨B', hsq⟩ := Hv6.out.done HQW.out (F' := fun _ _ _ => 0) (fun _ _ _ => rfl) (fun _ => rfl)
                                  exact ⟨B', hsq, HB.out.trans (Hv6.out.bel HQW.out)⟩
              case rest =>
                obtain ⟨B', hsq, hbn⟩ := hcut
                rename World => wx
                have HSX := Lib.hid hsq
                have HBX := Lib.hid hbn
                clear hsq hbn HS HB
                go_wp2_with fail
                go_roundw
                case rel => exact ⟨n + 1, B', by go_num, by omega, HSX.out, HBX.out⟩
                case measure => simp [intOf]; omega
            · obtain rfl : n = i := by omega
              have hnn : decide ((n : Int) < (n : Int)) = false := by simp
              go_wp2_with fail
              obtain ⟨ent, hent⟩ : ∃ ent : Nat → Nat → Int, ent = fun a b => match zs[a * n + b]? with | some z => z % 100 | none => (a : Int) + (b : Int) := ⟨_, rfl⟩
              have HEN := Lib.hid hent
              have HSZ := Lib.hid HS.out
              have HBZ := Lib.hid HB.out
              have HEB : Hid (∀ a b, a ≤ 5 → b ≤ 5 → 0 ≤ ent a b ∧ ent a b ≤ 1000000) := Lib.hid (fun a b ha hb => by
                rw [hent]
                dsimp only
                cases zs[a * n + b]? with
                | none => exact ⟨by show (0 : Int) ≤ (a : Int) + (b : Int); omega, by show (a : Int) + (b : Int) ≤ 1000000; omega⟩
                | some z => exact ⟨Int.emod_nonneg z (by omega), by show z % 100 ≤ 1000000; omega⟩)
              clear hent HS HB HQW
              have hq0 := HBZ.out.size
              have HO2 := Lib.hid HO.out
              clear HO
              go_loopw [17, 18, 19] (fun p _ _ wr => ∃ (x : Nat) (F : Nat → Nat → Nat → Int), p = .int .i64 x ∧ x ≤ n ∧ Sq wq.heap.size wr n n G B F ∧ Dn n T ent F x 0 ∧ (∀ s a b, 0 ≤ F s a b ∧ F s a b ≤ 1000000) ∧ Below wq.heap.size wq wr) (fun p _ _ _ => n - (intOf p).toNat)
              case atStart => exact ⟨0, _, rfl, Nat.zero_le _, HSZ.out, fun a b _ _ h => absurd h (by omega), fun _ _ _ => ⟨Int.le_refl _, by omega⟩, HBZ.out⟩
              case round =>
                obtain ⟨x, F, rfl, hx, hsq, hdn, hfb, hbr⟩ := hrel
                clear HSZ HBZ
                rename World => wr
                have HS := Lib.hid hsq
                have HDN := Lib.hid hdn
                have HFB := Lib.hid hfb
                have HBR := Lib.hid hbr
                clear hsq hdn hfb hbr
                by_cases hxn : x < n
                · have hxz : (x : Int) < (n : Int) := by omega
                  have x0 : (0 : Int) ≤ (x : Int) := by omega
                  obtain ⟨pk, hpk⟩ : ∃ pk : Nat, pk = x * n := ⟨_, rfl⟩
                  have hp1 : pk ≤ 25 := by rw [hpk]; exact Nat.le_trans (Nat.mul_le_mul (show x ≤ 5 by omega) hk8) (by omega)
                  have hp2 : (x : Int) * (n : Int) = (pk : Int) := by rw [hpk]; push_cast; rfl
                  have HPK := Lib.hid hpk
                  clear hpk
                  go_wp2_with fail
                  go_loopw [18, 19] (fun p _ wr => ∃ (m : Nat) (F : Nat → Nat → Nat → Int), p = .int .i64 m ∧ m ≤ n ∧ Sq wq.heap.size wr n n G B F ∧ Dn n T ent F x m ∧ (∀ s a b, 0 ≤ F s a b ∧ F s a b ≤ 1000000) ∧ Below wq.heap.size wq wr) (fun p _ _ => n - (intOf p).toNat)
                  case atStart => exact ⟨0, F, rfl, Nat.zero_le _, HS.out, HDN.out, HFB.out, HBR.out⟩
                  case round =>
                    obtain ⟨m, F, rfl, hm, hsq, hdn, hfb, hbr⟩ := hrel
                    clear HS HDN HFB HBR
                    rename World => wr
                    have HS := Lib.hid hsq
                    have HDN := Lib.hid hdn
                    have HFB := Lib.hid hfb
                    have HBR := Lib.hid hbr
                    clear hsq hdn hfb hbr
                    by_cases hmn : m < n
                    · have hmz : (m : Int) < (n : Int) := by omega
                      have m0 : (0 : Int) ≤ (m : Int) := by omega
                      obtain ⟨tn, htn⟩ : ∃ tn, T[m]? = some tn := ⟨_, List.getElem?_eq_getElem (by rw [HOK.out.1]; exact hmn)⟩
                      have htni := HOK.out.2.2 tn (List.mem_of_getElem? htn)
                      have htn2 : T[m]?.getD 0 = tn := by rw [htn]; rfl
                      obtain ⟨gT, cT', eT, -, -, hcT, -⟩ := (HO2.out.below HBR.out).cell (i := m) (x := (tn : Int)) (by rw [List.getElem?_map, htn]; rfl)
                      injection eT with eT1 eT2 eT3
                      subst eT1
                      clear eT2 eT3 htn
                      have tn0 : (0 : Int) ≤ (tn : Int) := by omega
                      have tnz : (tn : Int) < (n : Int) := by omega
                      obtain ⟨y, hy⟩ : ∃ y, y = ent x m := ⟨_, rfl⟩
                      have hyb := HEB.out x m (by omega) (by omega)
                      rw [← hy] at hyb
                      have hn3 := HS.out.put3 (t := tn) hxn hmn y
                      have hb3 := ((HBR.out.setCell (p := ⟨B 0 x, m, none⟩) (HS.out.r 0 x (by omega) hxn).1 (.int .i64 y)).setCell (p := ⟨B 1 x, tn, none⟩) (HS.out.r 1 x (by omega) hxn).1 (.int .i64 y)).setCell (p := ⟨B 2 m, x, none⟩) (HS.out.r 2 m (by omega) hmn).1 (.int .i64 y)
                      have s1 := HS.out.put (s := 0) (i := x) (j := m) (by omega) hxn y
                      have s2 := s1.put (s := 1) (i := x) (j := tn) (by omega) hxn y
                      have oc : ∀ {s q a : Nat} {W : World} {F' : Nat → Nat → Nat → Int}, Sq wq.heap.size W n n G B F' → s < 3 → q < n → a < n → W.cell? ⟨B s q, a, none⟩ = some (.int .i64 (F' s q a)) ∧ W.frozen? ⟨B s q, a, none⟩ = false := fun hq h3 hqi hai => ⟨(hq.r _ _ h3 hqi).2.cell (by unfold ints rowF; rw [List.getElem?_map, List.getElem?_map, List.getElem?_range hai]; rfl), (hq.r _ _ h3 hqi).2.frozen _⟩
                      obtain ⟨p1, f1⟩ := oc (s := 0) (q := x) (a := m) HS.out (by omega) hxn hmn
                      obtain ⟨p2, f2⟩ := oc (s := 1) (q := x) (a := tn) s1 (by omega) hxn htni
                      obtain ⟨p3, f3⟩ := oc (s := 2) (q := m) (a := x) s2 (by omega) hmn hxn
                      have p1' : wr.drew.cell? ⟨B 0 x, m, none⟩ = some (.int .i64 (F 0 x m)) := p1
                      have f1' : wr.drew.frozen? ⟨B 0 x, m, none⟩ = false := f1
                      have HCC : Hid (wr.drew.cell? ⟨G 0, x, none⟩ = some (.slice (some ⟨B 0 x, 0, none⟩) n n) ∧ wr.drew.cell? ⟨G 1, x, none⟩ = some (.slice (some ⟨B 1 x, 0, none⟩) n n) ∧ wr.drew.cell? ⟨gT, m, none⟩ = some (.int .i64 (tn : Int)) ∧ wr.drew.cell? ⟨G 2, m, none⟩ = some (.slice (some ⟨B 2 m, 0, none⟩) n n)) := Lib.hid ⟨(HS.out.g 0 (by omega)).2.cell (outL_at (B 0) hxn (Nat.le_refl _)), (HS.out.g 1 (by omega)).2.cell (outL_at (B 1) hxn (Nat.le_refl _)), hcT, (HS.out.g 2 (by omega)).2.cell (outL_at (B 2) hmn (Nat.le_refl _))⟩
                      have HN3 := Lib.hid hn3
                      have HB3 := Lib.hid hb3
                      have hd3 := HDN.out.step HOK.out hmn
                      rw [htn2, ← hy] at hd3
                      have HD3 := Lib.hid hd3
                      have HF3 := Lib.hid (put3_in (n := x) (m := m) (t := tn) HFB.out hyb)
                      clear hn3 hb3 s1 s2 oc hd3 hyb hcT htn2
                      by_cases hin : pk + m < len1
                      · have hinz : decide ((pk : Int) + (m : Int) < (len1 : Int)) = true := decide_eq_true (by omega)
                        have r0 : (0 : Int) ≤ (pk : Int) + (m : Int) := by omega
                        have r1 : (pk : Int) + (m : Int) < (len1 : Int) := by omega
                        have r2 : ((pk : Int) + (m : Int)).toNat = pk + m := by omega
                        obtain ⟨ad, z, rfl, hz, hzi, hcz⟩ := (HN1.out.keep (Keeps.of_below (HBQ.out.trans (HBR.out.mono HBQ.out.size)))).at_ hin
                        have HWX := Lib.hid (fun W => mwithin z 100 W hzi (by omega) (by omega))
                        have hey : z % 100 = y := by rw [hy, HEN.out]; dsimp only; rw [← HPK.out, hz]
                        rw [hey] at HWX
                        clear hz hzi hey hy
                        go_wp2_with fail
                        refine (HWX.out wr).mono ?_
                        rintro e w'' ⟨rfl, rfl⟩
                        go_wp2_with fail
                        as_aux_lemma =>
                          refine region_P (S := fun W => W.cell? ⟨G 0, x, none⟩ = some (.slice (some ⟨B 0 x, 0, none⟩) n n) ∧ W.cell? ⟨G 1, x, none⟩ = some (.slice (some ⟨B 1 x, 0, none⟩) n n) ∧ W.cell? ⟨gT, m, none⟩ = some (.int .i64 (tn : Int)) ∧ W.cell? ⟨G 2, m, none⟩ = some (.slice (some ⟨B 2 m, 0, none⟩) n n)) (kill := [22, 24, 26]) (by kernel_rfl) HCC.out (fun hHeld => ?_)
                          refine anyP_pure (i := 0) (v := ?vx0) rfl (by kernel_rfl) (by kernel_rfl) (by kernel_rfl) (by kernel_rfl) (fun _ _ _ h => h) (Or.inl ⟨by rfl, ?yx0⟩) ?rx0
                          case yx0 => (intro W hW; go_simp; first | done | with_reducible rfl)
                          try simp only [List.getElem_toArray, List.getElem_cons_zero, Act.put, List.setIfInBounds_toArray, List.set_cons_zero, List.set_cons_succ]
                          refine anyP_pure (i := 1) (v := ?vx1) rfl (by kernel_rfl) (by kernel_rfl) (by kernel_rfl) (by kernel_rfl) (fun _ _ _ h => h) (Or.inl ⟨by rfl, ?yx1⟩) ?rx1
                          case yx1 => (intro W hW; go_simp; first | done | with_reducible rfl)
                          try simp only [List.getElem_toArray, List.getElem_cons_succ, List.getElem_cons_zero, Act.put, List.setIfInBounds_toArray, List.set_cons_zero, List.set_cons_succ]
                          refine anyP_pure (i := 2) (v := ?vx2) rfl (by kernel_rfl) (by kernel_rfl) (by kernel_rfl) (by kernel_rfl) (fun _ _ _ h => h) (Or.inl ⟨by rfl, ?yx2⟩) ?rx2
                          case yx2 => (intro W hW; go_simp; first | done | with_reducible rfl)
                          try simp only [List.getElem_toArray, List.getElem_cons_succ, List.getElem_cons_zero, Act.put, List.setIfInBounds_toArray, List.set_cons_zero, List.set_cons_succ]
                          refine anyP_take (i := 3) (v := ?vx3) rfl (by kernel_rfl) (by kernel_rfl) (by kernel_rfl) (by kernel_rfl) (by kernel_rfl) (fun _ _ _ h => h) (Or.inl ⟨by rfl, ?yx3⟩) hHeld ?rx3
                          case yx3 => (intro W hW; obtain ⟨hA, hB, hC, hD⟩ := hW; go_simp; first | done | with_reducible rfl)
                          try simp only [List.getElem_toArray, List.getElem_cons_succ, List.getElem_cons_zero, Act.put, List.setIfInBounds_toArray, List.set_cons_zero, List.set_cons_succ]
                          refine anyP_pure (i := 4) (v := ?vx4) rfl (by kernel_rfl) (by kernel_rfl) (by kernel_rfl) (by kernel_rfl) (fun _ _ _ h => h) (Or.inl ⟨by rfl, ?yx4⟩) ?rx4
                          case yx4 => (intro W hW; go_simp; first | done | with_reducible rfl)
                          try simp only [List.getElem_toArray, List.getElem_cons_succ, List.getElem_cons_zero, Act.put, List.setIfInBounds_toArray, List.set_cons_zero, List.set_cons_succ]
                          refine anyP_pure (i := 5) (v := ?vx5) rfl (by kernel_rfl) (by kernel_rfl) (by kernel_rfl) (by kernel_rfl) (fun _ _ _ h => h) (Or.inl ⟨by rfl, ?yx5⟩) ?rx5
                          case yx5 => (intro W hW; go_simp; first | done | with_reducible rfl)
                          try simp only [List.getElem_toArray, List.getElem_cons_succ, List.getElem_cons_zero, Act.put, List.setIfInBounds_toArray, List.set_cons_zero, List.set_cons_succ]
                          refine anyP_pure (i := 6) (v := ?vx6) rfl (by kernel_rfl) (by kernel_rfl) (by kernel_rfl) (by kernel_rfl) (fun _ _ _ h => h) (Or.inl ⟨by rfl, ?yx6⟩) ?rx6
                          case yx6 => (intro W hW; go_simp; first | done | with_reducible rfl)
                          try simp only [List.getElem_toArray, List.getElem_cons_succ, List.getElem_cons_zero, Act.put, List.setIfInBounds_toArray, List.set_cons_zero, List.set_cons_succ]
                          refine anyP_pure (i := 7) (v := ?vx7) rfl (by kernel_rfl) (by kernel_rfl) (by kernel_rfl) (by kernel_rfl) (fun _ _ _ h => h) (Or.inl ⟨by rfl, ?yx7⟩) ?rx7
                          case yx7 => (intro W hW; go_simp; first | done | with_reducible rfl)
                          try simp only [List.getElem_toArray, List.getElem_cons_succ, List.getElem_cons_zero, Act.put, List.setIfInBounds_toArray, List.set_cons_zero, List.set_cons_succ]
                          refine anyP_take (i := 8) (v := ?vx8) rfl (by kernel_rfl) (by kernel_rfl) (by kernel_rfl) (by kernel_rfl) (by kernel_rfl) (fun _ _ _ h => h) (Or.inl ⟨by rfl, ?yx8⟩) hHeld ?rx8
                          case yx8 => (intro W hW; obtain ⟨hA, hB, hC, hD⟩ := hW; go_simp; first | done | with_reducible rfl)
                          try simp only [List.getElem_toArray, List.getElem_cons_succ, List.getElem_cons_zero, Act.put, List.setIfInBounds_toArray, List.set_cons_zero, List.set_cons_succ]
                          refine anyP_pure (i := 9) (v := ?vx9) rfl (by kernel_rfl) (by kernel_rfl) (by kernel_rfl) (by kernel_rfl) (fun _ _ _ h => h) (Or.inl ⟨by rfl, ?yx9⟩) ?rx9
                          case yx9 => (intro W hW; go_simp; first | done | with_reducible rfl)
                          try simp only [List.getElem_toArray, List.getElem_cons_succ, List.getElem_cons_zero, Act.put, List.setIfInBounds_toArray, List.set_cons_zero, List.set_cons_succ]
                          refine anyP_pure (i := 10) (v := ?vx10) rfl (by kernel_rfl) (by kernel_rfl) (by kernel_rfl) (by kernel_rfl) (fun _ _ _ h => h) (Or.inl ⟨by rfl, ?yx10⟩) ?rx10
                          case yx10 => (intro W hW; go_simp; first | done | with_reducible rfl)
                          try simp only [List.getElem_toArray, List.getElem_cons_succ, List.getElem_cons_zero, Act.put, List.setIfInBounds_toArray, List.set_cons_zero, List.set_cons_succ]
                          refine anyP_pure (i := 11) (v := ?vx11) rfl (by kernel_rfl) (by kernel_rfl) (by kernel_rfl) (by kernel_rfl) (fun _ _ _ h => h) (Or.inl ⟨by rfl, ?yx11⟩) ?rx11
                          case yx11 => (intro W hW; go_simp; first | done | with_reducible rfl)
                          try simp only [List.getElem_toArray, List.getElem_cons_succ, List.getElem_cons_zero, Act.put, List.setIfInBounds_toArray, List.set_cons_zero, List.set_cons_succ]
                          refine anyP_take (i := 12) (v := ?vx12) rfl (by kernel_rfl) (by kernel_rfl) (by kernel_rfl) (by kernel_rfl) (by kernel_rfl) (fun _ _ _ h => h) (Or.inl ⟨by rfl, ?yx12⟩) hHeld ?rx12
                          case yx12 => (intro W hW; obtain ⟨hA, hB, hC, hD⟩ := hW; go_simp; first | done | with_reducible rfl)
                          try simp only [List.getElem_toArray, List.getElem_cons_succ, List.getElem_cons_zero, Act.put, List.setIfInBounds_toArray, List.set_cons_zero, List.set_cons_succ]
                          refine anyP_pure (i := 13) (v := ?vx13) rfl (by kernel_rfl) (by kernel_rfl) (by kernel_rfl) (by kernel_rfl) (fun _ _ _ h => h) (Or.inl ⟨by rfl, ?yx13⟩) ?rx13
                          case yx13 => (intro W hW; go_simp; first | done | with_reducible rfl)
                          try simp only [List.getElem_toArray, List.getElem_cons_succ, List.getElem_cons_zero, Act.put, List.setIfInBounds_toArray, List.set_cons_zero, List.set_cons_succ]
                          refine anyP_pure (i := 14) (v := ?vx14) rfl (by kernel_rfl) (by kernel_rfl) (by kernel_rfl) (by kernel_rfl) (fun _ _ _ h => h) (Or.inl ⟨by rfl, ?yx14⟩) ?rx14
                          case yx14 => (intro W hW; go_simp; first | done | with_reducible rfl)
                          try simp only [List.getElem_toArray, List.getElem_cons_succ, List.getElem_cons_zero, Act.put, List.setIfInBounds_toArray, List.set_cons_zero, List.set_cons_succ]
                          refine anyP_pure (i := 15) (v := ?vx15) rfl (by kernel_rfl) (by kernel_rfl) (by kernel_rfl) (by kernel_rfl) (fun _ _ _ h => h) (Or.inl ⟨by rfl, ?yx15⟩) ?rx15
                          case yx15 => (intro W hW; go_simp; first | done | with_reducible rfl)
                          try simp only [List.getElem_toArray, List.getElem_cons_succ, List.getElem_cons_zero, Act.put, List.setIfInBounds_toArray, List.set_cons_zero, List.set_cons_succ]
                          refine anyP_take (i := 16) (v := ?vx16) rfl (by kernel_rfl) (by kernel_rfl) (by kernel_rfl) (by kernel_rfl) (by kernel_rfl) (fun _ _ _ h => h) (Or.inl ⟨by rfl, ?yx16⟩) hHeld ?rx16
                          case yx16 => (intro W hW; obtain ⟨hA, hB, hC, hD⟩ := hW; go_simp; first | done | with_reducible rfl)
                          try simp only [List.getElem_toArray, List.getElem_cons_succ, List.getElem_cons_zero, Act.put, List.setIfInBounds_toArray, List.set_cons_zero, List.set_cons_succ]
                          refine anyP_pure (i := 17) (v := ?vx17) rfl (by kernel_rfl) (by kernel_rfl) (by kernel_rfl) (by kernel_rfl) (fun _ _ _ h => h) (Or.inl ⟨by rfl, ?yx17⟩) ?rx17
                          case yx17 => (intro W hW; go_simp; first | done | with_reducible rfl)
                          try simp only [List.getElem_toArray, List.getElem_cons_succ, List.getElem_cons_zero, Act.put, List.setIfInBounds_toArray, List.set_cons_zero, List.set_cons_succ]
                          refine anyP_pure (i := 18) (v := ?vx18) rfl (by kernel_rfl) (by kernel_rfl) (by kernel_rfl) (by kernel_rfl) (fun _ _ _ h => h) (Or.inl ⟨by rfl, ?yx18⟩) ?rx18
                          case yx18 => (intro W hW; go_simp; first | done | with_reducible rfl)
                          try simp only [List.getElem_toArray, List.getElem_cons_succ, List.getElem_cons_zero, Act.put, List.setIfInBounds_toArray, List.set_cons_zero, List.set_cons_succ]
                          refine anyP_pure (i := 19) (v := ?vx19) rfl (by kernel_rfl) (by kernel_rfl) (by kernel_rfl) (by kernel_rfl) (fun _ _ _ h => h) (Or.inl ⟨by rfl, ?yx19⟩) ?rx19
                          case yx19 => (intro W hW; go_simp; first | done | with_reducible rfl)
                          try simp only [List.getElem_toArray, List.getElem_cons_succ, List.getElem_cons_zero, Act.put, List.setIfInBounds_toArray, List.set_cons_zero, List.set_cons_succ]
                          refine anyP_pure (i := 20) (v := ?vx20) rfl (by kernel_rfl) (by kernel_rfl) (by kernel_rfl) (by kernel_rfl) (fun _ _ _ h => h) (Or.inl ⟨by rfl, ?yx20⟩) ?rx20
                          case yx20 => (intro W hW; go_simp; first | done | with_reducible rfl)
                          try simp only [List.getElem_toArray, List.getElem_cons_succ, List.getElem_cons_zero, Act.put, List.setIfInBounds_toArray, List.set_cons_zero, List.set_cons_succ]
                          refine anyP_pure (i := 21) (v := ?vx21) rfl (by kernel_rfl) (by kernel_rfl) (by kernel_rfl) (by kernel_rfl) (fun _ _ _ h => h) (Or.inl ⟨by rfl, ?yx21⟩) ?rx21
                          case yx21 => (intro W hW; go_simp; first | done | with_reducible rfl)
                          try simp only [List.getElem_toArray, List.getElem_cons_succ, List.getElem_cons_zero, Act.put, List.setIfInBounds_toArray, List.set_cons_zero, List.set_cons_succ]
                          refine anyP_ready (rs := [22]) (by kernel_rfl) (by simp) ?_
                          refine AllP.cons rfl (fun K hK => ?_) (AllP.nil)
                          go_simp
                          refine hK.out _ _ (fun h => absurd (by decide) h) ?_
                          clear hK K
                          try simp only [List.getElem_toArray, List.getElem_cons_succ, List.getElem_cons_zero, Act.put, List.setIfInBounds_toArray, List.set_cons_zero, List.set_cons_succ]
                          refine anyP_pure (i := 23) (v := ?vx23) rfl (by kernel_rfl) (by kernel_rfl) (by kernel_rfl) (by kernel_rfl) (fun _ _ _ h => h) (Or.inl ⟨by rfl, ?yx23⟩) ?rx23
                          case yx23 => (intro W hW; go_simp; first | done | with_reducible rfl)
                          try simp only [List.getElem_toArray, List.getElem_cons_succ, List.getElem_cons_zero, Act.put, List.setIfInBounds_toArray, List.set_cons_zero, List.set_cons_succ]
                          refine anyP_ready (rs := [24]) (by kernel_rfl) (by simp) ?_
                          refine AllP.cons rfl (fun K hK => ?_) (AllP.nil)
                          go_simp
                          refine hK.out _ _ (fun h => absurd (by decide) h) ?_
                          clear hK K
                          try simp only [List.getElem_toArray, List.getElem_cons_succ, List.getElem_cons_zero, Act.put, List.setIfInBounds_toArray, List.set_cons_zero, List.set_cons_succ]
                          refine anyP_pure (i := 25) (v := ?vx25) rfl (by kernel_rfl) (by kernel_rfl) (by kernel_rfl) (by kernel_rfl) (fun _ _ _ h => h) (Or.inl ⟨by rfl, ?yx25⟩) ?rx25
                          case yx25 => (intro W hW; go_simp; first | done | with_reducible rfl)
                          try simp only [List.getElem_toArray, List.getElem_cons_succ, List.getElem_cons_zero, Act.put, List.setIfInBounds_toArray, List.set_cons_zero, List.set_cons_succ]
                          refine anyP_ready (rs := [26]) (by kernel_rfl) (by simp) ?_
                          refine AllP.cons rfl (fun K hK => ?_) (AllP.nil)
                          go_simp
                          refine hK.out _ _ (fun h => absurd (by decide) h) ?_
                          clear hK K
                          try simp only [List.getElem_toArray, List.getElem_cons_succ, List.getElem_cons_zero, Act.put, List.setIfInBounds_toArray, List.set_cons_zero, List.set_cons_succ]
                          refine anyP_done (by kernel_rfl) ?_ _
                          go_wp2_with fail
                          go_roundw
                          case rel => exact ⟨m + 1, _, by go_num, by omega, HN3.out.below (Below.refl _ _).drew, HD3.out, HF3.out, HB3.out.drew⟩
                          case measure => simp [intOf]; omega
                      · have hinz : decide ((pk : Int) + (m : Int) < (len1 : Int)) = false := decide_eq_false (by omega)
                        have hz : zs[pk + m]? = none := List.getElem?_eq_none (by rw [HZL.out]; omega)
                        have hey : (x : Int) + (m : Int) = y := by rw [hy, HEN.out]; dsimp only; rw [← HPK.out, hz]
                        clear hz hy
                        go_wp2_with fail
                        as_aux_lemma =>
                          refine region_P (S := fun W => W.cell? ⟨G 0, x, none⟩ = some (.slice (some ⟨B 0 x, 0, none⟩) n n) ∧ W.cell? ⟨G 1, x, none⟩ = some (.slice (some ⟨B 1 x, 0, none⟩) n n) ∧ W.cell? ⟨gT, m, none⟩ = some (.int .i64 (tn : Int)) ∧ W.cell? ⟨G 2, m, none⟩ = some (.slice (some ⟨B 2 m, 0, none⟩) n n)) (kill := [22, 24, 26]) (by kernel_rfl) HCC.out (fun hHeld => ?_)
                          refine anyP_pure (i := 0) (v := ?vy0) rfl (by kernel_rfl) (by kernel_rfl) (by kernel_rfl) (by kernel_rfl) (fun _ _ _ h => h) (Or.inl ⟨by rfl, ?yy0⟩) ?ry0
                          case yy0 => (intro W hW; go_simp; first | done | with_reducible rfl)
                          try simp only [List.getElem_toArray, List.getElem_cons_zero, Act.put, List.setIfInBounds_toArray, List.set_cons_zero, List.set_cons_succ]
                          refine anyP_pure (i := 1) (v := ?vy1) rfl (by kernel_rfl) (by kernel_rfl) (by kernel_rfl) (by kernel_rfl) (fun _ _ _ h => h) (Or.inl ⟨by rfl, ?yy1⟩) ?ry1
                          case yy1 => (intro W hW; go_simp; first | done | with_reducible rfl)
                          try simp only [List.getElem_toArray, List.getElem_cons_succ, List.getElem_cons_zero, Act.put, List.setIfInBounds_toArray, List.set_cons_zero, List.set_cons_succ]
                          refine anyP_pure (i := 2) (v := ?vy2) rfl (by kernel_rfl) (by kernel_rfl) (by kernel_rfl) (by kernel_rfl) (fun _ _ _ h => h) (Or.inl ⟨by rfl, ?yy2⟩) ?ry2
                          case yy2 => (intro W hW; go_simp; first | done | with_reducible rfl)
                          try simp only [List.getElem_toArray, List.getElem_cons_succ, List.getElem_cons_zero, Act.put, List.setIfInBounds_toArray, List.set_cons_zero, List.set_cons_succ]
                          refine anyP_take (i := 3) (v := ?vy3) rfl (by kernel_rfl) (by kernel_rfl) (by kernel_rfl) (by kernel_rfl) (by kernel_rfl) (fun _ _ _ h => h) (Or.inl ⟨by rfl, ?yy3⟩) hHeld ?ry3
                          case yy3 => (intro W hW; obtain ⟨hA, hB, hC, hD⟩ := hW; go_simp; first | done | with_reducible rfl)
                          try simp only [List.getElem_toArray, List.getElem_cons_succ, List.getElem_cons_zero, Act.put, List.setIfInBounds_toArray, List.set_cons_zero, List.set_cons_succ]
                          refine anyP_pure (i := 4) (v := ?vy4) rfl (by kernel_rfl) (by kernel_rfl) (by kernel_rfl) (by kernel_rfl) (fun _ _ _ h => h) (Or.inl ⟨by rfl, ?yy4⟩) ?ry4
                          case yy4 => (intro W hW; go_simp; first | done | with_reducible rfl)
                          try simp only [List.getElem_toArray, List.getElem_cons_succ, List.getElem_cons_zero, Act.put, List.setIfInBounds_toArray, List.set_cons_zero, List.set_cons_succ]
                          refine anyP_pure (i := 5) (v := ?vy5) rfl (by kernel_rfl) (by kernel_rfl) (by kernel_rfl) (by kernel_rfl) (fun _ _ _ h => h) (Or.inl ⟨by rfl, ?yy5⟩) ?ry5
                          case yy5 => (intro W hW; go_simp; first | done | with_reducible rfl)
                          try simp only [List.getElem_toArray, List.getElem_cons_succ, List.getElem_cons_zero, Act.put, List.setIfInBounds_toArray, List.set_cons_zero, List.set_cons_succ]
                          refine anyP_pure (i := 6) (v := ?vy6) rfl (by kernel_rfl) (by kernel_rfl) (by kernel_rfl) (by kernel_rfl) (fun _ _ _ h => h) (Or.inl ⟨by rfl, ?yy6⟩) ?ry6
                          case yy6 => (intro W hW; go_simp; first | done | with_reducible rfl)
                          try simp only [List.getElem_toArray, List.getElem_cons_succ, List.getElem_cons_zero, Act.put, List.setIfInBounds_toArray, List.set_cons_zero, List.set_cons_succ]
                          refine anyP_pure (i := 7) (v := ?vy7) rfl (by kernel_rfl) (by kernel_rfl) (by kernel_rfl) (by kernel_rfl) (fun _ _ _ h => h) (Or.inl ⟨by rfl, ?yy7⟩) ?ry7
                          case yy7 => (intro W hW; go_simp; first | done | with_reducible rfl)
                          try simp only [List.getElem_toArray, List.getElem_cons_succ, List.getElem_cons_zero, Act.put, List.setIfInBounds_toArray, List.set_cons_zero, List.set_cons_succ]
                          refine anyP_take (i := 8) (v := ?vy8) rfl (by kernel_rfl) (by kernel_rfl) (by kernel_rfl) (by kernel_rfl) (by kernel_rfl) (fun _ _ _ h => h) (Or.inl ⟨by rfl, ?yy8⟩) hHeld ?ry8
                          case yy8 => (intro W hW; obtain ⟨hA, hB, hC, hD⟩ := hW; go_simp; first | done | with_reducible rfl)
                          try simp only [List.getElem_toArray, List.getElem_cons_succ, List.getElem_cons_zero, Act.put, List.setIfInBounds_toArray, List.set_cons_zero, List.set_cons_succ]
                          refine anyP_pure (i := 9) (v := ?vy9) rfl (by kernel_rfl) (by kernel_rfl) (by kernel_rfl) (by kernel_rfl) (fun _ _ _ h => h) (Or.inl ⟨by rfl, ?yy9⟩) ?ry9
                          case yy9 => (intro W hW; go_simp; first | done | with_reducible rfl)
                          try simp only [List.getElem_toArray, List.getElem_cons_succ, List.getElem_cons_zero, Act.put, List.setIfInBounds_toArray, List.set_cons_zero, List.set_cons_succ]
                          refine anyP_pure (i := 10) (v := ?vy10) rfl (by kernel_rfl) (by kernel_rfl) (by kernel_rfl) (by kernel_rfl) (fun _ _ _ h => h) (Or.inl ⟨by rfl, ?yy10⟩) ?ry10
                          case yy10 => (intro W hW; go_simp; first | done | with_reducible rfl)
                          try simp only [List.getElem_toArray, List.getElem_cons_succ, List.getElem_cons_zero, Act.put, List.setIfInBounds_toArray, List.set_cons_zero, List.set_cons_succ]
                          refine anyP_pure (i := 11) (v := ?vy11) rfl (by kernel_rfl) (by kernel_rfl) (by kernel_rfl) (by kernel_rfl) (fun _ _ _ h => h) (Or.inl ⟨by rfl, ?yy11⟩) ?ry11
                          case yy11 => (intro W hW; go_simp; first | done | with_reducible rfl)
                          try simp only [List.getElem_toArray, List.getElem_cons_succ, List.getElem_cons_zero, Act.put, List.setIfInBounds_toArray, List.set_cons_zero, List.set_cons_succ]
                          refine anyP_take (i := 12) (v := ?vy12) rfl (by kernel_rfl) (by kernel_rfl) (by kernel_rfl) (by kernel_rfl) (by kernel_rfl) (fun _ _ _ h => h) (Or.inl ⟨by rfl, ?yy12⟩) hHeld ?ry12
                          case yy12 => (intro W hW; obtain ⟨hA, hB, hC, hD⟩ := hW; go_simp; first | done | with_reducible rfl)
                          try simp only [List.getElem_toArray, List.getElem_cons_succ, List.getElem_cons_zero, Act.put, List.setIfInBounds_toArray, List.set_cons_zero, List.set_cons_succ]
                          refine anyP_pure (i := 13) (v := ?vy13) rfl (by kernel_rfl) (by kernel_rfl) (by kernel_rfl) (by kernel_rfl) (fun _ _ _ h => h) (Or.inl ⟨by rfl, ?yy13⟩) ?ry13
                          case yy13 => (intro W hW; go_simp; first | done | with_reducible rfl)
                          try simp only [List.getElem_toArray, List.getElem_cons_succ, List.getElem_cons_zero, Act.put, List.setIfInBounds_toArray, List.set_cons_zero, List.set_cons_succ]
                          refine anyP_pure (i := 14) (v := ?vy14) rfl (by kernel_rfl) (by kernel_rfl) (by kernel_rfl) (by kernel_rfl) (fun _ _ _ h => h) (Or.inl ⟨by rfl, ?yy14⟩) ?ry14
                          case yy14 => (intro W hW; go_simp; first | done | with_reducible rfl)
                          try simp only [List.getElem_toArray, List.getElem_cons_succ, List.getElem_cons_zero, Act.put, List.setIfInBounds_toArray, List.set_cons_zero, List.set_cons_succ]
                          refine anyP_pure (i := 15) (v := ?vy15) rfl (by kernel_rfl) (by kernel_rfl) (by kernel_rfl) (by kernel_rfl) (fun _ _ _ h => h) (Or.inl ⟨by rfl, ?yy15⟩) ?ry15
                          case yy15 => (intro W hW; go_simp; first | done | with_reducible rfl)
                          try simp only [List.getElem_toArray, List.getElem_cons_succ, List.getElem_cons_zero, Act.put, List.setIfInBounds_toArray, List.set_cons_zero, List.set_cons_succ]
                          refine anyP_take (i := 16) (v := ?vy16) rfl (by kernel_rfl) (by kernel_rfl) (by kernel_rfl) (by kernel_rfl) (by kernel_rfl) (fun _ _ _ h => h) (Or.inl ⟨by rfl, ?yy16⟩) hHeld ?ry16
                          case yy16 => (intro W hW; obtain ⟨hA, hB, hC, hD⟩ := hW; go_simp; first | done | with_reducible rfl)
                          try simp only [List.getElem_toArray, List.getElem_cons_succ, List.getElem_cons_zero, Act.put, List.setIfInBounds_toArray, List.set_cons_zero, List.set_cons_succ]
                          refine anyP_pure (i := 17) (v := ?vy17) rfl (by kernel_rfl) (by kernel_rfl) (by kernel_rfl) (by kernel_rfl) (fun _ _ _ h => h) (Or.inl ⟨by rfl, ?yy17⟩) ?ry17
                          case yy17 => (intro W hW; go_simp; first | done | with_reducible rfl)
                          try simp only [List.getElem_toArray, List.getElem_cons_succ, List.getElem_cons_zero, Act.put, List.setIfInBounds_toArray, List.set_cons_zero, List.set_cons_succ]
                          refine anyP_pure (i := 18) (v := ?vy18) rfl (by kernel_rfl) (by kernel_rfl) (by kernel_rfl) (by kernel_rfl) (fun _ _ _ h => h) (Or.inl ⟨by rfl, ?yy18⟩) ?ry18
                          case yy18 => (intro W hW; go_simp; first | done | with_reducible rfl)
                          try simp only [List.getElem_toArray, List.getElem_cons_succ, List.getElem_cons_zero, Act.put, List.setIfInBounds_toArray, List.set_cons_zero, List.set_cons_succ]
                          refine anyP_pure (i := 19) (v := ?vy19) rfl (by kernel_rfl) (by kernel_rfl) (by kernel_rfl) (by kernel_rfl) (fun _ _ _ h => h) (Or.inl ⟨by rfl, ?yy19⟩) ?ry19
                          case yy19 => (intro W hW; go_simp; first | done | with_reducible rfl)
                          try simp only [List.getElem_toArray, List.getElem_cons_succ, List.getElem_cons_zero, Act.put, List.setIfInBounds_toArray, List.set_cons_zero, List.set_cons_succ]
                          refine anyP_pure (i := 20) (v := ?vy20) rfl (by kernel_rfl) (by kernel_rfl) (by kernel_rfl) (by kernel_rfl) (fun _ _ _ h => h) (Or.inl ⟨by rfl, ?yy20⟩) ?ry20
                          case yy20 => (intro W hW; go_simp; first | done | with_reducible rfl)
                          try simp only [List.getElem_toArray, List.getElem_cons_succ, List.getElem_cons_zero, Act.put, List.setIfInBounds_toArray, List.set_cons_zero, List.set_cons_succ]
                          refine anyP_pure (i := 21) (v := ?vy21) rfl (by kernel_rfl) (by kernel_rfl) (by kernel_rfl) (by kernel_rfl) (fun _ _ _ h => h) (Or.inl ⟨by rfl, ?yy21⟩) ?ry21
                          case yy21 => (intro W hW; go_simp; first | done | with_reducible rfl)
                          try simp only [List.getElem_toArray, List.getElem_cons_succ, List.getElem_cons_zero, Act.put, List.setIfInBounds_toArray, List.set_cons_zero, List.set_cons_succ]
                          refine anyP_ready (rs := [22]) (by kernel_rfl) (by simp) ?_
                          refine AllP.cons rfl (fun K hK => ?_) (AllP.nil)
                          go_simp
                          refine hK.out _ _ (fun h => absurd (by decide) h) ?_
                          clear hK K
                          try simp only [List.getElem_toArray, List.getElem_cons_succ, List.getElem_cons_zero, Act.put, List.setIfInBounds_toArray, List.set_cons_zero, List.set_cons_succ]
                          refine anyP_pure (i := 23) (v := ?vy23) rfl (by kernel_rfl) (by kernel_rfl) (by kernel_rfl) (by kernel_rfl) (fun _ _ _ h => h) (Or.inl ⟨by rfl, ?yy23⟩) ?ry23
                          case yy23 => (intro W hW; go_simp; first | done | with_reducible rfl)
                          try simp only [List.getElem_toArray, List.getElem_cons_succ, List.getElem_cons_zero, Act.put, List.setIfInBounds_toArray, List.set_cons_zero, List.set_cons_succ]
                          refine anyP_ready (rs := [24]) (by kernel_rfl) (by simp) ?_
                          refine AllP.cons rfl (fun K hK => ?_) (AllP.nil)
                          go_simp
                          refine hK.out _ _ (fun h => absurd (by decide) h) ?_
                          clear hK K
                          try simp only [List.getElem_toArray, List.getElem_cons_succ, List.getElem_cons_zero, Act.put, List.setIfInBounds_toArray, List.set_cons_zero, List.set_cons_succ]
                          refine anyP_pure (i := 25) (v := ?vy25) rfl (by kernel_rfl) (by kernel_rfl) (by kernel_rfl) (by kernel_rfl) (fun _ _ _ h => h) (Or.inl ⟨by rfl, ?yy25⟩) ?ry25
                          case yy25 => (intro W hW; go_simp; first | done | with_reducible rfl)
                          try simp only [List.getElem_toArray, List.getElem_cons_succ, List.getElem_cons_zero, Act.put, List.setIfInBounds_toArray, List.set_cons_zero, List.set_cons_succ]
                          refine anyP_ready (rs := [26]) (by kernel_rfl) (by simp) ?_
                          refine AllP.cons rfl (fun K hK => ?_) (AllP.nil)
                          go_simp
                          refine hK.out _ _ (fun h => absurd (by decide) h) ?_
                          clear hK K
                          try simp only [List.getElem_toArray, List.getElem_cons_succ, List.getElem_cons_zero, Act.put, List.setIfInBounds_toArray, List.set_cons_zero, List.set_cons_succ]
                          refine anyP_done (by kernel_rfl) ?_ _
                          go_wp2_with fail
                          go_roundw
                          case rel => exact ⟨m + 1, _, by go_num, by omega, HN3.out.below (Below.refl _ _).drew, HD3.out, HF3.out, HB3.out.drew⟩
                          case measure => simp [intOf]; omega
                    · obtain rfl : m = n := by omega
                      have hmm : decide ((m : Int) < (m : Int)) = false := by simp
                      go_wp2_with fail
                      go_roundw
                      case rel => exact ⟨x + 1, F, by go_num, by omega, HS.out, fun a b ha hb h => HDN.out a b ha hb (by omega), HFB.out, HBR.out⟩
                      case measure => simp [intOf]; omega
                · obtain rfl : x = n := by omega
                  have hxx : decide ((x : Int) < (x : Int)) = false := by simp
                  as_aux_lemma =>
                    obtain ⟨d0, d1, d2, e1, e2⟩ := HDN.out.all HOK.out (by omega) HFB.out
                    have hik : ∀ s a b, inK .i64 (F s a b) := fun s a b => by have := HFB.out s a b; constructor <;> omega
                    have mt := fun s hs => HS.out.mat (s := s) hs (hik s)
                    have hrl : ∀ (f : Nat → Nat → Int), ∀ r ∈ matF x f, r.length ≤ 1000000 := fun f r hr => by rw [matF_row r hr]; omega
                    obtain ⟨M0, hM0⟩ : ∃ M, M = matF x (F 0) := ⟨_, rfl⟩
                    obtain ⟨M1, hM1⟩ : ∃ M, M = matF x (F 1) := ⟨_, rfl⟩
                    obtain ⟨M2, hM2⟩ : ∃ M, M = matF x (F 2) := ⟨_, rfl⟩
                    have mt0 := mt 0 (by omega)
                    have mt1 := mt 1 (by omega)
                    have mt2 := mt 2 (by omega)
                    have rl0 := hrl (F 0)
                    have rl1 := hrl (F 1)
                    have rl2 := hrl (F 2)
                    rw [← hM0] at mt0 rl0 d0 e1 e2
                    rw [← hM1] at mt1 rl1 d1 e1
                    rw [← hM2] at mt2 rl2 d2 e2
                    obtain ⟨tt, htt⟩ : ∃ tt, tt = totL M0 := ⟨_, rfl⟩
                    have hA0 := fun W hW => assign_any (some ⟨G 0, 0, none⟩) x x M0 W hW (by omega) rl0
                    have hA1 := fun W hW => assign_any (some ⟨G 1, 0, none⟩) x x M1 W hW (by omega) rl1
                    have hA2 := fun W hW => assign_any (some ⟨G 2, 0, none⟩) x x M2 W hW (by omega) rl2
                    have hR0 := fun W hW => rAssign_any (some ⟨G 0, 0, none⟩) x x M0 W hW (by omega) rl0
                    rw [d0, ← htt] at hA0 hR0
                    rw [d1, e1, ← htt] at hA1
                    rw [d2, e2, ← htt] at hA2
                    have HA0 := Lib.hid hA0
                    have HA1 := Lib.hid hA1
                    have HA2 := Lib.hid hA2
                    have HR0 := Lib.hid hR0
                    have HM0 := Lib.hid mt0
                    have HM1 := Lib.hid mt1
                    have HM2 := Lib.hid mt2
                    have HBW := Lib.hid (HBQ.out.trans (HBR.out.mono HBQ.out.size))
                    have ett : (tt == tt) = true := by simp
                    clear d0 d1 d2 e1 e2 hik mt hrl hM0 hM1 hM2 mt0 mt1 mt2 rl0 rl1 rl2 htt hA0 hA1 hA2 hR0 HS HDN HFB HBR HEN HEB HO2 HOK HN1
                    go_wp2_with fail
                    refine (HA0.out wr HM0.out).mono ?_
                    rintro e w3 ⟨v1, rfl, ho1, hb⟩
                    have HB3 := Lib.hid (HBW.out.trans (hb.mono HBW.out.size))
                    have HM0' := Lib.hid (HM0.out.keep (Keeps.of_below hb))
                    have HM1' := Lib.hid (HM1.out.keep (Keeps.of_below hb))
                    have HM2' := Lib.hid (HM2.out.keep (Keeps.of_below hb))
                    obtain ⟨P1, c1, rfl, -⟩ := ho1.form
                    clear hb ho1 HM0 HM1 HM2
                    go_wp2_with fail
                    refine (HA1.out w3 HM1'.out).mono ?_
                    rintro e w4 ⟨v2, rfl, ho1, hb⟩
                    have HB4 := Lib.hid (HB3.out.trans (hb.mono HB3.out.size))
                    have HM0 := Lib.hid (HM0'.out.keep (Keeps.of_below hb))
                    have HM2 := Lib.hid (HM2'.out.keep (Keeps.of_below hb))
                    obtain ⟨P2, c2, rfl, -⟩ := ho1.form
                    clear hb ho1 HM0' HM1' HM2' HB3
                    go_wp2_with fail
                    refine (HA2.out w4 HM2.out).mono ?_
                    rintro e w5 ⟨v3, rfl, ho1, hb⟩
                    have HB5 := Lib.hid (HB4.out.trans (hb.mono HB4.out.size))
                    have HM0' := Lib.hid (HM0.out.keep (Keeps.of_below hb))
                    obtain ⟨P3, c3, rfl, -⟩ := ho1.form
                    clear hb ho1 HM0 HM2 HB4
                    go_wp2_with fail
                    refine (HR0.out w5 HM0'.out).mono ?_
                    rintro e w6 ⟨v4, rfl, ho1, hb⟩
                    have HB6 := Lib.hid (HB5.out.trans (hb.mono HB5.out.size))
                    obtain ⟨P4, c4, rfl, -⟩ := ho1.form
                    clear hb ho1 HM0' HB5
                    go_wp2
                    go_ret
                    exact ⟨rfl, HB6.out⟩
end Go.Proofs.Ytnjalnnbdmmcmaa
