/- The law MatchErrs. -/
import Derived.Test.YtimffjonhoplpaaMatL
import Derived.Test.YtimffjonhoplpaaErrP
import Derived.Deep.LoopGhost
import Derived.Deep.CutBlock
import Derived.Deep.CutRange
import Derived.Deep.DeepCutAuto
import Derived.StillTailTactics
import Derived.Test.YtimffjonhoplpaaMatR3
import Derived.Test.YtimffjonhoplpaaRints
namespace Go.Proofs.Ytimffjonhoplpaa
open Go.RowKit Go.Shelf
attribute [local go_sem] Oper.semAt_some
set_option maxRecDepth 100000 in
set_option maxHeartbeats 8000000 in
theorem matchErrs_walk (a0 : Option Addr) (n0 c0 : Nat) (M0 : List (List Int)) (a1 a2 : Int) (a3 : Option Addr) (len3 cap3 : Nat) (z3 : List Int) (a4 a5 : Int) (w : World) (hM0 : Mat w a0 n0 M0) (h1 : inK .i64 a1) (h2 : inK .i64 a2) (w3 : IsRow .i64 w a3 len3 cap3 z3) (h4 : inK .i64 a4) (h5 : inK .i64 a5) :
    Calls Try.prog 5 #[.slice a0 n0 c0, .int .i64 a1, .int .i64 a2, .slice a3 len3 cap3, .int .i64 a4, .int .i64 a5] w fun e w' => e = .returned (.bool true) ∧ Below w.heap.size w w' := by
  have hnz := w3.nums.1
  have HNZ := Lib.hid hnz
  have HM0 := Lib.hid hM0
  clear w3 hnz hM0
  have HW1 := Lib.hid (fun W => mwithin a1 4 W h1 (by omega) (by omega))
  have HW4 := Lib.hid (fun W => mwithin a4 5 W h4 (by omega) (by omega))
  have HW5 := Lib.hid (fun W => mwithin a5 4 W h5 (by omega) (by omega))
  have HW6 := Lib.hid (fun W => mwithin a5 3 W h5 (by omega) (by omega))
  obtain ⟨q, hq⟩ : ∃ q, q = a1 % 4 := ⟨_, rfl⟩
  rw [← hq] at HW1
  have q0 : 0 ≤ q := by omega
  have q1 : q ≤ 3 := by omega
  have hwr : IntKind.i64.wrap (1 + q) = 1 + q := IntWalk.i64_in _ (by omega)
  obtain ⟨n, hn⟩ : ∃ n : Nat, n = ((1 + q) % 6).toNat := ⟨_, rfl⟩
  obtain ⟨m, hm⟩ : ∃ m : Nat, m = ((1 + q) % 6).toNat + (a2 % 5).toNat := ⟨_, rfl⟩
  have n1 : 1 ≤ n := by omega
  have n4 : n ≤ 4 := by omega
  have m1 : 1 ≤ m := by omega
  have m8 : m ≤ 8 := by omega
  have m0n : 0 < m := by omega
  have n0n : 0 < n := by omega
  have hrow := fun r hr => (matC_row (zs := z3.take len3) (sp := 9) (m := m) (n := n) r hr).1
  have hML := matC_len (z3.take len3) 9 m n
  have hCO := fun W hW => costs_any (1 + q) a2 9 a3 len3 cap3 (z3.take len3) W (by constructor <;> omega) h2 (by constructor <;> omega) hW
  obtain ⟨M, hM⟩ : ∃ M, M = matC (z3.take len3) 9 m n := ⟨_, rfl⟩
  rw [← hm, ← hn, ← hM] at hCO
  rw [← hM] at hrow hML
  have HCO := Lib.hid hCO
  have HR := Lib.hid hrow
  have HML := Lib.hid hML
  clear hCO hrow hM hn hm hML hq
  go_enter Try.func5, Try.ntmps5
  go_wp2_with fail
  refine (known9_any w).mono ?_
  rintro e w1 ⟨rfl, hb1⟩
  have HB1 := Lib.hid hb1
  have hz1 := hb1.size
  clear hb1
  by_cases h20 : 20 < n0
  · have h20z : (20 : Int) < (n0 : Int) := by omega
    have h20d : decide ((20 : Int) < (n0 : Int)) = true := decide_eq_true h20z
    go_wp2
    go_ret
    exact ⟨rfl, HB1.out⟩
  · have h20z : ¬ (20 : Int) < (n0 : Int) := by omega
    have h20d : decide ((20 : Int) < (n0 : Int)) = false := decide_eq_false h20z
    go_wp2
    go_loopw [13] (fun p wr => ∃ i : Nat, p = .int .i64 i ∧ i ≤ n0 ∧ (∀ (j : Nat) r, j < i → M0[j]? = some r → r.length ≤ 20) ∧ Below w.heap.size w wr) (fun p _ => n0 - (intOf p).toNat)
    case atStart => exact ⟨0, rfl, Nat.zero_le _, fun j r h => absurd h (by omega), HB1.out⟩
    case round =>
      obtain ⟨i, rfl, hi, hall, hb⟩ := hrel
      clear HB1 hz1
      rename World => wr
      have HA := Lib.hid hall
      have HB := Lib.hid hb
      clear hall hb
      by_cases hlt : i < n0
      · have hltz : (i : Int) < (n0 : Int) := by omega
        have i0 : (0 : Int) ≤ (i : Int) := by omega
        obtain ⟨ad, r, B, d, rfl, hr, hcr, -⟩ := (HM0.out.keep (Keeps.of_below HB.out)).at_ hlt
        have HRR := Lib.hid hr
        clear hr
        by_cases hr20 : 20 < r.length
        · have hrz : (20 : Int) < (r.length : Int) := by omega
          have hrd : decide ((20 : Int) < (r.length : Int)) = true := decide_eq_true hrz
          go_wp2
          go_ret
          exact ⟨rfl, HB.out⟩
        · have hrz : ¬ (20 : Int) < (r.length : Int) := by omega
          have hrd : decide ((20 : Int) < (r.length : Int)) = false := decide_eq_false hrz
          go_wp2
          go_roundw
          case rel =>
            refine ⟨i + 1, by go_num, by omega, fun j r' hj hr' => ?_, HB.out⟩
            by_cases hji : j = i
            · subst hji
              obtain rfl : r = r' := Option.some.inj (HRR.out.symm.trans hr')
              omega
            · exact HA.out j r' (by omega) hr'
          case measure => simp [intOf]; omega
      · obtain rfl : i = n0 := by omega
        have hii : decide ((i : Int) < (i : Int)) = false := by simp
        have hall0 : ∀ r ∈ M0, r.length ≤ 1000000 := fun r hr => by
          obtain ⟨j, hj⟩ := List.mem_iff_getElem?.1 hr
          have := HA.out j r (by have := (List.getElem?_eq_some_iff.1 hj).1; rw [HM0.out.1] at this; exact this) hj
          omega
        have HA0 := Lib.hid hall0
        clear hall0 HA
        go_wp2_with fail
        refine (HW1.out wr).mono ?_
        rintro e w' ⟨rfl, rfl⟩
        go_wp2_with fail
        refine (HCO.out wr (HNZ.out.keep (Keeps.of_below HB.out))).mono ?_
        rintro e w2 ⟨vc, usc, rfl, hom, hb2⟩
        have HB2 := Lib.hid (HB.out.trans (hb2.mono HB.out.size))
        have hz2 := HB.out.size
        obtain ⟨r0, hr0⟩ : ∃ r0, M[0]? = some r0 := ⟨_, List.getElem?_eq_getElem (by rw [HML.out]; omega)⟩
        obtain ⟨go, co, u0, rfl, hgo, hgol, hu0, hcu0, hfu0, -, -⟩ := hom.at_ hr0
        rw [HML.out] at hom ⊢
        have HOM := Lib.hid hom
        have hws := hb2.size
        have hn0 : (0 : Int) < (n : Int) := by omega
        have hn0d : decide ((0 : Int) < (n : Int)) = true := decide_eq_true hn0
        clear hb2 hom HNZ HCO HW1
        go_upto_if 53 with fail
        go_cut [14, 15] (fun s14 s15 wx => ∃ A n c M', s14 = .slice A n c ∧ Mat wx A n M' ∧ n ≤ 1000000 ∧ (∀ r ∈ M', r.length ≤ 1000000) ∧ Below w.heap.size w wx)
        case first =>
          have h5c : a4 % 5 = 0 ∨ a4 % 5 = 1 ∨ a4 % 5 = 2 ∨ a4 % 5 = 3 ∨ a4 % 5 = 4 := by omega
          have hla : ∀ r ∈ M, r.length ≤ 1000000 := fun r hr => by rw [HR.out r hr]; omega
          have HLA := Lib.hid hla
          clear hla
          rcases h5c with h | h | h | h | h
          · rw [h] at HW4
            clear h HW5 HW6
            have hr0l := HR.out r0 (List.mem_of_getElem? hr0)
            have hu0r := HOM.out.row 0 u0 r0 hu0 hr0
            obtain ⟨P0, d0, rfl, -⟩ := hu0r.form
            obtain ⟨g', c', wp, hrun, hom', hbp, hcp, hfp⟩ := om_push (x := 1) HOM.out hu0 hr0 (by rw [HML.out]) (by constructor <;> omega) (by omega) hws hgo
            rw [hr0l] at hrun hom' hbp hcu0 hcp
            have HO' := Lib.hid hom'
            have HB' := Lib.hid (HB2.out.trans (hbp.mono hz2))
            have Hrun := Lib.hid hrun
            clear hom' hbp hu0r hrun
            go_wp2_with fail
            refine (HW4.out w2).mono ?_
            rintro e w' ⟨rfl, rfl⟩
            go_wp2_with (at_builtin; have _t := Hrun; refine wpList_append_eq rfl (.tmp 61) (.tmp 62) 22 rfl _ _ _ _ rfl rfl Hrun.out ?_; clear _t Hrun)
            go_meet
            obtain ⟨A9, c9, e9, hm9⟩ := HO'.out.mat
            rw [List.length_set, HML.out] at e9 hm9
            injection e9 with e9
            subst e9
            exact ⟨_, n, _, _, rfl, hm9, by omega, fun r' hr' => by
              rcases set_mem hr' with h | rfl
              · exact HLA.out r' h
              · rw [List.length_append, hr0l]; simp; omega, HB'.out⟩
          · rw [h] at HW4
            clear h HW6
            obtain ⟨k, hk⟩ : ∃ k : Nat, a5 % 4 = (k : Int) := ⟨(a5 % 4).toNat, by omega⟩
            have hk4 : k < 4 := by omega
            rw [hk] at HW5
            obtain ⟨nl, hnl⟩ : ∃ nl, n = nl + 1 := ⟨n - 1, by omega⟩
            have hsub : IntKind.i64.wrap ((n : Int) - 1) = (nl : Int) := by rw [IntWalk.i64_in _ (by omega)]; omega
            have nl0 : (0 : Int) ≤ (nl : Int) := by omega
            have nlz : (nl : Int) < (n : Int) := by omega
            have m0 : (0 : Int) < (m : Int) := by omega
            obtain ⟨r, hr⟩ : ∃ r, M[nl]? = some r := ⟨_, List.getElem?_eq_getElem (by rw [HML.out]; omega)⟩
            have hrl := HR.out r (List.mem_of_getElem? hr)
            obtain ⟨go', co', ur, e2, -, -, hur, hcu, -, hoi, -⟩ := HOM.out.at_ hr
            rw [HML.out] at e2
            injection e2 with e3 e9 e10
            injection e3 with e3
            injection e3 with e3
            subst e3
            clear e9 e10
            obtain ⟨y, hy⟩ : ∃ y, r[0]? = some y := ⟨_, List.getElem?_eq_getElem (by omega)⟩
            obtain ⟨gr, cr, rfl, hgr, hgrl, hcy, hfy⟩ := hoi.cell hy
            rw [hrl] at hur hcu
            have hxs : ∀ x ∈ [(-1 : Int), 1000000, 1000001, a5], inK .i64 x := by
              intro x hx
              simp only [List.mem_cons, List.not_mem_nil, or_false] at hx
              rcases hx with rfl | rfl | rfl | rfl
              · constructor <;> omega
              · constructor <;> omega
              · constructor <;> omega
              · exact h5
            obtain ⟨ad, z, e4, hzk, hzi, hcz⟩ := (nums_box w2.drew 3 [-1, 1000000, 1000001, a5] hxs).at_ hk4
            injection e4 with e4
            subst e4
            rw [add0] at hcz
            have hcd : w2.drew.cell? ⟨go, nl, none⟩ = some (.slice (some ⟨gr, 0, none⟩) m cr) := hcu
            have hba : Below w.heap.size w2 (w2.drew.alloc (.cells #[.int .i64 (-1), .int .i64 1000000, .int .i64 1000001, .int .i64 a5] 3)) := (Below.refl _ w2).drew.alloc HB2.out.size _
            have hbb : Below w2.heap.size w2 (w2.drew.alloc (.cells #[.int .i64 (-1), .int .i64 1000000, .int .i64 1000001, .int .i64 a5] 3)) := (Below.refl _ w2).drew.alloc (Nat.le_refl _) _
            have homl := HOM.out.below hbb
            have hcl1 : (w2.drew.alloc (.cells #[.int .i64 (-1), .int .i64 1000000, .int .i64 1000001, .int .i64 a5] 3)).cell? ⟨go, nl, none⟩ = some (.slice (some ⟨gr, 0, none⟩) m cr) := Keeps.of_below hbb _ _ hcd
            have hcl2 : (w2.drew.alloc (.cells #[.int .i64 (-1), .int .i64 1000000, .int .i64 1000001, .int .i64 a5] 3)).cell? ⟨gr, 0, none⟩ = some (.int .i64 y) := Keeps.of_below hbb _ _ hcy
            have hcl3 : (w2.drew.alloc (.cells #[.int .i64 (-1), .int .i64 1000000, .int .i64 1000001, .int .i64 a5] 3)).frozen? ⟨gr, 0, none⟩ = false := by
              have e5 : (w2.drew.alloc (.cells #[.int .i64 (-1), .int .i64 1000000, .int .i64 1000001, .int .i64 a5] 3)).frozen? ⟨gr, 0, none⟩ = w2.frozen? ⟨gr, 0, none⟩ := by
                simp only [World.frozen?]
                rw [hbb.block gr hgrl]
              rw [e5]; exact hfy
            have hcm2 : (w2.alloc (.cells #[.int .i64 (-1), .int .i64 1000000, .int .i64 1000001, .int .i64 a5] 3)).cell? ⟨gr, 0, none⟩ = some (.int .i64 y) := hcl2
            have hcm3 : (w2.alloc (.cells #[.int .i64 (-1), .int .i64 1000000, .int .i64 1000001, .int .i64 a5] 3)).frozen? ⟨gr, 0, none⟩ = false := hcl3
            have hput := homl.put (i := nl) (j := 0) (g := gr) (c := cr) (r := r) (by rw [hrl]; exact hur) hr z hzi
            obtain ⟨A9, c9, e9, hm9⟩ := hput.mat
            rw [List.length_set, HML.out] at e9 hm9
            injection e9 with e9
            subst e9
            have HFIN := Lib.hid hm9
            have HLF : Hid (∀ r' ∈ M.set nl (r.set 0 z), r'.length ≤ 1000000) := Lib.hid (fun r' hr' => by
              rcases set_mem hr' with h | rfl
              · exact HLA.out r' h
              · rw [List.length_set, hrl]; omega)
            have HBF := Lib.hid ((HB2.out.trans hba).setCell (p := ⟨gr, 0, none⟩) (Nat.le_trans hz2 hgr) (.int .i64 z))
            have hvm : [Value.int .i64 (-1), Value.int .i64 1000000, Value.int .i64 1000001, Value.int .i64 a5][k]? = some (.int .i64 z) := by
              have e6 : ([(-1 : Int), 1000000, 1000001, a5].map (Value.int .i64))[k]? = some (.int .i64 z) := by rw [List.getElem?_map, hzk]; rfl
              exact e6
            obtain ⟨hkl, hvk⟩ := List.getElem?_eq_some_iff.1 hvm
            have k0 : (0 : Int) ≤ (k : Int) := by omega
            have k4 : (k : Int) < 4 := by omega
            clear hk hvm hzk hnl hr hrl hur hcu hoi hy hcy hfy hxs hcz hcl2 hcl3 hba hbb homl hput hm9 hgr hgrl
            go_wp2_with fail
            refine (HW4.out w2).mono ?_
            rintro e w' ⟨rfl, rfl⟩
            go_wp2_with fail
            refine region_P (S := fun W => W.cell? ⟨go, nl, none⟩ = some (.slice (some ⟨gr, 0, none⟩) m cr)) (kill := [13]) (by kernel_rfl) hcd (fun hHeld => ?_)
            refine anyP_pure (i := 0) (v := ?vf0) rfl (by kernel_rfl) (by kernel_rfl) (by kernel_rfl) (by kernel_rfl) (fun _ _ _ h => h) (Or.inl ⟨by rfl, ?yf0⟩) ?rf0
            case yf0 => (intro W hW; go_simp; first | done | with_reducible rfl)
            try simp only [List.getElem_toArray, List.getElem_cons_zero, Act.put, List.setIfInBounds_toArray, List.set_cons_zero, List.set_cons_succ]
            refine anyP_pure (i := 1) (v := ?vf1) rfl (by kernel_rfl) (by kernel_rfl) (by kernel_rfl) (by kernel_rfl) (fun _ _ _ h => h) (Or.inl ⟨by rfl, ?yf1⟩) ?rf1
            case yf1 => (intro W hW; go_simp; first | done | with_reducible rfl)
            try simp only [List.getElem_toArray, List.getElem_cons_succ, List.getElem_cons_zero, Act.put, List.setIfInBounds_toArray, List.set_cons_zero, List.set_cons_succ]
            refine anyP_pure (i := 2) (v := ?vf2) rfl (by kernel_rfl) (by kernel_rfl) (by kernel_rfl) (by kernel_rfl) (fun _ _ _ h => h) (Or.inl ⟨by rfl, ?yf2⟩) ?rf2
            case yf2 => (intro W hW; go_simp; first | done | with_reducible rfl)
            try simp only [List.getElem_toArray, List.getElem_cons_succ, List.getElem_cons_zero, Act.put, List.setIfInBounds_toArray, List.set_cons_zero, List.set_cons_succ]
            refine anyP_pure (i := 3) (v := ?vf3) rfl (by kernel_rfl) (by kernel_rfl) (by kernel_rfl) (by kernel_rfl) (fun _ _ _ h => h) (Or.inl ⟨by rfl, ?yf3⟩) ?rf3
            case yf3 => (intro W hW; go_simp; first | done | with_reducible rfl)
            try simp only [List.getElem_toArray, List.getElem_cons_succ, List.getElem_cons_zero, Act.put, List.setIfInBounds_toArray, List.set_cons_zero, List.set_cons_succ]
            refine anyP_pure (i := 4) (v := ?vf4) rfl (by kernel_rfl) (by kernel_rfl) (by kernel_rfl) (by kernel_rfl) (fun _ _ _ h => h) (Or.inl ⟨by rfl, ?yf4⟩) ?rf4
            case yf4 => (intro W hW; go_simp; first | done | with_reducible rfl)
            try simp only [List.getElem_toArray, List.getElem_cons_succ, List.getElem_cons_zero, Act.put, List.setIfInBounds_toArray, List.set_cons_zero, List.set_cons_succ]
            refine anyP_take (i := 5) (v := ?vf5) rfl (by kernel_rfl) (by kernel_rfl) (by kernel_rfl) (by kernel_rfl) (by kernel_rfl) (fun _ _ _ h => h) (Or.inl ⟨by rfl, ?yf5⟩) hHeld ?rf5
            case yf5 => (intro W hW; go_simp; first | done | with_reducible rfl)
            try simp only [List.getElem_toArray, List.getElem_cons_succ, List.getElem_cons_zero, Act.put, List.setIfInBounds_toArray, List.set_cons_zero, List.set_cons_succ]
            refine anyP_pure (i := 6) (v := ?vf6) rfl (by kernel_rfl) (by kernel_rfl) (by kernel_rfl) (by kernel_rfl) (fun _ _ _ h => h) (Or.inl ⟨by rfl, ?yf6⟩) ?rf6
            case yf6 => (intro W hW; go_simp; first | done | with_reducible rfl)
            try simp only [List.getElem_toArray, List.getElem_cons_succ, List.getElem_cons_zero, Act.put, List.setIfInBounds_toArray, List.set_cons_zero, List.set_cons_succ]
            refine anyP_pure (i := 8) (v := ?vf8) rfl (by kernel_rfl) (by kernel_rfl) (by kernel_rfl) (by kernel_rfl) (fun _ _ _ h => h) (Or.inl ⟨by rfl, ?yf8⟩) ?rf8
            case yf8 => (intro W hW; go_simp; first | done | with_reducible rfl)
            try simp only [List.getElem_toArray, List.getElem_cons_succ, List.getElem_cons_zero, Act.put, List.setIfInBounds_toArray, List.set_cons_zero, List.set_cons_succ]
            refine anyP_ready (rs := [7, 9]) (by kernel_rfl) (by simp) ?_
            refine AllP.cons rfl (fun K hK => ?oa) (AllP.cons rfl (fun K hK => ?ob) (AllP.nil))
            case oa =>
              go_simp
              refine hK.out _ _ (fun _ _ => hcl1) ?_
              clear hK K
              try simp only [List.getElem_toArray, List.getElem_cons_succ, List.getElem_cons_zero, Act.put, List.setIfInBounds_toArray, List.set_cons_zero, List.set_cons_succ]
              refine anyP_ready (rs := [9]) (by kernel_rfl) (by simp) ?_
              refine AllP.cons rfl (fun K hK => ?_) (AllP.nil)
              go_simp
              refine (HW5.out _).mono ?_
              rintro e w' ⟨rfl, rfl⟩
              refine hK.out _ _ (fun _ _ => hcl1) ?_
              clear hK K
              try simp only [List.getElem_toArray, List.getElem_cons_succ, List.getElem_cons_zero, Act.put, List.setIfInBounds_toArray, List.set_cons_zero, List.set_cons_succ]
              refine anyP_pure (i := 10) (v := ?vg10) rfl (by kernel_rfl) (by kernel_rfl) (by kernel_rfl) (by kernel_rfl) (fun _ _ _ h => h) (Or.inl ⟨by rfl, ?yg10⟩) ?rg10
              case yg10 => (intro W hW; go_simp; first | done | with_reducible rfl)
              try simp only [List.getElem_toArray, List.getElem_cons_succ, List.getElem_cons_zero, Act.put, List.setIfInBounds_toArray, List.set_cons_zero, List.set_cons_succ]
              refine anyP_ready (rs := [11]) (by kernel_rfl) (by simp) ?_
              refine AllP.cons rfl (fun K hK => ?_) (AllP.nil)
              go_simp
              try simp only [List.getElem_toArray, hvk]
              refine hK.out _ _ (fun _ _ => hcl1) ?_
              clear hK K
              try simp only [List.getElem_toArray, List.getElem_cons_succ, List.getElem_cons_zero, Act.put, List.setIfInBounds_toArray, List.set_cons_zero, List.set_cons_succ]
              refine anyP_pure (i := 12) (v := ?vg12) rfl (by kernel_rfl) (by kernel_rfl) (by kernel_rfl) (by kernel_rfl) (fun _ _ _ h => h) (Or.inl ⟨by rfl, ?yg12⟩) ?rg12
              case yg12 => (intro W hW; go_simp; first | done | with_reducible rfl)
              try simp only [List.getElem_toArray, List.getElem_cons_succ, List.getElem_cons_zero, Act.put, List.setIfInBounds_toArray, List.set_cons_zero, List.set_cons_succ]
              refine anyP_ready (rs := [13]) (by kernel_rfl) (by simp) ?_
              refine AllP.cons rfl (fun K hK => ?_) (AllP.nil)
              go_simp
              try simp only [hvk]
              try go_simp
              refine hK.out _ _ (fun h => absurd (by decide) h) ?_
              clear hK K
              try simp only [List.getElem_toArray, List.getElem_cons_succ, List.getElem_cons_zero, Act.put, List.setIfInBounds_toArray, List.set_cons_zero, List.set_cons_succ]
              refine anyP_done (by kernel_rfl) ?_ _
              go_wp2_with fail
              go_meet
              exact ⟨_, n, _, _, rfl, HFIN.out, by omega, HLF.out, HBF.out⟩
            case ob =>
              go_simp
              refine (HW5.out _).mono ?_
              rintro e w' ⟨rfl, rfl⟩
              refine hK.out _ _ (fun _ _ => hcd) ?_
              clear hK K
              try simp only [List.getElem_toArray, List.getElem_cons_succ, List.getElem_cons_zero, Act.put, List.setIfInBounds_toArray, List.set_cons_zero, List.set_cons_succ]
              refine anyP_ready (rs := [7]) (by kernel_rfl) (by simp) ?_
              refine AllP.cons rfl (fun K hK => ?_) (AllP.nil)
              go_simp
              refine hK.out _ _ (fun _ _ => hcl1) ?_
              clear hK K
              try simp only [List.getElem_toArray, List.getElem_cons_succ, List.getElem_cons_zero, Act.put, List.setIfInBounds_toArray, List.set_cons_zero, List.set_cons_succ]
              refine anyP_pure (i := 10) (v := ?vh10) rfl (by kernel_rfl) (by kernel_rfl) (by kernel_rfl) (by kernel_rfl) (fun _ _ _ h => h) (Or.inl ⟨by rfl, ?yh10⟩) ?rh10
              case yh10 => (intro W hW; go_simp; first | done | with_reducible rfl)
              try simp only [List.getElem_toArray, List.getElem_cons_succ, List.getElem_cons_zero, Act.put, List.setIfInBounds_toArray, List.set_cons_zero, List.set_cons_succ]
              refine anyP_ready (rs := [11]) (by kernel_rfl) (by simp) ?_
              refine AllP.cons rfl (fun K hK => ?_) (AllP.nil)
              go_simp
              try simp only [List.getElem_toArray, hvk]
              refine hK.out _ _ (fun _ _ => hcl1) ?_
              clear hK K
              try simp only [List.getElem_toArray, List.getElem_cons_succ, List.getElem_cons_zero, Act.put, List.setIfInBounds_toArray, List.set_cons_zero, List.set_cons_succ]
              refine anyP_pure (i := 12) (v := ?vh12) rfl (by kernel_rfl) (by kernel_rfl) (by kernel_rfl) (by kernel_rfl) (fun _ _ _ h => h) (Or.inl ⟨by rfl, ?yh12⟩) ?rh12
              case yh12 => (intro W hW; go_simp; first | done | with_reducible rfl)
              try simp only [List.getElem_toArray, List.getElem_cons_succ, List.getElem_cons_zero, Act.put, List.setIfInBounds_toArray, List.set_cons_zero, List.set_cons_succ]
              refine anyP_ready (rs := [13]) (by kernel_rfl) (by simp) ?_
              refine AllP.cons rfl (fun K hK => ?_) (AllP.nil)
              go_simp
              try simp only [hvk]
              try go_simp
              refine hK.out _ _ (fun h => absurd (by decide) h) ?_
              clear hK K
              try simp only [List.getElem_toArray, List.getElem_cons_succ, List.getElem_cons_zero, Act.put, List.setIfInBounds_toArray, List.set_cons_zero, List.set_cons_succ]
              refine anyP_done (by kernel_rfl) ?_ _
              go_wp2_with fail
              go_meet
              exact ⟨_, n, _, _, rfl, HFIN.out, by omega, HLF.out, HBF.out⟩
          · rw [h] at HW4
            clear h HW5 HW6
            have hom3 := HOM.out.below (Below.refl _ w2).drew
            obtain ⟨P0, d0, rfl, -⟩ := (hom3.row 0 u0 r0 hu0 hr0).form
            have hr0l := HR.out r0 (List.mem_of_getElem? hr0)
            obtain ⟨A9, c9, wp, hrun, hmf, hbp⟩ := om_five hom3 hu0 hr0 (by rw [HML.out]; omega) hws
            rw [hr0l, HML.out] at hrun
            rw [HML.out] at hmf
            rw [hr0l] at hcu0
            have hbb : Below w2.heap.size w2 (w2.drew.alloc (.cells #[.slice P0 m d0, .slice P0 m d0, .slice P0 m d0, .slice P0 m d0, .slice P0 m d0] 22)) := (Below.refl _ w2).drew.alloc (Nat.le_refl _) _
            have hcl1 : (w2.drew.alloc (.cells #[.slice P0 m d0, .slice P0 m d0, .slice P0 m d0, .slice P0 m d0, .slice P0 m d0] 22)).cell? ⟨go, 0, none⟩ = some (.slice P0 m d0) := Keeps.of_below hbb _ _ hcu0
            have Hrun := Lib.hid hrun
            have HMF := Lib.hid hmf
            have HBF := Lib.hid (HB2.out.drew.trans (hbp.mono hz2))
            have HLF : Hid (∀ r' ∈ M ++ [r0, r0, r0, r0, r0], r'.length ≤ 1000000) := Lib.hid (fun r' hr' => by
              rcases List.mem_append.1 hr' with h | h
              · exact HLA.out r' h
              · simp at h; subst h; omega)
            clear hom3 hrun hmf hbp hfu0 hu0 hr0 hr0l hbb
            go_wp2_with fail
            refine (HW4.out w2).mono ?_
            rintro e w' ⟨rfl, rfl⟩
            go_wp2_with fail
            refine region_P (S := fun W => W.cell? ⟨go, 0, none⟩ = some (.slice P0 m d0)) (kill := [17]) (by kernel_rfl) hcu0 (fun hHeld => ?_)
            refine anyP_pure (i := 0) (v := ?vk0) rfl (by kernel_rfl) (by kernel_rfl) (by kernel_rfl) (by kernel_rfl) (fun _ _ _ h => h) (Or.inl ⟨by rfl, ?yk0⟩) ?rk0
            case yk0 => (intro W hW; go_simp; first | done | with_reducible rfl)
            try simp only [List.getElem_toArray, List.getElem_cons_zero, Act.put, List.setIfInBounds_toArray, List.set_cons_zero, List.set_cons_succ]
            refine anyP_pure (i := 1) (v := ?vk1) rfl (by kernel_rfl) (by kernel_rfl) (by kernel_rfl) (by kernel_rfl) (fun _ _ _ h => h) (Or.inl ⟨by rfl, ?yk1⟩) ?rk1
            case yk1 => (intro W hW; go_simp; first | done | with_reducible rfl)
            try simp only [List.getElem_toArray, List.getElem_cons_succ, List.getElem_cons_zero, Act.put, List.setIfInBounds_toArray, List.set_cons_zero, List.set_cons_succ]
            refine anyP_pure (i := 2) (v := ?vk2) rfl (by kernel_rfl) (by kernel_rfl) (by kernel_rfl) (by kernel_rfl) (fun _ _ _ h => h) (Or.inl ⟨by rfl, ?yk2⟩) ?rk2
            case yk2 => (intro W hW; go_simp; first | done | with_reducible rfl)
            try simp only [List.getElem_toArray, List.getElem_cons_succ, List.getElem_cons_zero, Act.put, List.setIfInBounds_toArray, List.set_cons_zero, List.set_cons_succ]
            refine anyP_take (i := 3) (v := ?vk3) rfl (by kernel_rfl) (by kernel_rfl) (by kernel_rfl) (by kernel_rfl) (by kernel_rfl) (fun _ _ _ h => h) (Or.inl ⟨by rfl, ?yk3⟩) hHeld ?rk3
            case yk3 => (intro W hW; go_simp; first | done | with_reducible rfl)
            try simp only [List.getElem_toArray, List.getElem_cons_succ, List.getElem_cons_zero, Act.put, List.setIfInBounds_toArray, List.set_cons_zero, List.set_cons_succ]
            refine anyP_pure (i := 4) (v := ?vk4) rfl (by kernel_rfl) (by kernel_rfl) (by kernel_rfl) (by kernel_rfl) (fun _ _ _ h => h) (Or.inl ⟨by rfl, ?yk4⟩) ?rk4
            case yk4 => (intro W hW; go_simp; first | done | with_reducible rfl)
            try simp only [List.getElem_toArray, List.getElem_cons_succ, List.getElem_cons_zero, Act.put, List.setIfInBounds_toArray, List.set_cons_zero, List.set_cons_succ]
            refine anyP_pure (i := 5) (v := ?vk5) rfl (by kernel_rfl) (by kernel_rfl) (by kernel_rfl) (by kernel_rfl) (fun _ _ _ h => h) (Or.inl ⟨by rfl, ?yk5⟩) ?rk5
            case yk5 => (intro W hW; go_simp; first | done | with_reducible rfl)
            try simp only [List.getElem_toArray, List.getElem_cons_succ, List.getElem_cons_zero, Act.put, List.setIfInBounds_toArray, List.set_cons_zero, List.set_cons_succ]
            refine anyP_take (i := 6) (v := ?vk6) rfl (by kernel_rfl) (by kernel_rfl) (by kernel_rfl) (by kernel_rfl) (by kernel_rfl) (fun _ _ _ h => h) (Or.inl ⟨by rfl, ?yk6⟩) hHeld ?rk6
            case yk6 => (intro W hW; go_simp; first | done | with_reducible rfl)
            try simp only [List.getElem_toArray, List.getElem_cons_succ, List.getElem_cons_zero, Act.put, List.setIfInBounds_toArray, List.set_cons_zero, List.set_cons_succ]
            refine anyP_pure (i := 7) (v := ?vk7) rfl (by kernel_rfl) (by kernel_rfl) (by kernel_rfl) (by kernel_rfl) (fun _ _ _ h => h) (Or.inl ⟨by rfl, ?yk7⟩) ?rk7
            case yk7 => (intro W hW; go_simp; first | done | with_reducible rfl)
            try simp only [List.getElem_toArray, List.getElem_cons_succ, List.getElem_cons_zero, Act.put, List.setIfInBounds_toArray, List.set_cons_zero, List.set_cons_succ]
            refine anyP_pure (i := 8) (v := ?vk8) rfl (by kernel_rfl) (by kernel_rfl) (by kernel_rfl) (by kernel_rfl) (fun _ _ _ h => h) (Or.inl ⟨by rfl, ?yk8⟩) ?rk8
            case yk8 => (intro W hW; go_simp; first | done | with_reducible rfl)
            try simp only [List.getElem_toArray, List.getElem_cons_succ, List.getElem_cons_zero, Act.put, List.setIfInBounds_toArray, List.set_cons_zero, List.set_cons_succ]
            refine anyP_take (i := 9) (v := ?vk9) rfl (by kernel_rfl) (by kernel_rfl) (by kernel_rfl) (by kernel_rfl) (by kernel_rfl) (fun _ _ _ h => h) (Or.inl ⟨by rfl, ?yk9⟩) hHeld ?rk9
            case yk9 => (intro W hW; go_simp; first | done | with_reducible rfl)
            try simp only [List.getElem_toArray, List.getElem_cons_succ, List.getElem_cons_zero, Act.put, List.setIfInBounds_toArray, List.set_cons_zero, List.set_cons_succ]
            refine anyP_pure (i := 10) (v := ?vk10) rfl (by kernel_rfl) (by kernel_rfl) (by kernel_rfl) (by kernel_rfl) (fun _ _ _ h => h) (Or.inl ⟨by rfl, ?yk10⟩) ?rk10
            case yk10 => (intro W hW; go_simp; first | done | with_reducible rfl)
            try simp only [List.getElem_toArray, List.getElem_cons_succ, List.getElem_cons_zero, Act.put, List.setIfInBounds_toArray, List.set_cons_zero, List.set_cons_succ]
            refine anyP_pure (i := 11) (v := ?vk11) rfl (by kernel_rfl) (by kernel_rfl) (by kernel_rfl) (by kernel_rfl) (fun _ _ _ h => h) (Or.inl ⟨by rfl, ?yk11⟩) ?rk11
            case yk11 => (intro W hW; go_simp; first | done | with_reducible rfl)
            try simp only [List.getElem_toArray, List.getElem_cons_succ, List.getElem_cons_zero, Act.put, List.setIfInBounds_toArray, List.set_cons_zero, List.set_cons_succ]
            refine anyP_take (i := 12) (v := ?vk12) rfl (by kernel_rfl) (by kernel_rfl) (by kernel_rfl) (by kernel_rfl) (by kernel_rfl) (fun _ _ _ h => h) (Or.inl ⟨by rfl, ?yk12⟩) hHeld ?rk12
            case yk12 => (intro W hW; go_simp; first | done | with_reducible rfl)
            try simp only [List.getElem_toArray, List.getElem_cons_succ, List.getElem_cons_zero, Act.put, List.setIfInBounds_toArray, List.set_cons_zero, List.set_cons_succ]
            refine anyP_pure (i := 13) (v := ?vk13) rfl (by kernel_rfl) (by kernel_rfl) (by kernel_rfl) (by kernel_rfl) (fun _ _ _ h => h) (Or.inl ⟨by rfl, ?yk13⟩) ?rk13
            case yk13 => (intro W hW; go_simp; first | done | with_reducible rfl)
            try simp only [List.getElem_toArray, List.getElem_cons_succ, List.getElem_cons_zero, Act.put, List.setIfInBounds_toArray, List.set_cons_zero, List.set_cons_succ]
            refine anyP_pure (i := 14) (v := ?vk14) rfl (by kernel_rfl) (by kernel_rfl) (by kernel_rfl) (by kernel_rfl) (fun _ _ _ h => h) (Or.inl ⟨by rfl, ?yk14⟩) ?rk14
            case yk14 => (intro W hW; go_simp; first | done | with_reducible rfl)
            try simp only [List.getElem_toArray, List.getElem_cons_succ, List.getElem_cons_zero, Act.put, List.setIfInBounds_toArray, List.set_cons_zero, List.set_cons_succ]
            refine anyP_take (i := 15) (v := ?vk15) rfl (by kernel_rfl) (by kernel_rfl) (by kernel_rfl) (by kernel_rfl) (by kernel_rfl) (fun _ _ _ h => h) (Or.inl ⟨by rfl, ?yk15⟩) hHeld ?rk15
            case yk15 => (intro W hW; go_simp; first | done | with_reducible rfl)
            try simp only [List.getElem_toArray, List.getElem_cons_succ, List.getElem_cons_zero, Act.put, List.setIfInBounds_toArray, List.set_cons_zero, List.set_cons_succ]
            refine anyP_ready (rs := [16]) (by kernel_rfl) (by simp) ?_
            refine AllP.cons rfl (fun K hK => ?_) (AllP.nil)
            go_simp
            refine hK.out _ _ (fun _ _ => hcl1) ?_
            clear hK K
            try simp only [List.getElem_toArray, List.getElem_cons_succ, List.getElem_cons_zero, Act.put, List.setIfInBounds_toArray, List.set_cons_zero, List.set_cons_succ]
            refine anyP_ready (rs := [17]) (by kernel_rfl) (by simp) ?_
            refine AllP.cons rfl (fun K hK => ?_) (AllP.nil)
            refine step_append_eq rfl (.tmp 82) (.tmp 98) 24 rfl _ _ _ _ rfl rfl Hrun.out ?_
            refine hK.out _ _ (fun h => absurd (by decide) h) ?_
            clear hK K
            try simp only [List.getElem_toArray, List.getElem_cons_succ, List.getElem_cons_zero, Act.put, List.setIfInBounds_toArray, List.set_cons_zero, List.set_cons_succ]
            refine anyP_pure (i := 18) (v := ?vk18) rfl (by kernel_rfl) (by kernel_rfl) (by kernel_rfl) (by kernel_rfl) (fun _ _ _ h => h) (Or.inl ⟨by rfl, ?yk18⟩) ?rk18
            case yk18 => (intro W hW; go_simp; first | done | with_reducible rfl)
            try simp only [List.getElem_toArray, List.getElem_cons_succ, List.getElem_cons_zero, Act.put, List.setIfInBounds_toArray, List.set_cons_zero, List.set_cons_succ]
            refine anyP_done (by kernel_rfl) ?_ _
            go_wp2_with fail
            go_meet
            exact ⟨_, _, _, _, rfl, HMF.out, by omega, HLF.out, HBF.out⟩
          · rw [h] at HW4
            clear h HW5
            obtain ⟨x3, hx3⟩ : ∃ x3, x3 = a5 % 3 := ⟨_, rfl⟩
            rw [← hx3] at HW6
            have x30 : 0 ≤ x3 := by omega
            have x31 : x3 ≤ 2 := by omega
            have hx11 : IntKind.i64.wrap (11 + x3) = 11 + x3 := IntWalk.i64_in _ (by omega)
            clear hx3 hu0 hr0 hcu0 hfu0
            have hgz : wr.heap.size ≤ w2.heap.size := hws
            have hww := HB.out.size
            go_wp2_with fail
            refine (HW4.out w2).mono ?_
            rintro e w' ⟨rfl, rfl⟩
            go_wp2_with fail
            go_loopg [15] 20 (fun kx s15 wx => ∃ (l : Nat) (M1 : List (List Int)) (us1 : List Value), l ≤ 14 ∧ 20 - l ≤ kx ∧ M1.length = n ∧ (∀ r ∈ M1, r.length = l) ∧ OM wr.heap.size wx (.slice (some ⟨go, 0, none⟩) n co) M1 us1 ∧ Below w.heap.size w wx ∧ wr.heap.size ≤ wx.heap.size)
            case atStart => exact ⟨m, M, _, by omega, by omega, HML.out, HR.out, HOM.out, HB2.out, hgz⟩
            case round =>
              obtain ⟨l, M1, us1, hl, hkx, hml, hrw, hom, hb, hsz⟩ := hrel
              clear HOM HB2 hws hgz
              rename World => wx
              have HOM := Lib.hid hom
              have HB2 := Lib.hid hb
              have HRW := Lib.hid hrw
              have HL1 := Lib.hid hml
              clear hom hb hrw hml
              obtain ⟨r0, hr0⟩ : ∃ r0, M1[0]? = some r0 := ⟨_, List.getElem?_eq_getElem (by rw [HL1.out]; omega)⟩
              obtain ⟨go', co', u0, e2, -, -, hu0, hcu, -, hoi, -⟩ := HOM.out.at_ hr0
              rw [HL1.out] at e2
              injection e2 with e3 e9 e10
              injection e3 with e3
              injection e3 with e3
              subst e3
              clear e9 e10
              obtain ⟨P, d, rfl, -⟩ := hoi.form
              rw [HRW.out r0 (List.mem_of_getElem? hr0)] at hcu
              have HCC : Hid (wx.drew.cell? ⟨go, 0, none⟩ = some (.slice P l d)) := Lib.hid hcu
              clear hr0 hu0 hcu hoi
              by_cases hc : (l : Int) < 11 + x3
              · have hcdd : decide ((l : Int) < 11 + x3) = true := decide_eq_true hc
                go_wp2_with fail
                refine wp_region_held_drew (S := fun W => W.cell? ⟨go, 0, none⟩ = some (.slice P l d)) (by kernel_rfl) HCC.out (fun hHeld => ?_)
                refine wpAnyH_take (i := 0) (v := ?va0) rfl (by kernel_rfl) (by kernel_rfl) (by kernel_rfl) (fun _ _ _ h => h) (Or.inl ⟨by rfl, ?ya0⟩) hHeld ?ra0
                case ya0 => (intro W hW; go_simp; first | done | with_reducible rfl)
                try simp only [List.getElem_toArray, List.getElem_cons_zero, Act.put, List.setIfInBounds_toArray, List.set_cons_zero, List.set_cons_succ]
                refine wpAnyH_take (i := 1) (v := ?va1) rfl (by kernel_rfl) (by kernel_rfl) (by kernel_rfl) (fun _ _ _ h => h) (Or.inl ⟨by rfl, ?ya1⟩) hHeld ?ra1
                case ya1 => (intro W hW; go_simp; first | done | with_reducible rfl)
                try simp only [List.getElem_toArray, List.getElem_cons_succ, List.getElem_cons_zero, Act.put, List.setIfInBounds_toArray, List.set_cons_zero, List.set_cons_succ]
                refine wpAnyH_take (i := 2) (v := ?va2) rfl (by kernel_rfl) (by kernel_rfl) (by kernel_rfl) (fun _ _ _ h => h) (Or.inl ⟨by rfl, ?ya2⟩) hHeld ?ra2
                case ya2 => (intro W hW; go_simp; first | done | with_reducible rfl)
                try simp only [List.getElem_toArray, List.getElem_cons_succ, List.getElem_cons_zero, Act.put, List.setIfInBounds_toArray, List.set_cons_zero, List.set_cons_succ]
                refine wpAnyH_take (i := 3) (v := ?va3) rfl (by kernel_rfl) (by kernel_rfl) (by kernel_rfl) (fun _ _ _ h => h) (Or.inl ⟨by rfl, ?ya3⟩) hHeld ?ra3
                case ya3 => (intro W hW; go_simp; first | done | with_reducible rfl)
                try simp only [List.getElem_toArray, List.getElem_cons_succ, List.getElem_cons_zero, Act.put, List.setIfInBounds_toArray, List.set_cons_zero, List.set_cons_succ]
                refine wpAnyH_take (i := 4) (v := ?va4) rfl (by kernel_rfl) (by kernel_rfl) (by kernel_rfl) (fun _ _ _ h => h) (Or.inl ⟨by rfl, ?ya4⟩) hHeld ?ra4
                case ya4 => (intro W hW; go_simp; first | done | with_reducible rfl)
                try simp only [List.getElem_toArray, List.getElem_cons_succ, List.getElem_cons_zero, Act.put, List.setIfInBounds_toArray, List.set_cons_zero, List.set_cons_succ]
                refine wpAnyH_ready (rs := [5]) (by kernel_rfl) (by simp) ?_
                refine AllReadyH.cons rfl (fun K hK => ?_) (AllReadyH.nil)
                go_simp
                refine (HW6.out _).mono ?_
                rintro e w' ⟨rfl, rfl⟩
                refine hK.out _ _ (HCC.out) (fun hHeld => ?_)
                clear hK K
                try simp only [List.getElem_toArray, List.getElem_cons_succ, List.getElem_cons_zero, Act.put, List.setIfInBounds_toArray, List.set_cons_zero, List.set_cons_succ]
                refine wpAnyH_take (i := 6) (v := ?va6) rfl (by kernel_rfl) (by kernel_rfl) (by kernel_rfl) (fun _ _ _ h => h) (Or.inl ⟨by rfl, ?ya6⟩) hHeld ?ra6
                case ya6 => (intro W hW; go_simp; first | done | with_reducible rfl)
                try simp only [List.getElem_toArray, List.getElem_cons_succ, List.getElem_cons_zero, Act.put, List.setIfInBounds_toArray, List.set_cons_zero, List.set_cons_succ]
                refine wpAnyH_take (i := 7) (v := ?va7) rfl (by kernel_rfl) (by kernel_rfl) (by kernel_rfl) (fun _ _ _ h => h) (Or.inl ⟨by rfl, ?ya7⟩) hHeld ?ra7
                case ya7 => (intro W hW; go_simp; first | done | with_reducible rfl)
                try simp only [List.getElem_toArray, List.getElem_cons_succ, List.getElem_cons_zero, Act.put, List.setIfInBounds_toArray, List.set_cons_zero, List.set_cons_succ]
                refine wpAnyH_done (by kernel_rfl) ?_ _
                go_wp2_with fail
                go_loopw [15] (fun p wy => ∃ (j : Nat) (M2 : List (List Int)) (us2 : List Value), p = .int .i64 j ∧ j ≤ n ∧ M2.length = n ∧ (∀ (i : Nat) r, M2[i]? = some r → r.length = if i < j then l + 1 else l) ∧ OM wr.heap.size wy (.slice (some ⟨go, 0, none⟩) n co) M2 us2 ∧ Below w.heap.size w wy ∧ wr.heap.size ≤ wy.heap.size) (fun p _ => n - (intOf p).toNat)
                case atStart => exact ⟨0, M1, us1, rfl, Nat.zero_le _, HL1.out, fun i r hr => by rw [if_neg (by omega)]; exact HRW.out r (List.mem_of_getElem? hr), HOM.out.below (Below.refl _ _).drew, HB2.out.drew, hsz⟩
                case round =>
                  obtain ⟨j, M2, us2, rfl, hj, hml, hrw, hom, hb, hsz2⟩ := hrel
                  clear HOM HB2 HRW HL1
                  rename World => wy
                  have HOM := Lib.hid hom
                  have HB2 := Lib.hid hb
                  have HRW := Lib.hid hrw
                  have HL1 := Lib.hid hml
                  clear hom hb hrw hml
                  by_cases hjn : j < n
                  · have hjz : (j : Int) < (n : Int) := by omega
                    have j0 : (0 : Int) ≤ (j : Int) := by omega
                    obtain ⟨r0, hr0⟩ : ∃ r0, M2[j]? = some r0 := ⟨_, List.getElem?_eq_getElem (by rw [HL1.out]; omega)⟩
                    obtain ⟨go', co', u0, e2, -, -, hu0, hcu, -, hoi, -⟩ := HOM.out.at_ hr0
                    rw [HL1.out] at e2
                    injection e2 with e3 e9 e10
                    injection e3 with e3
                    injection e3 with e3
                    subst e3
                    clear e9 e10
                    obtain ⟨P', d', rfl, -⟩ := hoi.form
                    have hr0l := HRW.out j r0 hr0
                    rw [if_neg (by omega)] at hr0l
                    obtain ⟨g', c', wp, hrun, hom', hbp, hcp, hfp⟩ := om_push (x := 4) HOM.out hu0 hr0 (by rw [HL1.out]) (by constructor <;> omega) (by omega) hsz2 hgo
                    rw [hr0l] at hrun hom' hbp hcu hcp
                    have HO' := Lib.hid hom'
                    have HB' := Lib.hid (HB2.out.trans (hbp.mono hww))
                    have hsz' := hbp.size
                    have Hrun := Lib.hid hrun
                    have HRW' : Hid (∀ (i : Nat) r, (M2.set j (r0 ++ [4]))[i]? = some r → r.length = if i < j + 1 then l + 1 else l) := Lib.hid (fun i r hr => by
                      by_cases hij : i = j
                      · subst hij
                        rw [List.getElem?_set_self (List.getElem?_eq_some_iff.1 hr0).1] at hr
                        injection hr with hr
                        subst hr
                        rw [if_pos (by omega), List.length_append, hr0l]; rfl
                      · rw [List.getElem?_set_ne (fun e => hij e.symm)] at hr
                        rw [HRW.out i r hr]
                        by_cases hlt : i < j
                        · rw [if_pos hlt, if_pos (by omega)]
                        · rw [if_neg hlt, if_neg (by omega)])
                    clear hrun hom' hbp hr0 hu0 hoi hr0l
                    go_wp2_with (at_builtin; have _t := Hrun; refine wpList_append_eq rfl (.tmp 121) (.tmp 122) 22 rfl _ _ _ _ rfl rfl Hrun.out ?_; clear _t Hrun)
                    go_roundw
                    case rel => exact ⟨j + 1, _, _, by go_num, by omega, by rw [List.length_set]; exact HL1.out, HRW'.out, HO'.out, HB'.out, by omega⟩
                    case measure => simp [intOf]; omega
                  · obtain rfl : j = n := by omega
                    have hjj : decide ((j : Int) < (j : Int)) = false := by simp
                    go_wp2_with fail
                    go_roundg (20 - (l + 1))
                    case measure => omega
                    case rel =>
                      exact ⟨l + 1, M2, us2, by omega, by omega, HL1.out, fun r hr => by
                        obtain ⟨i, hi⟩ := List.mem_iff_getElem?.1 hr
                        have hil : i < j := by have := (List.getElem?_eq_some_iff.1 hi).1; rwa [HL1.out] at this
                        rw [HRW.out i r hi, if_pos hil], HOM.out, HB2.out, hsz2⟩
              · have hcdd : decide ((l : Int) < 11 + x3) = false := decide_eq_false hc
                go_wp2_with fail
                refine wp_region_held_drew (S := fun W => W.cell? ⟨go, 0, none⟩ = some (.slice P l d)) (by kernel_rfl) HCC.out (fun hHeld => ?_)
                refine wpAnyH_take (i := 0) (v := ?vb0) rfl (by kernel_rfl) (by kernel_rfl) (by kernel_rfl) (fun _ _ _ h => h) (Or.inl ⟨by rfl, ?yb0⟩) hHeld ?rb0
                case yb0 => (intro W hW; go_simp; first | done | with_reducible rfl)
                try simp only [List.getElem_toArray, List.getElem_cons_zero, Act.put, List.setIfInBounds_toArray, List.set_cons_zero, List.set_cons_succ]
                refine wpAnyH_take (i := 1) (v := ?vb1) rfl (by kernel_rfl) (by kernel_rfl) (by kernel_rfl) (fun _ _ _ h => h) (Or.inl ⟨by rfl, ?yb1⟩) hHeld ?rb1
                case yb1 => (intro W hW; go_simp; first | done | with_reducible rfl)
                try simp only [List.getElem_toArray, List.getElem_cons_succ, List.getElem_cons_zero, Act.put, List.setIfInBounds_toArray, List.set_cons_zero, List.set_cons_succ]
                refine wpAnyH_take (i := 2) (v := ?vb2) rfl (by kernel_rfl) (by kernel_rfl) (by kernel_rfl) (fun _ _ _ h => h) (Or.inl ⟨by rfl, ?yb2⟩) hHeld ?rb2
                case yb2 => (intro W hW; go_simp; first | done | with_reducible rfl)
                try simp only [List.getElem_toArray, List.getElem_cons_succ, List.getElem_cons_zero, Act.put, List.setIfInBounds_toArray, List.set_cons_zero, List.set_cons_succ]
                refine wpAnyH_take (i := 3) (v := ?vb3) rfl (by kernel_rfl) (by kernel_rfl) (by kernel_rfl) (fun _ _ _ h => h) (Or.inl ⟨by rfl, ?yb3⟩) hHeld ?rb3
                case yb3 => (intro W hW; go_simp; first | done | with_reducible rfl)
                try simp only [List.getElem_toArray, List.getElem_cons_succ, List.getElem_cons_zero, Act.put, List.setIfInBounds_toArray, List.set_cons_zero, List.set_cons_succ]
                refine wpAnyH_take (i := 4) (v := ?vb4) rfl (by kernel_rfl) (by kernel_rfl) (by kernel_rfl) (fun _ _ _ h => h) (Or.inl ⟨by rfl, ?yb4⟩) hHeld ?rb4
                case yb4 => (intro W hW; go_simp; first | done | with_reducible rfl)
                try simp only [List.getElem_toArray, List.getElem_cons_succ, List.getElem_cons_zero, Act.put, List.setIfInBounds_toArray, List.set_cons_zero, List.set_cons_succ]
                refine wpAnyH_ready (rs := [5]) (by kernel_rfl) (by simp) ?_
                refine AllReadyH.cons rfl (fun K hK => ?_) (AllReadyH.nil)
                go_simp
                refine (HW6.out _).mono ?_
                rintro e w' ⟨rfl, rfl⟩
                refine hK.out _ _ (HCC.out) (fun hHeld => ?_)
                clear hK K
                try simp only [List.getElem_toArray, List.getElem_cons_succ, List.getElem_cons_zero, Act.put, List.setIfInBounds_toArray, List.set_cons_zero, List.set_cons_succ]
                refine wpAnyH_take (i := 6) (v := ?vb6) rfl (by kernel_rfl) (by kernel_rfl) (by kernel_rfl) (fun _ _ _ h => h) (Or.inl ⟨by rfl, ?yb6⟩) hHeld ?rb6
                case yb6 => (intro W hW; go_simp; first | done | with_reducible rfl)
                try simp only [List.getElem_toArray, List.getElem_cons_succ, List.getElem_cons_zero, Act.put, List.setIfInBounds_toArray, List.set_cons_zero, List.set_cons_succ]
                refine wpAnyH_take (i := 7) (v := ?vb7) rfl (by kernel_rfl) (by kernel_rfl) (by kernel_rfl) (fun _ _ _ h => h) (Or.inl ⟨by rfl, ?yb7⟩) hHeld ?rb7
                case yb7 => (intro W hW; go_simp; first | done | with_reducible rfl)
                try simp only [List.getElem_toArray, List.getElem_cons_succ, List.getElem_cons_zero, Act.put, List.setIfInBounds_toArray, List.set_cons_zero, List.set_cons_succ]
                refine wpAnyH_done (by kernel_rfl) ?_ _
                go_wp2_with fail
                go_meet
                obtain ⟨A9, c9, e9, hm9⟩ := (HOM.out.below (Below.refl _ _).drew).mat
                rw [HL1.out] at e9 hm9
                injection e9 with e9
                subst e9
                exact ⟨_, n, _, _, rfl, hm9, by omega, fun r' hr' => by rw [HRW.out r' hr']; omega, HB2.out.drew⟩
          · rw [h] at HW4
            clear h HW5 HW6
            go_wp2_with fail
            refine (HW4.out w2).mono ?_
            rintro e w' ⟨rfl, rfl⟩
            go_wp2_with fail
            go_meet
            obtain ⟨A9, c9, e9, hm9⟩ := HOM.out.mat
            rw [HML.out] at e9 hm9
            injection e9 with e9
            subst e9
            exact ⟨_, n, _, _, rfl, hm9, by omega, HLA.out, HB2.out⟩
        case rest =>
          obtain ⟨A, n', c, M', rfl, hmat, hn', hrl, hbw⟩ := hcut
          clear HB HB2 HOM hcu0 hfu0 hgol hgo hws hz2 hu0 hr0
          have HB2 := Lib.hid hbw
          have HM := Lib.hid hmat
          have HRL := Lib.hid hrl
          clear hbw hmat hrl
          obtain ⟨ok, hok⟩ : ∃ ok, ok = okM M' := ⟨_, rfl⟩
          obtain ⟨tt, htt⟩ : ∃ tt, tt = totL M' := ⟨_, rfl⟩
          obtain ⟨ok0, hok0⟩ : ∃ ok, ok = okM M0 := ⟨_, rfl⟩
          obtain ⟨tt0, htt0⟩ : ∃ tt, tt = totL M0 := ⟨_, rfl⟩
          have hA1 := fun W hW => assign_any A n' c M' W hW hn' HRL.out
          have hR1 := fun W hW => rAssign_any A n' c M' W hW hn' HRL.out
          have hA2 := fun W hW => assign_any a0 i c0 M0 W hW (by omega) HA0.out
          have hR2 := fun W hW => rAssign_any a0 i c0 M0 W hW (by omega) HA0.out
          rw [← hok, ← htt] at hA1 hR1
          rw [← hok0, ← htt0] at hA2 hR2
          have HA1 := Lib.hid hA1
          have HR1 := Lib.hid hR1
          have HA2 := Lib.hid hA2
          have HR2 := Lib.hid hR2
          have HT1 : Hid ((toL M').length ≤ 4611686018427387904) := Lib.hid (by have := toL_le M'; omega)
          have HT2 : Hid ((toL M0).length ≤ 4611686018427387904) := Lib.hid (by have := toL_le M0; omega)
          have e1 : (ok == ok) = true := by simp
          have e2 : (ok0 == ok0) = true := by simp
          have e3 : (tt == tt) = true := by simp
          have e4 : (tt0 == tt0) = true := by simp
          clear hA1 hR1 hA2 hR2 hok htt hok0 htt0 HR HML HW4 HW5 HW6 HRL HA0
          rename World => wc
          go_wp2_with fail
          refine (HA1.out wc HM.out).mono ?_
          rintro e w4 ⟨v1, rfl, ho1, hb4⟩
          have HB4 := Lib.hid (HB2.out.trans (hb4.mono HB2.out.size))
          have HM4 := Lib.hid (HM.out.keep (Keeps.of_below hb4))
          obtain ⟨P1, c1, rfl, -, -, hn1, -⟩ := ho1.form
          have HX1 := Lib.hid hn1
          clear hb4 ho1 hn1 HM HA1
          go_wp2_with fail
          refine (HR1.out w4 HM4.out).mono ?_
          rintro e w5 ⟨v2, rfl, ho2, hb5⟩
          have HB5 := Lib.hid (HB4.out.trans (hb5.mono HB4.out.size))
          have HX1' := Lib.hid (HX1.out.keep (Keeps.of_below hb5))
          obtain ⟨P2, c2, rfl, -, -, hn2, -⟩ := ho2.form
          have HX2 := Lib.hid hn2
          clear hb5 ho2 hn2 HR1 HM4 HX1 HB4
          go_wp2_with fail
          refine (HA2.out w5 (HM0.out.keep (Keeps.of_below HB5.out))).mono ?_
          rintro e w6 ⟨v3, rfl, ho3, hb6⟩
          have HB6 := Lib.hid (HB5.out.trans (hb6.mono HB5.out.size))
          have HX1 := Lib.hid (HX1'.out.keep (Keeps.of_below hb6))
          have HX2' := Lib.hid (HX2.out.keep (Keeps.of_below hb6))
          obtain ⟨P3, c3, rfl, -, -, hn3, -⟩ := ho3.form
          have HX3 := Lib.hid hn3
          clear hb6 ho3 hn3 HA2 HX1' HX2 HB5
          go_wp2_with fail
          refine (HR2.out w6 (HM0.out.keep (Keeps.of_below HB6.out))).mono ?_
          rintro e w7 ⟨v4, rfl, ho4, hb7⟩
          have HB7 := Lib.hid (HB6.out.trans (hb7.mono HB6.out.size))
          have HX1' := Lib.hid (HX1.out.keep (Keeps.of_below hb7))
          have HX2 := Lib.hid (HX2'.out.keep (Keeps.of_below hb7))
          have HX3' := Lib.hid (HX3.out.keep (Keeps.of_below hb7))
          obtain ⟨P4, c4, rfl, -, -, hn4, -⟩ := ho4.form
          have HX4 := Lib.hid hn4
          clear hb7 ho4 hn4 HR2 HX1 HX2' HX3 HB6 HM0
          go_wp2_with fail
          refine (rInts P1 P2 _ _ c1 c2 _ _ w7 HX1'.out HX2.out HT1.out).mono ?_
          rintro e w8 ⟨rfl, q8, rfl⟩
          rw [decide_eq_true rfl]
          have HX3 := Lib.hid (HX3'.out.keep ((Keeps.refl w7).drewN q8))
          have HX4' := Lib.hid (HX4.out.keep ((Keeps.refl w7).drewN q8))
          clear HX3' HX4 HX1' HX2
          go_wp2_with fail
          refine (rInts P3 P4 _ _ c3 c4 _ _ _ HX3.out HX4'.out HT2.out).mono ?_
          rintro e w9 ⟨rfl, q9, rfl⟩
          rw [decide_eq_true rfl]
          go_wp2
          go_ret
          exact ⟨rfl, below_drewN HB7.out (q8 + q9)⟩
end Go.Proofs.Ytimffjonhoplpaa
