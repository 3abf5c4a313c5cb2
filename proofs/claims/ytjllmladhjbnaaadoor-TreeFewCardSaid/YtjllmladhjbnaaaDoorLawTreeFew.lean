/- The law TreeFew. -/
import Derived.IntWalk
import Derived.Test.YtjllmladhjbnaaaDoorKn11
import Derived.Test.YtjllmladhjbnaaaDoorRlat
import Derived.Test.YtjllmladhjbnaaaDoorL8
import Derived.Test.YtjllmladhjbnaaaDoorRset
import Derived.Test.YtjllmladhjbnaaaDoorRegion
namespace Go.Proofs.YtjllmladhjbnaaaDoor
open Go.RowKit Go.Shelf
attribute [local go_sem] Oper.semAt_some
/-- The cards 2, 3, .. -/
def cF (k : Nat) : List Int := (List.range k).map fun (i : Nat) => 2 + (i : Int)
theorem cF_len (k : Nat) : (cF k).length = k := by simp [cF]
theorem cF_snoc (k : Nat) : cF (k + 1) = cF k ++ [2 + (k : Int)] := by simp [cF, List.range_succ]
theorem cF_c (k : Nat) (h : k ≤ 4) : ∀ x ∈ cF k, 1 ≤ x ∧ x ≤ 16 := by
  intro x hx
  obtain ⟨i, hi, rfl⟩ := List.mem_map.1 hx
  have := List.mem_range.1 hi
  omega
theorem cF_check : ∀ k : Fin 5, 1 ≤ k.val → checkB (cF k.val) ((0 : Nat) : Int) = true := by decide +kernel
/-- How many of the lowest dimensions a set has in a row. -/
def trl (s : Int) : Nat := if s % 2 = 0 then 0 else if s / 2 % 2 = 0 then 1 else if s / 4 % 2 = 0 then 2 else if s / 8 % 2 = 0 then 3 else 4
theorem trl_bit : ∀ s : Fin 16, trl (s.val : Int) ≤ 4 ∧ (∀ j : Fin 4, j.val < trl (s.val : Int) → (s.val : Int) / 2 ^ j.val % 2 = 1) ∧ (trl (s.val : Int) < 4 → (s.val : Int) / 2 ^ (trl (s.val : Int)) % 2 = 0) := by decide +kernel
theorem few_ok : ∀ q : Fin 5, 1 ≤ q.val → ∀ e ∈ (treeM (cF q.val) 1).tail, trl e.s < 4 ∧ e.p = bits .or .i64 e.s (wrap64 (2 ^ (trl e.s))) := by decide +kernel
set_option maxRecDepth 100000 in
set_option maxHeartbeats 8000000 in
theorem treeFew_walk (a0 : Int) (w : World) (h0 : inK .i64 a0) (hT : Tab w) (hw1 : 1 < w.heap.size) :
    Calls Tryd.prog 7 #[.int .i64 a0] w fun e w' => e = .returned (.bool true) ∧ Below w.heap.size w w' := by
  have HKn := Lib.hid (known11_any w hT hw1)
  have HT := Lib.hid hT
  clear hT
  obtain ⟨r, hr⟩ : ∃ r : Nat, a0 % 4 = (r : Int) := ⟨(a0 % 4).toNat, by omega⟩
  have hr3 : r ≤ 3 := by omega
  obtain ⟨q, hq⟩ : ∃ q : Nat, q = 1 + r := ⟨_, rfl⟩
  have q1 : 1 ≤ q := by omega
  have q4 : q ≤ 4 := by omega
  have HWI := Lib.hid (fun W => lwithin11 a0 4 W h0 (by omega) (by omega))
  rw [hr] at HWI
  have hqw : IntKind.i64.wrap (1 + (r : Int)) = (q : Int) := by rw [IntWalk.i64_in _ (by omega)]; omega
  have HQ := Lib.hid hq
  clear hr hq
  go_enter Tryd.func7, Tryd.ntmps7
  go_wp2_with fail
  refine HKn.out.mono ?_
  rintro e w1 ⟨rfl, hb1⟩
  have HB1 := Lib.hid hb1
  have hw11 : 1 < w1.heap.size := Nat.lt_of_lt_of_le hw1 hb1.size
  have HT1 := Lib.hid (HT.out.below hb1 hw1)
  clear hb1 HKn
  go_wp2_with fail
  refine (HWI.out w1).mono ?_
  rintro e w' ⟨rfl, rfl⟩
  have hbx := Box2.new w1 25 (.slice none 0 0) (.int .i64 0)
  have hbb := below_box w1 (.cells #[.slice none 0 0, .int .i64 0] 25)
  have hzz : (w1.alloc (.cells #[.slice none 0 0, .int .i64 0] 25)).heap.size = w1.heap.size + 1 := by simp
  try rw [hqw]
  go_wp2_with fail
  generalize w1.alloc (.cells #[.slice none 0 0, .int .i64 0] 25) = w2 at hbx hbb hzz ⊢
  obtain ⟨S, hS⟩ : ∃ S, S = w1.heap.size := ⟨_, rfl⟩
  rw [← hS] at hbx hbb hzz ⊢
  have HS := Lib.hid hS
  have HBB := Lib.hid hbb
  have HBX := Lib.hid hbx
  clear hS hbb hbx
  go_loopw [5] (fun i wr => ∃ k : Nat, k ≤ q ∧ i = .int .i64 k ∧ ∃ cv, Box2 25 wr S cv (.int .i64 0) ∧ OI (S + 1) wr cv (cF k) ∧ Below S w1 wr ∧ S < wr.heap.size) (fun i _ => q - (intOf i).toNat)
  case atStart => exact ⟨0, Nat.zero_le _, rfl, _, HBX.out, OI.nil _ _, HBB.out, by omega⟩
  case round =>
    obtain ⟨k, hk, rfl, cv, b1, o1, hb, hz⟩ := hrel
    rename World => wr
    have c0 := b1.cell0
    have c1 := b1.cell1
    have BX := Lib.hid b1
    have HB := Lib.hid hb
    have HO := Lib.hid o1
    clear b1 hb HBX HBB
    by_cases hlt : k < q
    · obtain ⟨v', w', hrun, ho', hgr⟩ := append_int wr (S + 1) cv (cF k) (2 + (k : Int)) wr.heap.size rfl o1.1 (by rw [cF_len]; omega) (by omega)
      have hoi : OI (S + 1) w' v' (cF (k + 1)) := by rw [cF_snoc]; exact ⟨ho', fun y hy => by rcases List.mem_append.1 hy with g | g; exact o1.2 y g; (simp only [List.mem_singleton] at g; subst g; constructor <;> omega)⟩
      obtain ⟨A', c', hv', -, -, -, -⟩ := hoi.form
      rw [cF_len] at hv'
      subst hv'
      have hg1 : Box2 25 (wr.alloc (.cells #[.int .i64 (2 + (k : Int))] 3)) S cv (.int .i64 0) := BX.out.alloc _
      have hgo := o1.1.alloc (.cells #[.int .i64 (2 + (k : Int))] 3)
      have b1' := hg1.grown hgr hgo (by decide)
      have hb' : Below S w1 (w'.setCell ⟨S, 0, none⟩ (.slice A' (k + 1) c')) := ((HB.out.alloc (by omega) _).grown hgr (by simp; omega) fun j hj => by have := (hgo.lt j hj).1; omega).setCell (p := ⟨S, 0, none⟩) (Nat.le_refl _) _
      have hend : Box2 25 (w'.setCell ⟨S, 0, none⟩ (.slice A' (k + 1) c')) S (.slice A' (k + 1) c') (.int .i64 0) ∧ OI (S + 1) (w'.setCell ⟨S, 0, none⟩ (.slice A' (k + 1) c')) (.slice A' (k + 1) c') (cF (k + 1)) ∧ Below S w1 (w'.setCell ⟨S, 0, none⟩ (.slice A' (k + 1) c')) ∧ S < (w'.setCell ⟨S, 0, none⟩ (.slice A' (k + 1) c')).heap.size := by
        refine ⟨b1'.set0 _, ⟨own_box hoi.1 b1' (by decide) _ _, hoi.2⟩, hb', ?_⟩
        have := hgr.size; simp [World.setCell]; simp at this; omega
      have E := Lib.hid hend
      have c0' := b1'.cell0
      have f0' := b1'.frozen 0
      have Hrun := Lib.hid hrun
      have k0 : (0 : Int) ≤ (k : Int) := by omega
      have k1 : (k : Int) < (q : Int) := by omega
      have hkw : IntKind.i64.wrap (2 + (k : Int)) = 2 + (k : Int) := IntWalk.i64_in _ (by omega)
      clear hrun ho' hgr hoi hg1 hgo b1' hb' hend o1
      go_wp2_with (at_builtin; have _t := Hrun; refine wpList_append_eq rfl (.tmp 21) (.tmp 24) 22 rfl _ _ _ _ rfl rfl Hrun.out ?_; clear _t Hrun)
      go_roundw
      case rel => exact ⟨k + 1, by omega, by go_num, _, E.out⟩
      case measure => simp [intOf]; omega
    · obtain rfl : k = q := by omega
      obtain ⟨A, c, hv, -, -, hn, -⟩ := o1.form
      rw [cF_len] at hv hn
      subst hv
      have hbw : Below w.heap.size w wr := HB1.out.trans (HB.out.mono (by rw [HS.out]; exact HB1.out.size))
      have HBW := Lib.hid hbw
      have hfq : FQ wr A k 0 (cF k) 1 := ⟨hn, q1, q4, by omega, cF_c k q4, by omega, by omega, HT.out.below hbw hw1, by have := hbw.size; omega⟩
      have HP := Lib.hid (tplan_any A k c 0 (cF k) 1 wr hfq (cF_check ⟨k, by omega⟩ q1))
      have hrp := tree_right 1 (cs := cF k) (by rw [cF_len]; exact q1) (by rw [cF_len]; exact q4)
      rw [cF_len] at hrp
      have hfew := few_ok ⟨k, by omega⟩ q1
      dsimp only at hfew
      obtain ⟨es, hes⟩ : ∃ es, es = treeM (cF k) 1 := ⟨_, rfl⟩
      rw [← hes] at HP hrp hfew
      have hlen : es.length = 2 ^ k := by rw [← setsL_len k q1 q4, ← hrp.sets, List.length_map]
      have HIN := Lib.hid (right_in q1 q4 hrp)
      have HRP := Lib.hid hrp
      have HFEW := Lib.hid hfew
      obtain ⟨N, hN⟩ : ∃ N, N = 2 ^ k := ⟨_, rfl⟩
      have n16 := pow_16 k q4
      rw [← hN] at hlen n16
      have hsh : wrap64 (2 ^ k) = (N : Int) := by rw [shl_wrap k q4, hN]; push_cast; rfl
      have HSH := Lib.hid hsh
      have x0 := c0
      have x1 := c1
      clear c0 c1 o1 hn hbw hfq hrp hfew hes hN hsh hk hlt
      go_wp2_with fail
      refine HP.out.mono ?_
      rintro e w4 ⟨v, rfl, ho, hb4⟩
      obtain ⟨P, cP, rfl, hE, hnc⟩ := ho.form2 HIN.out
      rw [hlen] at hE hnc ⊢
      obtain ⟨g, o, rfl, hcs⟩ := hE.2.2 (by omega)
      have HCS := Lib.hid hcs
      have HB4 := Lib.hid (HBW.out.trans (hb4.mono HBW.out.size))
      clear hE hcs hb4 ho x0 x1
      go_wp2_with fail
      go_loopw [7] (fun i wr => ∃ k : Nat, i = .int .i64 k ∧ 1 ≤ k ∧ k ≤ N ∧ Below w4.heap.size w4 wr) (fun i _ => N - (intOf i).toNat)
      case atStart => exact ⟨1, rfl, by omega, by omega, Below.refl _ _⟩
      case round =>
        obtain ⟨i, rfl, hi1, hi, hb⟩ := hrel
        rename World => wx
        have HBi := Lib.hid hb
        clear hb
        by_cases hiN : i < N
        · obtain ⟨e, he⟩ : ∃ e, es[i]? = some e := ⟨_, List.getElem?_eq_getElem (by omega)⟩
          have kw := Keeps.of_below HBi.out
          obtain ⟨y0, y1, y2⟩ := HCS.out i e he
          have z0 := kw _ _ y0
          have z1 := kw _ _ y1
          have hem : e ∈ es.tail := by
            rw [List.mem_iff_getElem?]
            exact ⟨i - 1, by rw [List.getElem?_tail, show i - 1 + 1 = i by omega]; exact he⟩
          obtain ⟨ht, hp⟩ := HFEW.out e hem
          have hsb := sets_bd k q1 q4 _ (HRP.out.mem (List.mem_of_getElem? he))
          have hf15 := fullB_15 k q4
          obtain ⟨sN, hsN⟩ : ∃ sN : Nat, e.s = (sN : Int) := ⟨e.s.toNat, by omega⟩
          obtain ⟨-, hb1, hb0⟩ := trl_bit ⟨sN, by omega⟩
          dsimp only at hb1 hb0
          rw [← hsN] at hb1 hb0
          have hb0 := hb0 ht
          obtain ⟨s, hse⟩ : ∃ s, s = e.s := ⟨_, rfl⟩
          obtain ⟨p, hpe⟩ : ∃ s, s = e.p := ⟨_, rfl⟩
          rw [← hse] at hb1 hb0 ht hp z0 hsb
          rw [← hpe] at hp z1
          obtain ⟨t, hte⟩ : ∃ t, t = trl s := ⟨_, rfl⟩
          rw [← hte] at hb1 hb0 ht hp
          have s0 : 0 ≤ s := hsb.1
          have s15 : s ≤ 15 := by omega
          have HBT := Lib.hid hb1
          have HBZ := Lib.hid hb0
          have HP2 := Lib.hid hp
          have i0 : (0 : Int) ≤ (i : Int) := by omega
          have i1 : (i : Int) < (N : Int) := by omega
          clear y0 y1 y2 he kw hem hp hsb hf15 hsN hb1 hb0 hse hpe hte
          go_wp2_with fail
          go_loopw [8] (fun l wq => ∃ j : Nat, l = .int .i64 j ∧ j ≤ t ∧ wx = wq) (fun l _ => t - (intOf l).toNat)
          case atStart => exact ⟨0, rfl, Nat.zero_le _, rfl⟩
          case round =>
            obtain ⟨j, rfl, hj, rfl⟩ := hrel
            obtain ⟨q1', q2'⟩ := shr_in s j s0 s15 (by omega)
            have hbo := bit_one _ q1' q2'
            by_cases hjt : j < t
            · have h1 := HBT.out ⟨j, by omega⟩ hjt
              dsimp only at h1
              have d1 : (bits .and .i64 (s / 2 ^ j) 1 == 1) = true := by rw [hbo, h1]; rfl
              clear hbo h1
              go_wp2
              go_roundw
              case rel => exact ⟨j + 1, by go_num, by omega, trivial⟩
              case measure => simp [intOf]; omega
            · obtain rfl : j = t := by omega
              have h1 := HBZ.out
              have d1 : (bits .and .i64 (s / 2 ^ j) 1 == 1) = false := by rw [hbo, h1]; rfl
              have j3 : j ≤ 3 := by omega
              have j4 : ¬ (4 : Int) ≤ (j : Int) := by omega
              have j5 : decide ((4 : Int) ≤ (j : Int)) = false := by simp; omega
              have hww : IntKind.i64.wrap (2 ^ min (IntKind.u64.wrap (j : Int)).toNat 64) = wrap64 (2 ^ j) := by
                rcases (by omega : j = 0 ∨ j = 1 ∨ j = 2 ∨ j = 3) with rfl | rfl | rfl | rfl <;> decide +kernel
              have hne : (p != bits .or .i64 s (IntKind.i64.wrap (2 ^ min (IntKind.u64.wrap (j : Int)).toNat 64))) = false := by rw [hww, HP2.out]; simp
              clear hbo h1 hjt hj hww
              go_wp2_with fail
              refine wp_region_held_drew (S := fun W => W.cell? ⟨g, o + i * 3, none⟩ = some (.int .i64 s) ∧ W.cell? ⟨g, o + i * 3 + 1, none⟩ = some (.int .i64 p)) (by kernel_rfl) ⟨z0, z1⟩ (fun hHeld => ?_)
              refine wpAnyH_take (i := 0) (v := ?va0) rfl (by kernel_rfl) (by kernel_rfl) (by kernel_rfl) (fun _ _ _ h => h) (Or.inl ⟨by rfl, ?ya0⟩) hHeld ?ra0
              case ya0 => (intro W hW; obtain ⟨hW0, hW1⟩ := hW; go_simp; first | done | with_reducible rfl)
              try simp only [List.getElem_toArray, List.getElem_cons_zero, Act.put, List.setIfInBounds_toArray, List.set_cons_zero, List.set_cons_succ]
              refine wpAnyH_take (i := 1) (v := ?va1) rfl (by kernel_rfl) (by kernel_rfl) (by kernel_rfl) (fun _ _ _ h => h) (Or.inl ⟨by rfl, ?ya1⟩) hHeld ?ra1
              case ya1 => (intro W hW; obtain ⟨hW0, hW1⟩ := hW; go_simp; first | done | with_reducible rfl)
              try simp only [List.getElem_toArray, List.getElem_cons_succ, List.getElem_cons_zero, Act.put, List.setIfInBounds_toArray, List.set_cons_zero, List.set_cons_succ]
              refine wpAnyH_take (i := 2) (v := ?va2) rfl (by kernel_rfl) (by kernel_rfl) (by kernel_rfl) (fun _ _ _ h => h) (Or.inl ⟨by rfl, ?ya2⟩) hHeld ?ra2
              case ya2 => (intro W hW; obtain ⟨hW0, hW1⟩ := hW; go_simp; first | done | with_reducible rfl)
              try simp only [List.getElem_toArray, List.getElem_cons_succ, List.getElem_cons_zero, Act.put, List.setIfInBounds_toArray, List.set_cons_zero, List.set_cons_succ]
              refine wpAnyH_take (i := 3) (v := ?va3) rfl (by kernel_rfl) (by kernel_rfl) (by kernel_rfl) (fun _ _ _ h => h) (Or.inl ⟨by rfl, ?ya3⟩) hHeld ?ra3
              case ya3 => (intro W hW; obtain ⟨hW0, hW1⟩ := hW; go_simp; first | done | with_reducible rfl)
              try simp only [List.getElem_toArray, List.getElem_cons_succ, List.getElem_cons_zero, Act.put, List.setIfInBounds_toArray, List.set_cons_zero, List.set_cons_succ]
              refine wpAnyH_take (i := 4) (v := ?va4) rfl (by kernel_rfl) (by kernel_rfl) (by kernel_rfl) (fun _ _ _ h => h) (Or.inl ⟨by rfl, ?ya4⟩) hHeld ?ra4
              case ya4 => (intro W hW; obtain ⟨hW0, hW1⟩ := hW; go_simp; first | done | with_reducible rfl)
              try simp only [List.getElem_toArray, List.getElem_cons_succ, List.getElem_cons_zero, Act.put, List.setIfInBounds_toArray, List.set_cons_zero, List.set_cons_succ]
              refine wpAnyH_take (i := 5) (v := ?va5) rfl (by kernel_rfl) (by kernel_rfl) (by kernel_rfl) (fun _ _ _ h => h) (Or.inl ⟨by rfl, ?ya5⟩) hHeld ?ra5
              case ya5 => (intro W hW; obtain ⟨hW0, hW1⟩ := hW; go_simp; first | done | with_reducible rfl)
              try simp only [List.getElem_toArray, List.getElem_cons_succ, List.getElem_cons_zero, Act.put, List.setIfInBounds_toArray, List.set_cons_zero, List.set_cons_succ]
              refine wpAnyH_take (i := 6) (v := ?va6) rfl (by kernel_rfl) (by kernel_rfl) (by kernel_rfl) (fun _ _ _ h => h) (Or.inl ⟨by rfl, ?ya6⟩) hHeld ?ra6
              case ya6 => (intro W hW; obtain ⟨hW0, hW1⟩ := hW; go_simp; first | done | with_reducible rfl)
              try simp only [List.getElem_toArray, List.getElem_cons_succ, List.getElem_cons_zero, Act.put, List.setIfInBounds_toArray, List.set_cons_zero, List.set_cons_succ]
              refine wpAnyH_take (i := 7) (v := ?va7) rfl (by kernel_rfl) (by kernel_rfl) (by kernel_rfl) (fun _ _ _ h => h) (Or.inl ⟨by rfl, ?ya7⟩) hHeld ?ra7
              case ya7 => (intro W hW; obtain ⟨hW0, hW1⟩ := hW; go_simp; first | done | with_reducible rfl)
              try simp only [List.getElem_toArray, List.getElem_cons_succ, List.getElem_cons_zero, Act.put, List.setIfInBounds_toArray, List.set_cons_zero, List.set_cons_succ]
              refine wpAnyH_take (i := 8) (v := ?va8) rfl (by kernel_rfl) (by kernel_rfl) (by kernel_rfl) (fun _ _ _ h => h) (Or.inl ⟨by rfl, ?ya8⟩) hHeld ?ra8
              case ya8 => (intro W hW; obtain ⟨hW0, hW1⟩ := hW; go_simp; first | done | with_reducible rfl)
              try simp only [List.getElem_toArray, List.getElem_cons_succ, List.getElem_cons_zero, Act.put, List.setIfInBounds_toArray, List.set_cons_zero, List.set_cons_succ]
              refine wpAnyH_take (i := 9) (v := ?va9) rfl (by kernel_rfl) (by kernel_rfl) (by kernel_rfl) (fun _ _ _ h => h) (Or.inl ⟨by rfl, ?ya9⟩) hHeld ?ra9
              case ya9 => (intro W hW; obtain ⟨hW0, hW1⟩ := hW; go_simp; first | done | with_reducible rfl)
              try simp only [List.getElem_toArray, List.getElem_cons_succ, List.getElem_cons_zero, Act.put, List.setIfInBounds_toArray, List.set_cons_zero, List.set_cons_succ]
              refine wpAnyH_take (i := 10) (v := ?va10) rfl (by kernel_rfl) (by kernel_rfl) (by kernel_rfl) (fun _ _ _ h => h) (Or.inl ⟨by rfl, ?ya10⟩) hHeld ?ra10
              case ya10 => (intro W hW; obtain ⟨hW0, hW1⟩ := hW; go_simp; first | done | with_reducible rfl)
              try simp only [List.getElem_toArray, List.getElem_cons_succ, List.getElem_cons_zero, Act.put, List.setIfInBounds_toArray, List.set_cons_zero, List.set_cons_succ]
              refine wpAnyH_take (i := 11) (v := ?va11) rfl (by kernel_rfl) (by kernel_rfl) (by kernel_rfl) (fun _ _ _ h => h) (Or.inl ⟨by rfl, ?ya11⟩) hHeld ?ra11
              case ya11 => (intro W hW; obtain ⟨hW0, hW1⟩ := hW; go_simp; first | done | with_reducible rfl)
              try simp only [List.getElem_toArray, List.getElem_cons_succ, List.getElem_cons_zero, Act.put, List.setIfInBounds_toArray, List.set_cons_zero, List.set_cons_succ]
              refine wpAnyH_take (i := 12) (v := ?va12) rfl (by kernel_rfl) (by kernel_rfl) (by kernel_rfl) (fun _ _ _ h => h) (Or.inl ⟨by rfl, ?ya12⟩) hHeld ?ra12
              case ya12 => (intro W hW; obtain ⟨hW0, hW1⟩ := hW; go_simp; first | done | with_reducible rfl)
              try simp only [List.getElem_toArray, List.getElem_cons_succ, List.getElem_cons_zero, Act.put, List.setIfInBounds_toArray, List.set_cons_zero, List.set_cons_succ]
              refine wpAnyH_take (i := 13) (v := ?va13) rfl (by kernel_rfl) (by kernel_rfl) (by kernel_rfl) (fun _ _ _ h => h) (Or.inl ⟨by rfl, ?ya13⟩) hHeld ?ra13
              case ya13 => (intro W hW; obtain ⟨hW0, hW1⟩ := hW; go_simp; first | done | with_reducible rfl)
              try simp only [List.getElem_toArray, List.getElem_cons_succ, List.getElem_cons_zero, Act.put, List.setIfInBounds_toArray, List.set_cons_zero, List.set_cons_succ]
              refine wpAnyH_take (i := 14) (v := ?va14) rfl (by kernel_rfl) (by kernel_rfl) (by kernel_rfl) (fun _ _ _ h => h) (Or.inl ⟨by rfl, ?ya14⟩) hHeld ?ra14
              case ya14 => (intro W hW; obtain ⟨hW0, hW1⟩ := hW; go_simp; first | done | with_reducible rfl)
              try simp only [List.getElem_toArray, List.getElem_cons_succ, List.getElem_cons_zero, Act.put, List.setIfInBounds_toArray, List.set_cons_zero, List.set_cons_succ]
              refine wpAnyH_take (i := 15) (v := ?va15) rfl (by kernel_rfl) (by kernel_rfl) (by kernel_rfl) (fun _ _ _ h => h) (Or.inl ⟨by rfl, ?ya15⟩) hHeld ?ra15
              case ya15 => (intro W hW; obtain ⟨hW0, hW1⟩ := hW; go_simp; first | done | with_reducible rfl)
              try simp only [List.getElem_toArray, List.getElem_cons_succ, List.getElem_cons_zero, Act.put, List.setIfInBounds_toArray, List.set_cons_zero, List.set_cons_succ]
              refine wpAnyH_take (i := 16) (v := ?va16) rfl (by kernel_rfl) (by kernel_rfl) (by kernel_rfl) (fun _ _ _ h => h) (Or.inl ⟨by rfl, ?ya16⟩) hHeld ?ra16
              case ya16 => (intro W hW; obtain ⟨hW0, hW1⟩ := hW; go_simp; first | done | with_reducible rfl)
              try simp only [List.getElem_toArray, List.getElem_cons_succ, List.getElem_cons_zero, Act.put, List.setIfInBounds_toArray, List.set_cons_zero, List.set_cons_succ]
              refine wpAnyH_take (i := 17) (v := ?va17) rfl (by kernel_rfl) (by kernel_rfl) (by kernel_rfl) (fun _ _ _ h => h) (Or.inl ⟨by rfl, ?ya17⟩) hHeld ?ra17
              case ya17 => (intro W hW; obtain ⟨hW0, hW1⟩ := hW; go_simp; first | done | with_reducible rfl)
              try simp only [List.getElem_toArray, List.getElem_cons_succ, List.getElem_cons_zero, Act.put, List.setIfInBounds_toArray, List.set_cons_zero, List.set_cons_succ]
              refine wpAnyH_take (i := 18) (v := ?va18) rfl (by kernel_rfl) (by kernel_rfl) (by kernel_rfl) (fun _ _ _ h => h) (Or.inl ⟨by rfl, ?ya18⟩) hHeld ?ra18
              case ya18 => (intro W hW; obtain ⟨hW0, hW1⟩ := hW; go_simp; first | done | with_reducible rfl)
              try simp only [List.getElem_toArray, List.getElem_cons_succ, List.getElem_cons_zero, Act.put, List.setIfInBounds_toArray, List.set_cons_zero, List.set_cons_succ]
              refine wpAnyH_done (by kernel_rfl) ?_ _
              go_wp2
              go_roundw
              case rel => exact ⟨i + 1, by go_num, by omega, by omega, HBi.out.drew⟩
              case measure => simp [intOf]; omega
        · obtain rfl : i = N := by omega
          have HBf := Lib.hid (HB4.out.trans (HBi.out.mono HB4.out.size))
          go_wp2
          go_ret
          exact ⟨by rw [HSH.out]; simp, HBf.out⟩
end Go.Proofs.YtjllmladhjbnaaaDoor
