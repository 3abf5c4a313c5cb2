/- The law CellJoins. -/
import Derived.Test.YtbkcclmhgnplcaaDoorRegJ
import Derived.Test.YtbkcclmhgnplcaaDoorTwoB
import Derived.Test.YtbkcclmhgnplcaaDoorCele
import Derived.Test.YtbkcclmhgnplcaaDoorCelc
import Derived.Test.YtbkcclmhgnplcaaDoorCelg
import Derived.Test.YtbkcclmhgnplcaaDoorIsRow
import Derived.Test.YtbkcclmhgnplcaaDoorPutP
namespace Go.Proofs.YtbkcclmhgnplcaaDoor
open Go.RowKit Go.Shelf
/-- What the three cells are. -/
def ThreeC (k : Nat) (K : List Cel) : Prop := ∀ (t : Nat) (y : Cel), K[t]? = some y → y.key = [4] ∧ y.cnt = 1 + (t : Int) ∧ EvenC k y
def qA (k : Nat) : Nat := match k with | 0 => 6 | 1 => 13 | 2 => 16 | _ => 17
def qL (j : Nat) : Nat := match j with | 0 => 14 | _ => 15
def qS (j : Nat) : Nat := match j with | 0 => 11 | 1 => 12 | 2 => 75 | _ => 82
def qT (m b : Nat) : Array Bool := #[true, true, true, true, true, true, decide (1 ≤ m), true, true, true, true, true, true, decide (2 ≤ m), b.testBit 0, b.testBit 1, decide (3 ≤ m), decide (4 ≤ m)]
set_option maxRecDepth 100000 in
set_option maxHeartbeats 8000000 in
theorem cellJoins_walk (a0 : Option Addr) (len0 cap0 : Nat) (z0 : List Int) (a1 : Int) (w : World) (w0 : IsRow .i64 w a0 len0 cap0 z0) (h1 : inK .i64 a1) (hT : Tab w) (hw1 : 1 < w.heap.size) :
    Calls Tryd.prog 5 #[.slice a0 len0 cap0, .int .i64 a1] w fun e w' => e = .returned (.bool true) ∧ Below w.heap.size w w' := by
  obtain ⟨n0, lc0, cm0⟩ := w0.nums
  generalize z0.take len0 = xs at n0
  have N0 := Lib.hid n0
  have HKn := Lib.hid (known_any w hT hw1)
  obtain ⟨k, hk⟩ : ∃ k : Nat, a1 % 3 = k := Int.eq_ofNat_of_zero_le (Int.emod_nonneg a1 (by omega))
  have hk2 : k ≤ 2 := by have := Int.emod_lt_of_pos a1 (show (0 : Int) < 3 by omega); omega
  have wb := fun W => lwithin2 a1 3 W h1 (by omega) (by omega)
  rw [hk] at wb
  have Wb := Lib.hid wb
  clear w0 n0 hT wb hk
  go_enter Tryd.func5, Tryd.ntmps5
  go_wp2_with fail
  refine HKn.out.mono ?_
  rintro e w2 ⟨rfl, hb1⟩
  have Hb := Lib.hid hb1
  clear hb1 HKn
  go_wp2_with fail
  refine (Wb.out _).mono ?_
  rintro e w3 ⟨rfl, rfl⟩
  clear Wb
  go_upto_block 0 with (fail)
  go_cut [6] (fun s6 wx => ∃ (ul : List V5) (K : List Cel), GRs w2.heap.size wx s6 ul K ∧ K.length = 3 ∧ ThreeC k K ∧ Below w2.heap.size w2 wx)
  case first =>
    go_wp2_with fail
    go_loopw [6, 7] (fun s6 s7 wr => ∃ (i : Nat) (ul : List V5) (K : List Cel), s7 = .int .i64 i ∧ i ≤ 3 ∧ GRs w2.heap.size wr s6 ul K ∧ K.length = i ∧ ThreeC k K ∧ Below w2.heap.size w2 wr) (fun _ s7 _ => 3 - (intOf s7).toNat)
    case atStart => exact ⟨0, [], [], rfl, by omega, GRs.nil _ _, rfl, (fun t y h => by simp at h), Below.refl _ _⟩
    case round =>
      rename World => wr
      obtain ⟨i, ul, K, rfl, hi, hg, hKl, h3, hb⟩ := hrel
      have HG := Lib.hid hg
      have HKl := Lib.hid hKl
      have H3 := Lib.hid h3
      have HB := Lib.hid hb
      clear hg hKl h3 hb
      by_cases hlt : i < 3
      · have d1 : decide ((i : Int) < 3) = true := decide_eq_true (by omega)
        have rc : IntKind.i64.wrap (1 + (i : Int)) = 1 + (i : Int) := IntWalk.i64_in _ (by omega)
        go_upto_block 2 with (fail)
        have hst : ∃ v : Nat → Value, ∃ S : Nat → List Int, Own 33 ((wr.alloc (.cells #[.int .i64 4] 3)).alloc (.cells #[.slice (some ⟨wr.heap.size, 0, none⟩) 1 1, .int .i64 (1 + (i : Int)), .slice none 0 0, .slice none 0 0, .slice none 0 0] 33)) (wr.heap.size + 1) [v 0, .int .i64 (1 + (i : Int)), v 1, v 2, v 3] ∧ RJ wr.heap.size v S ((wr.alloc (.cells #[.int .i64 4] 3)).alloc (.cells #[.slice (some ⟨wr.heap.size, 0, none⟩) 1 1, .int .i64 (1 + (i : Int)), .slice none 0 0, .slice none 0 0, .slice none 0 0] 33)) ∧ S 0 = [4] ∧ (∀ t, 1 ≤ t → t ≤ 3 → (S t).length = 0) ∧ Below wr.heap.size wr ((wr.alloc (.cells #[.int .i64 4] 3)).alloc (.cells #[.slice (some ⟨wr.heap.size, 0, none⟩) 1 1, .int .i64 (1 + (i : Int)), .slice none 0 0, .slice none 0 0, .slice none 0 0] 33)) := by
          refine ⟨fun t => if t = 0 then .slice (some ⟨wr.heap.size, 0, none⟩) 1 1 else .slice none 0 0, fun t => if t = 0 then [4] else [], ?_, ⟨by simp; omega, fun t ht => ?_, fun t u ht hu htu => ?_⟩, rfl, fun t t1 t3 => by show (if t = 0 then [4] else []).length = 0; rw [if_neg (by omega)]; rfl, ((Below.refl _ wr).alloc (Nat.le_refl _) _).alloc (by simp) _⟩
          · have h := heap_alloc_new (wr.alloc (.cells #[.int .i64 4] 3)) (.cells #[.slice (some ⟨wr.heap.size, 0, none⟩) 1 1, .int .i64 (1 + (i : Int)), .slice none 0 0, .slice none 0 0, .slice none 0 0] 33)
            rw [show (wr.alloc (.cells #[.int .i64 4] 3)).heap.size = wr.heap.size + 1 from by simp] at h
            exact h
          · by_cases e : t = 0
            · subst e
              rw [if_pos rfl, if_pos rfl]
              refine ⟨?_, fun x hx => ?_⟩
              · have h := own_lit wr wr.heap.size 3 [.int .i64 4] wr.heap.size 1 1 rfl (Nat.le_refl _) (by simp [maxLen]) rfl
                exact own_below h ((Below.refl _ _).alloc (Nat.le_refl _) _) (Nat.le_refl _)
              · simp at hx; subst hx; exact ⟨by show (-9223372036854775808 : Int) ≤ 4; omega, by show (4 : Int) ≤ 9223372036854775807; omega⟩
            · rw [if_neg e, if_neg e]; exact OI.nil _ _
          · by_cases e : t = 0
            · rw [if_neg (show ¬ u = 0 by omega)]; exact fun b _ h2 => by cases h2
            · rw [if_neg e]; exact fun b h1 => by cases h1
        obtain ⟨v, S, o8, rj8, s80, s81, b8⟩ := hst
        obtain ⟨g, hgq⟩ : ∃ g, g = wr.heap.size + 1 := ⟨_, rfl⟩
        rw [← hgq] at o8 ⊢
        have hgB : wr.heap.size ≤ g := by omega
        generalize (wr.alloc (.cells #[.int .i64 4] 3)).alloc (.cells #[.slice (some ⟨wr.heap.size, 0, none⟩) 1 1, .int .i64 (1 + (i : Int)), .slice none 0 0, .slice none 0 0, .slice none 0 0] 33) = W8 at o8 rj8 b8 ⊢
        have O8 := Lib.hid o8
        have RJ8 := Lib.hid rj8
        have S80 := Lib.hid s80
        have S81 := Lib.hid s81
        have B8 := Lib.hid b8
        obtain ⟨ci, hci⟩ : ∃ ci, ci = 1 + (i : Int) := ⟨_, rfl⟩
        rw [← hci] at O8
        have HCI := Lib.hid hci
        clear o8 rj8 s80 s81 b8 hgq rc hci
        go_cut [] (fun wx => ∃ (v : Nat → Value) (S : Nat → List Int), Own 33 wx g [v 0, .int .i64 ci, v 1, v 2, v 3] ∧ RJ wr.heap.size v S wx ∧ S 0 = [4] ∧ (∀ t, 1 ≤ t → t ≤ 3 → (S t).length = k) ∧ Below wr.heap.size wr wx)
        case first =>
          go_wp2_with fail
          go_loopw [9] (fun s9 wx => ∃ (j : Nat) (v : Nat → Value) (S : Nat → List Int), s9 = .int .i64 j ∧ j ≤ k ∧ Own 33 wx g [v 0, .int .i64 ci, v 1, v 2, v 3] ∧ RJ wr.heap.size v S wx ∧ S 0 = [4] ∧ (∀ t, 1 ≤ t → t ≤ 3 → (S t).length = j) ∧ Below wr.heap.size wr wx) (fun s9 _ => k - (intOf s9).toNat)
          case atStart => exact ⟨0, v, S, rfl, Nat.zero_le _, O8.out, RJ8.out, S80.out, S81.out, B8.out⟩
          case round =>
            rename World => wk
            clear O8 RJ8 S80 S81 B8 v S
            obtain ⟨j, v, S, rfl, hj, ho, hrj, hs0, hs1, hbk⟩ := hrel
            have HO := Lib.hid ho
            have HRJ := Lib.hid hrj
            have HS0 := Lib.hid hs0
            have HS1 := Lib.hid hs1
            have HBK := Lib.hid hbk
            clear ho hrj hs0 hs1 hbk
            by_cases hjk : j < k
            · have d2 : decide ((j : Int) < (k : Int)) = true := decide_eq_true (by omega)
              have r1 : IntKind.i64.wrap ((i : Int) - (j : Int)) = (i : Int) - (j : Int) := IntWalk.i64_in _ (by omega)
              have r2 : IntKind.i64.wrap (3 * (i : Int)) = 3 * (i : Int) := IntWalk.i64_in _ (by omega)
              have r3 : IntKind.i64.wrap (3 * (i : Int) + (j : Int)) = 3 * (i : Int) + (j : Int) := IntWalk.i64_in _ (by omega)
              go_upto_if 39 with (fail)
              go_cut [10] from 40 to 46 (fun s wx => ∃ xv, s = .int .i64 xv ∧ inK .i64 xv ∧ wx = wk)
              case first =>
                by_cases hin : 3 * i + j < len0
                · have d3 : decide (3 * (i : Int) + (j : Int) < (len0 : Int)) = true := decide_eq_true (by omega)
                  obtain ⟨ad, x, rfl, hx, hxk, hxc⟩ := (N0.out.keep (Keeps.of_below (Hb.out.trans ((HB.out.trans (HBK.out.mono HB.out.size)).mono Hb.out.size)))).at_ (k := 3 * i + j) (by omega)
                  obtain ⟨ix, hix⟩ : ∃ ix : Nat, ix = 3 * i + j := ⟨_, rfl⟩
                  rw [← hix] at hxc
                  have r4 : 3 * (i : Int) + (j : Int) = (ix : Int) := by omega
                  have i0 : (0 : Int) ≤ (ix : Int) := by omega
                  have i1 : (ix : Int) < (len0 : Int) := by omega
                  clear hx hix
                  go_wp2
                  go_meet
                  exact ⟨x, rfl, hxk, rfl⟩
                · have d3 : decide (3 * (i : Int) + (j : Int) < (len0 : Int)) = false := decide_eq_false (by omega)
                  go_wp2
                  go_meet
                  exact ⟨_, rfl, ⟨by show (-9223372036854775808 : Int) ≤ _; omega, by show _ ≤ (9223372036854775807 : Int); omega⟩, rfl⟩
              case rest =>
                obtain ⟨xv, rfl, hxv, rfl⟩ := hcut
                go_upto_region 15 with (fail)
                refine wp_region_held_drew (S := fun _ => True) (by kernel_rfl) trivial (fun hHeld => ?_)
                refine wpAnyH_take (i := 0) (v := ?va0) rfl (by kernel_rfl) (by kernel_rfl) (by kernel_rfl) (fun _ _ _ h => h) (Or.inl ⟨by rfl, ?ya0⟩) hHeld ?ra0
                case ya0 => (intro W hW; go_simp; first | done | with_reducible rfl)
                try simp only [List.getElem_toArray, List.getElem_cons_zero, Act.put, List.setIfInBounds_toArray, List.set_cons_zero, List.set_cons_succ]
                refine wpAnyH_take (i := 2) (v := ?va2) rfl (by kernel_rfl) (by kernel_rfl) (by kernel_rfl) (fun _ _ _ h => h) (Or.inl ⟨by rfl, ?ya2⟩) hHeld ?ra2
                case ya2 => (intro W hW; go_simp; first | done | with_reducible rfl)
                try simp only [List.getElem_toArray, List.getElem_cons_succ, List.getElem_cons_zero, Act.put, List.setIfInBounds_toArray, List.set_cons_zero, List.set_cons_succ]
                refine wpAnyH_take (i := 5) (v := ?va5) rfl (by kernel_rfl) (by kernel_rfl) (by kernel_rfl) (fun _ _ _ h => h) (Or.inl ⟨by rfl, ?ya5⟩) hHeld ?ra5
                case ya5 => (intro W hW; go_simp; first | done | with_reducible rfl)
                try simp only [List.getElem_toArray, List.getElem_cons_succ, List.getElem_cons_zero, Act.put, List.setIfInBounds_toArray, List.set_cons_zero, List.set_cons_succ]
                refine wpAnyH_take (i := 7) (v := ?va7) rfl (by kernel_rfl) (by kernel_rfl) (by kernel_rfl) (fun _ _ _ h => h) (Or.inl ⟨by rfl, ?ya7⟩) hHeld ?ra7
                case ya7 => (intro W hW; go_simp; first | done | with_reducible rfl)
                try simp only [List.getElem_toArray, List.getElem_cons_succ, List.getElem_cons_zero, Act.put, List.setIfInBounds_toArray, List.set_cons_zero, List.set_cons_succ]
                refine wpAnyH_take (i := 10) (v := ?va10) rfl (by kernel_rfl) (by kernel_rfl) (by kernel_rfl) (fun _ _ _ h => h) (Or.inl ⟨by rfl, ?ya10⟩) hHeld ?ra10
                case ya10 => (intro W hW; go_simp; first | done | with_reducible rfl)
                try simp only [List.getElem_toArray, List.getElem_cons_succ, List.getElem_cons_zero, Act.put, List.setIfInBounds_toArray, List.set_cons_zero, List.set_cons_succ]
                refine wpAnyH_take (i := 12) (v := ?va12) rfl (by kernel_rfl) (by kernel_rfl) (by kernel_rfl) (fun _ _ _ h => h) (Or.inl ⟨by rfl, ?ya12⟩) hHeld ?ra12
                case ya12 => (intro W hW; go_simp; first | done | with_reducible rfl)
                try simp only [List.getElem_toArray, List.getElem_cons_succ, List.getElem_cons_zero, Act.put, List.setIfInBounds_toArray, List.set_cons_zero, List.set_cons_succ]
                clear hHeld
                have hl3 : ∀ t, t < 4 → (S t).length ≤ 1000 := fun t ht => by
                  rcases Nat.eq_zero_or_pos t with e | e
                  · subst e; rw [HS0.out]; simp
                  · rw [HS1.out t e (by omega)]; omega
                have HL3 := Lib.hid hl3
                clear hl3
                refine any_tabA 8 7 0 jL jA jD jT jF jS (fun m b X W => IJ wr.heap.size g wr ci v S xv m b X W) (fun _ _ _ _ _ => trivial) ?hchk ?hfull ?hpc ?hp0 ?hfu ?hli ?hF ?hI ?hL ?hA ?hend
                case hchk => kernel_rfl
                case hfull => decide +kernel
                case hpc => decide
                case hp0 => decide
                case hfu => rfl
                case hli => kernel_rfl
                case hF => exact jF_self _ (of_decide_eq_true (by kernel_rfl))
                case hI =>
                  have cu : ∀ X, curOf v X 0 = v := fun X => by funext t; unfold curOf; rw [if_neg (by omega)]
                  have xu : xsOf S xv 0 = S := by funext t; unfold xsOf; rw [if_neg (by omega)]
                  refine ⟨?_, HO.out, below_drewN HBK.out 1, fun t _ e => by simp at e, fun t _ e => by simp at e, fun e => by simp at e, fun e => by omega, fun e => by omega⟩
                  rw [show min 0 3 = 0 from rfl, cu, xu]
                  exact HRJ.out.below (below_drewN (Below.refl _ wc) 1)
                case hL =>
                  intro q hq m' b' X W K hb4 hok ht hI hK
                  have hmq : m' ≤ jD q := by
                    simp only [okF, List.all_eq_true, List.mem_range] at hok
                    have := hok q hq
                    rw [ht] at this
                    rcases Nat.lt_or_ge (jD q) m' with h3 | h3
                    · have h2 : decide (jD q < m') = true := decide_eq_true h3
                      rw [h2] at this
                      cases this
                    · exact h3
                  simp only [jF, Act.put, List.setIfInBounds_toArray, List.set_cons_zero, List.set_cons_succ] at hK ⊢
                  rcases (by omega : q = 0 ∨ q = 1 ∨ q = 2 ∨ q = 3 ∨ q = 4 ∨ q = 5 ∨ q = 6) with rfl | rfl | rfl | rfl | rfl | rfl | rfl
                  · have h := hK (v 1) W (hI.load (j := 0) (by omega) hb4 ht)
                    have hbx := hI.box.cell (i := 2) rfl
                    rw [if_neg (by have : jD 0 = 0 := rfl; omega)] at hbx
                    change wpOp _ _ _ 1 K _ W
                    refine wpOp_step rfl (fun K' hK' => ?_)
                    have H := Lib.hid (hK' _ _ h)
                    clear h hK' hK
                    clear hI
                    go_simp
                    exact H.out
                  · have h := hK (v 2) W (hI.load (j := 1) (by omega) hb4 ht)
                    have hbx := hI.box.cell (i := 3) rfl
                    rw [if_neg (by have : jD 1 = 1 := rfl; omega)] at hbx
                    change wpOp _ _ _ 6 K _ W
                    refine wpOp_step rfl (fun K' hK' => ?_)
                    have H := Lib.hid (hK' _ _ h)
                    clear h hK' hK
                    clear hI
                    go_simp
                    exact H.out
                  · have h := hK (v 3) W (hI.load (j := 2) (by omega) hb4 ht)
                    have hbx := hI.box.cell (i := 4) rfl
                    rw [if_neg (by have : jD 2 = 2 := rfl; omega)] at hbx
                    change wpOp _ _ _ 11 K _ W
                    refine wpOp_step rfl (fun K' hK' => ?_)
                    have H := Lib.hid (hK' _ _ h)
                    clear h hK' hK
                    clear hI
                    go_simp
                    exact H.out
                  · have h := hK (.slice (some ⟨W.heap.size, 0, none⟩) 1 1) (W.alloc (.cells #[.int .i64 xv] 3)) (hI.lit (j := 0) (by omega) hb4 ht)
                    change wpOp _ _ _ 3 K _ W
                    refine wpOp_step rfl (fun K' hK' => ?_)
                    have H := Lib.hid (hK' _ _ h)
                    clear h hK' hK
                    clear hI
                    go_simp
                    exact H.out
                  · have h := hK (.slice (some ⟨W.heap.size, 0, none⟩) 1 1) (W.alloc (.cells #[.int .i64 xv] 3)) (hI.lit (j := 1) (by omega) hb4 ht)
                    change wpOp _ _ _ 8 K _ W
                    refine wpOp_step rfl (fun K' hK' => ?_)
                    have H := Lib.hid (hK' _ _ h)
                    clear h hK' hK
                    clear hI
                    go_simp
                    exact H.out
                  · have h := hK (.slice (some ⟨W.heap.size, 0, none⟩) 1 1) (W.alloc (.cells #[.int .i64 xv] 3)) (hI.lit (j := 2) (by omega) hb4 ht)
                    change wpOp _ _ _ 13 K _ W
                    refine wpOp_step rfl (fun K' hK' => ?_)
                    have H := Lib.hid (hK' _ _ h)
                    clear h hK' hK
                    clear hI
                    go_simp
                    exact H.out
                  · have h := hK (.pointer (some ⟨g, 2, none⟩)) W (hI.ptr hb4 ht)
                    change wpOp _ _ _ 15 K _ W
                    refine wpOp_step rfl (fun K' hK' => ?_)
                    have H := Lib.hid (hK' _ _ h)
                    clear h hK' hK
                    clear hI
                    go_simp
                    exact H.out
                case hA =>
                  intro q hq b' X W K hb4 hok hI hK
                  have hbits : ∀ t, t < 7 → jD t ≤ q → b'.testBit t = true := fun t ht htq => by
                    simp only [okF, List.all_eq_true, List.mem_range] at hok
                    have := hok t ht
                    have h2 : decide (jD t < q + 1) = true := decide_eq_true (by omega)
                    rw [h2] at this
                    simpa using this
                  simp only [jF, Act.put, List.setIfInBounds_toArray, List.set_cons_zero, List.set_cons_succ] at hK ⊢
                  rcases (by omega : q = 0 ∨ q = 1 ∨ q = 2 ∨ q = 3 ∨ q = 4 ∨ q = 5 ∨ q = 6 ∨ q = 7) with rfl | rfl | rfl | rfl | rfl | rfl | rfl | rfl
                  · obtain ⟨A, cA, W', hrun, hnew⟩ := hI.app (by omega) hxv HL3.out (hbits 0 (by omega) (by decide)) (hbits 3 (by omega) (by decide))
                    have h := hK _ _ hnew
                    change wpOp _ _ _ 4 K _ W
                    refine wpOp_step rfl (fun K' hK' => ?_)
                    have H := Lib.hid (hK' _ _ h)
                    clear h hK' hK
                    rw [if_pos (by rfl)]
                    exact oper_append (.tmp 48) (.tmp 50) 22 rfl _ _ _ _ rfl rfl hrun H.out
                  · obtain ⟨A, cA, W', hrun, hnew⟩ := hI.app (by omega) hxv HL3.out (hbits 1 (by omega) (by decide)) (hbits 4 (by omega) (by decide))
                    have h := hK _ _ hnew
                    change wpOp _ _ _ 9 K _ W
                    refine wpOp_step rfl (fun K' hK' => ?_)
                    have H := Lib.hid (hK' _ _ h)
                    clear h hK' hK
                    rw [if_pos (by rfl)]
                    exact oper_append (.tmp 53) (.tmp 55) 22 rfl _ _ _ _ rfl rfl hrun H.out
                  · obtain ⟨A, cA, W', hrun, hnew⟩ := hI.app (by omega) hxv HL3.out (hbits 2 (by omega) (by decide)) (hbits 5 (by omega) (by decide))
                    have h := hK _ _ hnew
                    change wpOp _ _ _ 14 K _ W
                    refine wpOp_step rfl (fun K' hK' => ?_)
                    have H := Lib.hid (hK' _ _ h)
                    clear h hK' hK
                    rw [if_pos (by rfl)]
                    exact oper_append (.tmp 58) (.tmp 60) 22 rfl _ _ _ _ rfl rfl hrun H.out
                  · have h := hK (.bool true) _ (hI.store hgB (.bool true) (s := 2) (by omega))
                    have hbx := hI.box.cell (i := 2) rfl
                    have hbf := hI.box.frozen 2
                    have e6 := hI.p2 (hbits 6 (by omega) (by decide))
                    have z6 : upL X (7 + 3) (Value.bool true) 6 = .pointer (some ⟨g, 2, none⟩) := by rw [upL_ne X _ (by omega)]; exact e6
                    rw [z6] at h
                    obtain ⟨FA, Fn, Fc, ff⟩ : ∃ A n c, X 7 = .slice A n c := by
                      have o : OI wr.heap.size W (X 7) (S 1 ++ [xv]) := hI.rj.ok 1 (by omega)
                      obtain ⟨A, c, e, -⟩ := o.form
                      exact ⟨A, _, c, e⟩
                    change wpOp _ _ _ 16 K _ W
                    refine wpOp_step rfl (fun K' hK' => ?_)
                    have H := Lib.hid (hK' _ _ h)
                    clear h hK' hK
                    clear hI
                    rw [e6, ff]
                    go_simp
                    rw [← ff]
                    exact H.out
                  · have h := hK _ _ (hI.place (by omega))
                    change wpOp _ _ _ 17 K _ W
                    refine wpOp_step rfl (fun K' hK' => ?_)
                    have H := Lib.hid (hK' _ _ h)
                    clear h hK' hK
                    clear hI
                    go_simp
                    exact H.out
                  · have h := hK (.bool true) _ (hI.store hgB (.bool true) (s := 3) (by omega))
                    have hbx := hI.box.cell (i := 3) rfl
                    have hbf := hI.box.frozen 3
                    have e6 := hI.p3 (by omega)
                    have z6 : upL X (7 + 5) (Value.bool true) 11 = .pointer (some ⟨g, 3, none⟩) := by rw [upL_ne X _ (by omega)]; exact e6
                    rw [z6] at h
                    obtain ⟨FA, Fn, Fc, ff⟩ : ∃ A n c, X 8 = .slice A n c := by
                      have o : OI wr.heap.size W (X 8) (S 2 ++ [xv]) := hI.rj.ok 2 (by omega)
                      obtain ⟨A, c, e, -⟩ := o.form
                      exact ⟨A, _, c, e⟩
                    change wpOp _ _ _ 18 K _ W
                    refine wpOp_step rfl (fun K' hK' => ?_)
                    have H := Lib.hid (hK' _ _ h)
                    clear h hK' hK
                    clear hI
                    rw [e6, ff]
                    go_simp
                    rw [← ff]
                    exact H.out
                  · have h := hK _ _ (hI.place (by omega))
                    change wpOp _ _ _ 19 K _ W
                    refine wpOp_step rfl (fun K' hK' => ?_)
                    have H := Lib.hid (hK' _ _ h)
                    clear h hK' hK
                    clear hI
                    go_simp
                    exact H.out
                  · have h := hK (.bool true) _ (hI.store hgB (.bool true) (s := 4) (by omega))
                    have hbx := hI.box.cell (i := 4) rfl
                    have hbf := hI.box.frozen 4
                    have e6 := hI.p4 (by omega)
                    have z6 : upL X (7 + 7) (Value.bool true) 13 = .pointer (some ⟨g, 4, none⟩) := by rw [upL_ne X _ (by omega)]; exact e6
                    rw [z6] at h
                    obtain ⟨FA, Fn, Fc, ff⟩ : ∃ A n c, X 9 = .slice A n c := by
                      have o : OI wr.heap.size W (X 9) (S 3 ++ [xv]) := hI.rj.ok 3 (by omega)
                      obtain ⟨A, c, e, -⟩ := o.form
                      exact ⟨A, _, c, e⟩
                    change wpOp _ _ _ 20 K _ W
                    refine wpOp_step rfl (fun K' hK' => ?_)
                    have H := Lib.hid (hK' _ _ h)
                    clear h hK' hK
                    clear hI
                    rw [e6, ff]
                    go_simp
                    rw [← ff]
                    exact H.out
                case hend =>
                  intro X W hI
                  simp only [jF, Act.put, List.setIfInBounds_toArray, List.set_cons_zero, List.set_cons_succ]
                  refine wpAnyH_done (by kernel_rfl) ?_ _
                  go_wp2
                  go_roundw
                  case rel =>
                    have hrj := hI.rj
                    refine ⟨j + 1, curOf v X 3, xsOf S xv 3, by go_num, by omega, hI.box, hrj, HS0.out, fun t t1 t3 => ?_, hI.bel⟩
                    unfold xsOf
                    rw [if_pos ⟨t1, t3⟩, List.length_append, HS1.out t t1 t3]
                    rfl
                  case measure => simp [intOf]; omega
            · obtain rfl : j = k := by omega
              have d2 : decide ((j : Int) < (j : Int)) = false := by simp
              go_wp2
              go_meet
              exact ⟨v, S, HO.out, HRJ.out, HS0.out, HS1.out, HBK.out⟩
        case rest =>
          rename World => wy
          clear O8 RJ8 S80 S81 B8 v S
          obtain ⟨v, S, ho, hrj, hs0, hs1, hby⟩ := hcut
          have o0 := hrj.ok 0 (by omega)
          have o1 := hrj.ok 1 (by omega)
          have o2 := hrj.ok 2 (by omega)
          have o3 := hrj.ok 3 (by omega)
          have l1 := hs1 1 (by omega) (by omega)
          have l2 := hs1 2 (by omega) (by omega)
          have l3 := hs1 3 (by omega) (by omega)
          generalize v 0 = v0 at ho o0
          generalize v 1 = v1 at ho o1
          generalize v 2 = v2 at ho o2
          generalize v 3 = v3 at ho o3
          obtain ⟨A0, c0, f0, -⟩ := o0.form
          obtain ⟨A1, c1, f1, -⟩ := o1.form
          obtain ⟨A2, c2, f2, -⟩ := o2.form
          obtain ⟨A3, c3, f3, -⟩ := o3.form
          rw [hs0] at f0
          rw [l1] at f1
          rw [l2] at f2
          rw [l3] at f3
          replace f0 : v0 = .slice A0 1 c0 := f0
          subst f0 f1 f2 f3
          obtain ⟨y, hy⟩ : ∃ y : Cel, y = ⟨[4], ci, S 1, S 2, S 3⟩ := ⟨_, rfl⟩
          have hq : OwnC w2.heap.size wy ⟨.slice A0 1 c0, .int .i64 ci, .slice A1 k c1, .slice A2 k c2, .slice A3 k c3⟩ y := by
            subst hy
            rw [hs0] at o0
            exact ⟨rfl, ⟨o0.mono HB.out.size, o1.mono HB.out.size, o2.mono HB.out.size, o3.mono HB.out.size⟩, by show inK .i64 ci; rw [HCI.out]; exact ⟨by show (-9223372036854775808 : Int) ≤ _; omega, by show _ ≤ (9223372036854775807 : Int); omega⟩⟩
          have hg1 := HG.out.below hby
          have hul := hg1.len
          rw [HKl.out] at hul
          have hbv := HB.out.trans (hby.mono HB.out.size)
          obtain ⟨v', X3, hrun, hg3, hgr3, -⟩ := append_one hg1 hq (by omega) hbv.size
          have hbX := hbv.alloc hbv.size (.cells #[.slice A0 1 c0, .int .i64 ci, .slice A1 k c1, .slice A2 k c2, .slice A3 k c3] 33)
          have hbF := hbX.grown hgr3 hbX.size fun j e => (hg1.1.lt j e).1
          have h3' : ThreeC k (K ++ [y]) := fun t z hz => by
            rcases Nat.lt_or_ge t K.length with h | h
            · rw [List.getElem?_append_left h] at hz
              exact H3.out t z hz
            · rw [List.getElem?_append_right h] at hz
              have e : t - K.length = 0 := by
                have := (List.getElem?_eq_some_iff.1 hz).1
                simp at this
                omega
              rw [e] at hz
              simp only [List.getElem?_cons_zero, Option.some.injEq] at hz
              rw [← hz, hy]
              have := HKl.out
              exact ⟨rfl, by show ci = _; rw [HCI.out]; omega, l1, l2, l3⟩
          have a0' := ho.cell (i := 0) rfl
          have a1' := ho.cell (i := 1) rfl
          have a2' := ho.cell (i := 2) rfl
          have a3' := ho.cell (i := 3) rfl
          have a4' := ho.cell (i := 4) rfl
          have HG3 := Lib.hid hg3
          have HBF := Lib.hid hbF
          have H3' := Lib.hid h3'
          have Hrun := Lib.hid hrun
          have hlen : (K ++ [y]).length = i + 1 := by rw [List.length_append, HKl.out]; rfl
          have HLen := Lib.hid hlen
          clear ho hrj hs0 hs1 hby o0 o1 o2 o3 l1 l2 l3 hq hg1 hul hbv hrun hg3 hgr3 hbX hbF h3' hlen hy
          go_wp2_with (at_builtin; have _t := Hrun; refine wpList_append_eq rfl (.tmp 65) (.tmp 67) 31 rfl _ _ _ _ rfl rfl Hrun.out ?_; clear _t Hrun)
          go_roundw
          case rel => exact ⟨i + 1, _, _, by go_num, by omega, HG3.out, HLen.out, H3'.out, HBF.out⟩
          case measure => simp [intOf]; omega
      · obtain rfl : i = 3 := by omega
        have hf : ∃ (ul : List V5) (K : List Cel), GRs w2.heap.size wr u6 ul K ∧ K.length = 3 ∧ ThreeC k K ∧ Below w2.heap.size w2 wr := ⟨ul, K, HG.out, HKl.out, H3.out, HB.out⟩
        have HF := Lib.hid hf
        clear hf
        go_wp2
        go_meet
        exact HF.out
  case rest =>
    rename World => wx
    obtain ⟨ul, K, hg, hKl, h3, hb⟩ := hcut
    obtain ⟨y0, y1, y2, rfl⟩ : ∃ y0 y1 y2, K = [y0, y1, y2] := by
      match K, hKl with
      | [a, b, c], _ => exact ⟨a, b, c, rfl⟩
    obtain ⟨Px, cx, fx, -, -, hfl, -⟩ := hg.form
    have hul := hg.len
    rw [hKl] at hul
    rw [hul] at fx hfl
    subst fx
    obtain ⟨gl, rfl, -, -, hcl, -⟩ := hfl (by omega)
    obtain ⟨q0, p0, e0⟩ := h3 0 y0 rfl
    obtain ⟨q1, p1, e1⟩ := h3 1 y1 rfl
    obtain ⟨q2, p2, e2⟩ := h3 2 y2 rfl
    obtain ⟨vk0, vs0, vn0, vm0, a00, a01, a02, a03, a04, hc0, i0⟩ := hcl 0 y0 rfl
    obtain ⟨vk1, vs1, vn1, vm1, a10, a11, a12, a13, a14, hc1, i1⟩ := hcl 1 y1 rfl
    obtain ⟨vk2, vs2, vn2, vm2, a20, a21, a22, a23, a24, hc2, i2⟩ := hcl 2 y2 rfl
    rw [add0] at a00 a01 a02 a03 a04 a10 a11 a12 a13 a14 a20 a21 a22 a23 a24
    obtain ⟨n0, hn0⟩ : ∃ q, q = y0.cnt := ⟨_, rfl⟩
    obtain ⟨n1, hn1⟩ : ∃ q, q = y1.cnt := ⟨_, rfl⟩
    obtain ⟨n2, hn2⟩ : ∃ q, q = y2.cnt := ⟨_, rfl⟩
    have ea := join2_even e0 e1
    have eb := join2_even e1 e2
    have ka : ∀ y : Cel, y.key = [4] → y.key.length ≤ 1000000 := fun y h => by rw [h]; simp
    have hqa : (join2 y0 y1).key = [4] := q0
    have hqb : (join2 y1 y2).key = [4] := q1
    have J01 := fun (W : World) (hW : Keeps wx W) => join_any vk0 vs0 vn0 vm0 vk1 vs1 vn1 vm1 y0 y1 k W (hc0.keep hW) (hc1.keep hW) (q0.trans q1.symm) e0 e1 (ka _ q0) (by omega) i0 i1
    have J12 := fun (W : World) (hW : Keeps wx W) => join_any vk1 vs1 vn1 vm1 vk2 vs2 vn2 vm2 y1 y2 k W (hc1.keep hW) (hc2.keep hW) (q1.trans q2.symm) e1 e2 (ka _ q1) (by omega) i1 i2
    have J10 := fun (W : World) (hW : Keeps wx W) => join_any vk1 vs1 vn1 vm1 vk0 vs0 vn0 vm0 y1 y0 k W (hc1.keep hW) (hc0.keep hW) (q1.trans q0.symm) e1 e0 (ka _ q1) (by omega) i1 i0
    rw [join2_comm (q1.trans q0.symm)] at J10
    have JA2 := fun (kv sv nv mv : Value) (W : World) (hW : Keeps wx W) (h : CR W kv sv nv mv (join2 y0 y1)) => join_any kv sv nv mv vk2 vs2 vn2 vm2 (join2 y0 y1) y2 k W h (hc2.keep hW) (hqa.trans q2.symm) ea e2 (ka _ hqa) (by omega) join2_ok i2
    have J0B := fun (kv sv nv mv : Value) (W : World) (hW : Keeps wx W) (h : CR W kv sv nv mv (join2 y1 y2)) => join_any vk0 vs0 vn0 vm0 kv sv nv mv y0 (join2 y1 y2) k W (hc0.keep hW) h (q0.trans hqb.symm) e0 eb (ka _ q0) (by omega) i0 join2_ok
    rw [join2_assoc] at JA2
    have EQ1 := fun (k1 s1 n1 m1 k2 s2 n2 m2 : Value) (W : World) (h1 : CR W k1 s1 n1 m1 (join2 y0 y1)) (h2 : CR W k2 s2 n2 m2 (join2 y0 y1)) => equal_yes k1 s1 n1 m1 k2 s2 n2 m2 (join2 y0 y1) W h1 h2 (ka _ hqa) (by have := ea.1; omega) (by have := ea.2.1; omega) (by have := ea.2.2; omega)
    have ec := join2_even e0 eb
    have EQ2 := fun (k1 s1 n1 m1 k2 s2 n2 m2 : Value) (W : World) (h1 : CR W k1 s1 n1 m1 (join2 y0 (join2 y1 y2))) (h2 : CR W k2 s2 n2 m2 (join2 y0 (join2 y1 y2))) => equal_yes k1 s1 n1 m1 k2 s2 n2 m2 (join2 y0 (join2 y1 y2)) W h1 h2 (ka _ q0) (by have := ec.1; omega) (by have := ec.2.1; omega) (by have := ec.2.2; omega)
    have hca : (join2 y0 y1).cnt = 3 := by
      show wrap64 (y0.cnt + y1.cnt) = 3
      rw [p0, p1]
      unfold wrap64
      omega
    rw [← hn0] at a01
    rw [← hn1] at a11
    rw [← hn2] at a21
    rw [← hn0, ← hn1] at J01 J10
    rw [← hn1, ← hn2] at J12
    rw [← hn2] at JA2
    rw [← hn0] at J0B
    obtain ⟨yab, hab⟩ : ∃ q, q = join2 y0 y1 := ⟨_, rfl⟩
    obtain ⟨ybc, hbc⟩ : ∃ q, q = join2 y1 y2 := ⟨_, rfl⟩
    rw [← hbc] at J12 JA2 J0B EQ2
    rw [← hab] at J01 J10 JA2 EQ1 hca
    obtain ⟨yabc, habc⟩ : ∃ q, q = join2 y0 ybc := ⟨_, rfl⟩
    rw [← habc] at JA2 J0B EQ2
    have HJ01 := Lib.hid J01
    have HJ12 := Lib.hid J12
    have HJ10 := Lib.hid J10
    have HJA2 := Lib.hid JA2
    have HJ0B := Lib.hid J0B
    have HE1 := Lib.hid EQ1
    have HE2 := Lib.hid EQ2
    have HCA := Lib.hid hca
    have HBx := Lib.hid hb
    clear J01 J12 J10 JA2 J0B EQ1 EQ2 hca hab hbc habc ea eb ec ka hqa hqb e0 e1 e2 q0 q1 q2 p0 p1 p2 hc0 hc1 hc2 i0 i1 i2 hcl h3 hg hul hKl hb N0 hn0 hn1 hn2
    go_upto_region 17 with (fail)
    go_cut [11, 12] from 69 to 82 (fun s11 s12 wy => BoxC wx.heap.size wy s11 yab ∧ BoxC wx.heap.size wy s12 ybc ∧ Below wx.heap.size wx wy)
    case first =>
      refine wp_region_held_drew (S := fun W => Keeps wx W) (by kernel_rfl) ((Keeps.refl wx).drewN 1) (fun hHeld => ?_)
      refine wpAnyH_take (i := 0) (v := ?vq0) rfl (by kernel_rfl) (by kernel_rfl) (by kernel_rfl) (fun _ _ _ h => h) (Or.inl ⟨by rfl, ?yq0⟩) hHeld ?rq0
      case yq0 => (intro W hW; go_simp; first | done | with_reducible rfl)
      try simp only [List.getElem_toArray, List.getElem_cons_zero, Act.put, List.setIfInBounds_toArray, List.set_cons_zero, List.set_cons_succ]
      refine wpAnyH_take (i := 1) (v := ?vq1) rfl (by kernel_rfl) (by kernel_rfl) (by kernel_rfl) (fun _ _ _ h => h) (Or.inl ⟨by rfl, ?yq1⟩) hHeld ?rq1
      case yq1 => (intro W hW; go_simp; first | done | with_reducible rfl)
      try simp only [List.getElem_toArray, List.getElem_cons_succ, List.getElem_cons_zero, Act.put, List.setIfInBounds_toArray, List.set_cons_zero, List.set_cons_succ]
      refine wpAnyH_take (i := 2) (v := ?vq2) rfl (by kernel_rfl) (by kernel_rfl) (by kernel_rfl) (fun _ _ _ h => h) (Or.inl ⟨by rfl, ?yq2⟩) hHeld ?rq2
      case yq2 => (intro W hW; have g0 := hW _ _ a00; have g1 := hW _ _ a01; have g2 := hW _ _ a02; have g3 := hW _ _ a03; have g4 := hW _ _ a04; clear hW; go_simp; first | done | with_reducible rfl)
      try simp only [List.getElem_toArray, List.getElem_cons_succ, List.getElem_cons_zero, Act.put, List.setIfInBounds_toArray, List.set_cons_zero, List.set_cons_succ]
      refine wpAnyH_take (i := 3) (v := ?vq3) rfl (by kernel_rfl) (by kernel_rfl) (by kernel_rfl) (fun _ _ _ h => h) (Or.inl ⟨by rfl, ?yq3⟩) hHeld ?rq3
      case yq3 => (intro W hW; go_simp; first | done | with_reducible rfl)
      try simp only [List.getElem_toArray, List.getElem_cons_succ, List.getElem_cons_zero, Act.put, List.setIfInBounds_toArray, List.set_cons_zero, List.set_cons_succ]
      refine wpAnyH_take (i := 4) (v := ?vq4) rfl (by kernel_rfl) (by kernel_rfl) (by kernel_rfl) (fun _ _ _ h => h) (Or.inl ⟨by rfl, ?yq4⟩) hHeld ?rq4
      case yq4 => (intro W hW; go_simp; first | done | with_reducible rfl)
      try simp only [List.getElem_toArray, List.getElem_cons_succ, List.getElem_cons_zero, Act.put, List.setIfInBounds_toArray, List.set_cons_zero, List.set_cons_succ]
      refine wpAnyH_take (i := 5) (v := ?vq5) rfl (by kernel_rfl) (by kernel_rfl) (by kernel_rfl) (fun _ _ _ h => h) (Or.inl ⟨by rfl, ?yq5⟩) hHeld ?rq5
      case yq5 => (intro W hW; have g0 := hW _ _ a10; have g1 := hW _ _ a11; have g2 := hW _ _ a12; have g3 := hW _ _ a13; have g4 := hW _ _ a14; clear hW; go_simp; first | done | with_reducible rfl)
      try simp only [List.getElem_toArray, List.getElem_cons_succ, List.getElem_cons_zero, Act.put, List.setIfInBounds_toArray, List.set_cons_zero, List.set_cons_succ]
      refine wpAnyH_take (i := 7) (v := ?vq7) rfl (by kernel_rfl) (by kernel_rfl) (by kernel_rfl) (fun _ _ _ h => h) (Or.inl ⟨by rfl, ?yq7⟩) hHeld ?rq7
      case yq7 => (intro W hW; go_simp; first | done | with_reducible rfl)
      try simp only [List.getElem_toArray, List.getElem_cons_succ, List.getElem_cons_zero, Act.put, List.setIfInBounds_toArray, List.set_cons_zero, List.set_cons_succ]
      refine wpAnyH_take (i := 8) (v := ?vq8) rfl (by kernel_rfl) (by kernel_rfl) (by kernel_rfl) (fun _ _ _ h => h) (Or.inl ⟨by rfl, ?yq8⟩) hHeld ?rq8
      case yq8 => (intro W hW; go_simp; first | done | with_reducible rfl)
      try simp only [List.getElem_toArray, List.getElem_cons_succ, List.getElem_cons_zero, Act.put, List.setIfInBounds_toArray, List.set_cons_zero, List.set_cons_succ]
      refine wpAnyH_take (i := 9) (v := ?vq9) rfl (by kernel_rfl) (by kernel_rfl) (by kernel_rfl) (fun _ _ _ h => h) (Or.inl ⟨by rfl, ?yq9⟩) hHeld ?rq9
      case yq9 => (intro W hW; have g0 := hW _ _ a10; have g1 := hW _ _ a11; have g2 := hW _ _ a12; have g3 := hW _ _ a13; have g4 := hW _ _ a14; clear hW; go_simp; first | done | with_reducible rfl)
      try simp only [List.getElem_toArray, List.getElem_cons_succ, List.getElem_cons_zero, Act.put, List.setIfInBounds_toArray, List.set_cons_zero, List.set_cons_succ]
      refine wpAnyH_take (i := 10) (v := ?vq10) rfl (by kernel_rfl) (by kernel_rfl) (by kernel_rfl) (fun _ _ _ h => h) (Or.inl ⟨by rfl, ?yq10⟩) hHeld ?rq10
      case yq10 => (intro W hW; go_simp; first | done | with_reducible rfl)
      try simp only [List.getElem_toArray, List.getElem_cons_succ, List.getElem_cons_zero, Act.put, List.setIfInBounds_toArray, List.set_cons_zero, List.set_cons_succ]
      refine wpAnyH_take (i := 11) (v := ?vq11) rfl (by kernel_rfl) (by kernel_rfl) (by kernel_rfl) (fun _ _ _ h => h) (Or.inl ⟨by rfl, ?yq11⟩) hHeld ?rq11
      case yq11 => (intro W hW; go_simp; first | done | with_reducible rfl)
      try simp only [List.getElem_toArray, List.getElem_cons_succ, List.getElem_cons_zero, Act.put, List.setIfInBounds_toArray, List.set_cons_zero, List.set_cons_succ]
      refine wpAnyH_take (i := 12) (v := ?vq12) rfl (by kernel_rfl) (by kernel_rfl) (by kernel_rfl) (fun _ _ _ h => h) (Or.inl ⟨by rfl, ?yq12⟩) hHeld ?rq12
      case yq12 => (intro W hW; have g0 := hW _ _ a20; have g1 := hW _ _ a21; have g2 := hW _ _ a22; have g3 := hW _ _ a23; have g4 := hW _ _ a24; clear hW; go_simp; first | done | with_reducible rfl)
      try simp only [List.getElem_toArray, List.getElem_cons_succ, List.getElem_cons_zero, Act.put, List.setIfInBounds_toArray, List.set_cons_zero, List.set_cons_succ]
      clear hHeld
      refine any_tabA 4 2 0 qL qA qD qT (fun a X => (((a.put (some 11) (X 0)).put (some 12) (X 1)).put (some 75) (X 2)).put (some 82) (X 3)) qS (fun m b X W => TwoB wx yab ybc m b X W) (fun _ _ _ _ h => Keeps.of_below h.bw) ?hchk ?hfull ?hpc ?hp0 ?hfu ?hli ?hF ?hI ?hL ?hA ?hend
      case hchk => kernel_rfl
      case hfull => decide
      case hpc => decide
      case hp0 => decide
      case hfu => rfl
      case hli => kernel_rfl
      case hF => rfl
      case hI => exact ⟨below_drewN (Below.refl _ wx) 1, fun e => by simp at e, fun e => by simp at e, fun e => by simp at e, fun j hj e => by simp at e, fun e => by omega, fun e => by omega, fun e => by omega, fun e => by omega⟩
      case hL =>
        intro j hj m' b' X W K hb4 hok ht hI hK
        have h := hK (.pointer (some ⟨W.heap.size, 0, none⟩)) (W.alloc (.cells #[.slice none 0 0, .int .i64 0, .slice none 0 0, .slice none 0 0, .slice none 0 0] 33)) (hI.alloc j hj hb4 ht hok)
        clear hK
        simp only [Act.put, List.setIfInBounds_toArray, List.set_cons_zero, List.set_cons_succ] at h ⊢
        rcases (by omega : j = 0 ∨ j = 1) with rfl | rfl
        · change wpOp _ _ _ 14 K _ W
          refine wpOp_step rfl (fun K' hK' => ?_)
          have H := Lib.hid (hK' _ _ h)
          clear h hK'
          go_simp
          exact H.out
        · change wpOp _ _ _ 15 K _ W
          refine wpOp_step rfl (fun K' hK' => ?_)
          have H := Lib.hid (hK' _ _ h)
          clear h hK'
          go_simp
          exact H.out
      case hA =>
        intro q hq b' X W K hb4 hok hI hK
        have hbits : 2 ≤ q → ∀ i, i < 2 → b'.testBit i = true := fun hk2 i hi => by
          simp only [okF, List.all_eq_true, List.mem_range] at hok
          have := hok i hi
          have h2 : decide (qD i < q + 1) = true := decide_eq_true (by show 2 < q + 1; omega)
          rw [h2] at this
          simpa using this
        simp only [Act.put, List.setIfInBounds_toArray, List.set_cons_zero, List.set_cons_succ] at hK ⊢
        rcases (by omega : q = 0 ∨ q = 1 ∨ q = 2 ∨ q = 3) with rfl | rfl | rfl | rfl
        · change wpOp _ _ _ 6 K _ W
          refine wpOp_step rfl (fun K' hK' => ?_)
          go_simp
          refine (HJ01.out W (Keeps.of_below hI.bw)).mono ?_
          rintro e W' ⟨k', s', n', m', rfl, hc, hbw⟩
          have h := hK _ W' (hI.call (by omega) hbw ⟨k', s', n', m', rfl, hc.mono hI.bw.size⟩)
          have H := Lib.hid (hK' _ _ h)
          clear h hK' hK
          exact H.out
        · change wpOp _ _ _ 13 K _ W
          refine wpOp_step rfl (fun K' hK' => ?_)
          go_simp
          refine (HJ12.out W (Keeps.of_below hI.bw)).mono ?_
          rintro e W' ⟨k', s', n', m', rfl, hc, hbw⟩
          have h := hK _ W' (hI.call (by omega) hbw ⟨k', s', n', m', rfl, hc.mono hI.bw.size⟩)
          have H := Lib.hid (hK' _ _ h)
          clear h hK' hK
          exact H.out
        · obtain ⟨g, Pk, lk', ck, Ps, ls, cs', Pn, ln, cn, Pm, lm, cm, e0, e2, hown, hnew⟩ := TwoB.store (j := 0) (.bool true) hI (by omega) (fun i hi _ => hbits (by omega) i hi)
          have h := hK (.bool true) _ hnew
          clear hK
          have z0 : upL X (2 + (2 + 0)) (Value.bool true) 0 = X 0 := upL_ne X _ (by decide)
          have z1 : upL X (2 + (2 + 0)) (Value.bool true) 1 = X 1 := upL_ne X _ (by decide)
          have z2 : upL X (2 + (2 + 0)) (Value.bool true) 2 = X 2 := upL_ne X _ (by decide)
          have z3 : upL X (2 + (2 + 0)) (Value.bool true) 3 = X 3 := upL_ne X _ (by decide)
          change K { tmps := _, defers := _ } _ at h
          change wpOp _ _ _ 16 K _ W
          refine wpOp_step rfl (fun K' hK' => ?_)
          have h' := hK' _ _ h
          rw [z0, z1, z2, z3, e0, e2] at h'
          have H := Lib.hid h'
          have R0 := hown.cell (i := 0) rfl
          have R1 := hown.cell (i := 1) rfl
          have R2 := hown.cell (i := 2) rfl
          have R3 := hown.cell (i := 3) rfl
          have R4 := hown.cell (i := 4) rfl
          have Rf := hown.frozen
          clear h h' hK' hnew hown hI
          rw [e0, e2]
          go_simp
          exact H.out
        · obtain ⟨g, Pk, lk', ck, Ps, ls, cs', Pn, ln, cn, Pm, lm, cm, e0, e2, hown, hnew⟩ := TwoB.store (j := 1) (.bool true) hI (by omega) (fun i hi _ => hbits (by omega) i hi)
          have h := hK (.bool true) _ hnew
          clear hK
          have z0 : upL X (2 + (2 + 1)) (Value.bool true) 0 = X 0 := upL_ne X _ (by decide)
          have z1 : upL X (2 + (2 + 1)) (Value.bool true) 1 = X 1 := upL_ne X _ (by decide)
          have z2 : upL X (2 + (2 + 1)) (Value.bool true) 2 = X 2 := upL_ne X _ (by decide)
          have z3 : upL X (2 + (2 + 1)) (Value.bool true) 3 = X 3 := upL_ne X _ (by decide)
          change K { tmps := _, defers := _ } _ at h
          change wpOp _ _ _ 17 K _ W
          refine wpOp_step rfl (fun K' hK' => ?_)
          have h' := hK' _ _ h
          rw [z0, z1, z2, z3, e0, e2] at h'
          have H := Lib.hid h'
          have R0 := hown.cell (i := 0) rfl
          have R1 := hown.cell (i := 1) rfl
          have R2 := hown.cell (i := 2) rfl
          have R3 := hown.cell (i := 3) rfl
          have R4 := hown.cell (i := 4) rfl
          have Rf := hown.frozen
          clear h h' hK' hnew hown hI
          rw [e0, e2]
          go_simp
          exact H.out
      case hend =>
        intro X W hI
        simp only [Act.put, List.setIfInBounds_toArray, List.set_cons_zero, List.set_cons_succ]
        refine wpAnyH_done (by kernel_rfl) ?_ _
        go_wp2
        go_meet
        exact ⟨hI.d0 (by omega), hI.d1 (by omega), hI.bw⟩
    case rest =>
      rename World => wy
      obtain ⟨⟨ga, ka, sa, na, ma, rfl, -, oa, coa⟩, ⟨gb, kb, sb, nb, mb, rfl, -, ob, cob⟩, bw⟩ := hcut
      obtain ⟨Ak, ak, f1, -⟩ := coa.key.form
      obtain ⟨As, sa', f2, -⟩ := coa.sum.form
      obtain ⟨An, an, f3, -⟩ := coa.mn.form
      obtain ⟨Am, am, f4, -⟩ := coa.mx.form
      obtain ⟨Bk, bk, g1, -⟩ := cob.key.form
      obtain ⟨Bs, bs', g2, -⟩ := cob.sum.form
      obtain ⟨Bn, bn, g3, -⟩ := cob.mn.form
      obtain ⟨Bm, bm, g4, -⟩ := cob.mx.form
      have CA := Lib.hid coa.cr
      have CB := Lib.hid cob.cr
      have b0' := oa.cell (i := 0) rfl
      have b1' := oa.cell (i := 1) rfl
      have b2' := oa.cell (i := 2) rfl
      have b3' := oa.cell (i := 3) rfl
      have b4' := oa.cell (i := 4) rfl
      have c0' := ob.cell (i := 0) rfl
      have c1' := ob.cell (i := 1) rfl
      have c2' := ob.cell (i := 2) rfl
      have c3' := ob.cell (i := 3) rfl
      have c4' := ob.cell (i := 4) rfl
      have kx := Keeps.of_below bw
      replace a00 := kx _ _ a00
      replace a01 := kx _ _ a01
      replace a02 := kx _ _ a02
      replace a03 := kx _ _ a03
      replace a04 := kx _ _ a04
      replace a10 := kx _ _ a10
      replace a11 := kx _ _ a11
      replace a12 := kx _ _ a12
      replace a13 := kx _ _ a13
      replace a14 := kx _ _ a14
      replace a20 := kx _ _ a20
      replace a21 := kx _ _ a21
      replace a22 := kx _ _ a22
      replace a23 := kx _ _ a23
      replace a24 := kx _ _ a24
      obtain ⟨lk1, hlk1⟩ : ∃ q, q = yab.key.length := ⟨_, rfl⟩
      obtain ⟨ls1, hls1⟩ : ∃ q, q = yab.sum.length := ⟨_, rfl⟩
      obtain ⟨ln1, hln1⟩ : ∃ q, q = yab.mn.length := ⟨_, rfl⟩
      obtain ⟨lm1, hlm1⟩ : ∃ q, q = yab.mx.length := ⟨_, rfl⟩
      obtain ⟨lk2, hlk2⟩ : ∃ q, q = ybc.key.length := ⟨_, rfl⟩
      obtain ⟨ls2, hls2⟩ : ∃ q, q = ybc.sum.length := ⟨_, rfl⟩
      obtain ⟨ln2, hln2⟩ : ∃ q, q = ybc.mn.length := ⟨_, rfl⟩
      obtain ⟨lm2, hlm2⟩ : ∃ q, q = ybc.mx.length := ⟨_, rfl⟩
      rw [← hlk1] at f1
      rw [← hls1] at f2
      rw [← hln1] at f3
      rw [← hlm1] at f4
      rw [← hlk2] at g1
      rw [← hls2] at g2
      rw [← hln2] at g3
      rw [← hlm2] at g4
      subst f1 f2 f3 f4 g1 g2 g3 g4
      rw [HCA.out] at b1'
      have HJA2' := HJA2.out
      rw [HCA.out] at HJA2'
      have HJX := Lib.hid HJA2'
      have HE1' := HE1.out
      rw [HCA.out] at HE1'
      have HEX := Lib.hid HE1'
      obtain ⟨cb, hcb⟩ : ∃ q, q = ybc.cnt := ⟨_, rfl⟩
      have HJ0' := HJ0B.out
      rw [← hcb] at HJ0' c1'
      have HJY := Lib.hid HJ0'
      have HJ1' := HJ10.out
      rw [HCA.out] at HJ1'
      have HJZ := Lib.hid HJ1'
      have KX := Lib.hid kx
      have BW := Lib.hid (show Below wy.heap.size wy wy.drew from below_drewN (Below.refl _ _) 1)
      have HBW := Lib.hid bw
      have kw : Keeps wy wy.drew := (Keeps.refl wy).drewN 1
      clear coa cob oa ob bw kx hlk1 hls1 hln1 hlm1 hlk2 hls2 hln2 hlm2 HJA2' HE1' HJ0' HJ1' hcb
      go_upto_region 18 with (fail)
      refine wp_region_held_drew (S := fun W => Keeps wy W) (by kernel_rfl) kw (fun hHeld => ?_)
      refine wpAnyH_take (i := 0) (v := ?vr0) rfl (by kernel_rfl) (by kernel_rfl) (by kernel_rfl) (fun _ _ _ h => h) (Or.inl ⟨by rfl, ?yr0⟩) hHeld ?rr0
      case yr0 => (intro W hW; have g0 := hW _ _ b0'; have g1 := hW _ _ b1'; have g2 := hW _ _ b2'; have g3 := hW _ _ b3'; have g4 := hW _ _ b4'; clear hW; go_simp; first | done | with_reducible rfl)
      try simp only [List.getElem_toArray, List.getElem_cons_zero, Act.put, List.setIfInBounds_toArray, List.set_cons_zero, List.set_cons_succ]
      refine wpAnyH_take (i := 1) (v := ?vr1) rfl (by kernel_rfl) (by kernel_rfl) (by kernel_rfl) (fun _ _ _ h => h) (Or.inl ⟨by rfl, ?yr1⟩) hHeld ?rr1
      case yr1 => (intro W hW; go_simp; first | done | with_reducible rfl)
      try simp only [List.getElem_toArray, List.getElem_cons_succ, List.getElem_cons_zero, Act.put, List.setIfInBounds_toArray, List.set_cons_zero, List.set_cons_succ]
      refine wpAnyH_take (i := 2) (v := ?vr2) rfl (by kernel_rfl) (by kernel_rfl) (by kernel_rfl) (fun _ _ _ h => h) (Or.inl ⟨by rfl, ?yr2⟩) hHeld ?rr2
      case yr2 => (intro W hW; go_simp; first | done | with_reducible rfl)
      try simp only [List.getElem_toArray, List.getElem_cons_succ, List.getElem_cons_zero, Act.put, List.setIfInBounds_toArray, List.set_cons_zero, List.set_cons_succ]
      refine wpAnyH_take (i := 3) (v := ?vr3) rfl (by kernel_rfl) (by kernel_rfl) (by kernel_rfl) (fun _ _ _ h => h) (Or.inl ⟨by rfl, ?yr3⟩) hHeld ?rr3
      case yr3 => (intro W hW; have g0 := hW _ _ a10; have g1 := hW _ _ a11; have g2 := hW _ _ a12; have g3 := hW _ _ a13; have g4 := hW _ _ a14; clear hW; go_simp; first | done | with_reducible rfl)
      try simp only [List.getElem_toArray, List.getElem_cons_succ, List.getElem_cons_zero, Act.put, List.setIfInBounds_toArray, List.set_cons_zero, List.set_cons_succ]
      refine wpAnyH_take (i := 4) (v := ?vr4) rfl (by kernel_rfl) (by kernel_rfl) (by kernel_rfl) (fun _ _ _ h => h) (Or.inl ⟨by rfl, ?yr4⟩) hHeld ?rr4
      case yr4 => (intro W hW; go_simp; first | done | with_reducible rfl)
      try simp only [List.getElem_toArray, List.getElem_cons_succ, List.getElem_cons_zero, Act.put, List.setIfInBounds_toArray, List.set_cons_zero, List.set_cons_succ]
      refine wpAnyH_take (i := 5) (v := ?vr5) rfl (by kernel_rfl) (by kernel_rfl) (by kernel_rfl) (fun _ _ _ h => h) (Or.inl ⟨by rfl, ?yr5⟩) hHeld ?rr5
      case yr5 => (intro W hW; go_simp; first | done | with_reducible rfl)
      try simp only [List.getElem_toArray, List.getElem_cons_succ, List.getElem_cons_zero, Act.put, List.setIfInBounds_toArray, List.set_cons_zero, List.set_cons_succ]
      refine wpAnyH_take (i := 6) (v := ?vr6) rfl (by kernel_rfl) (by kernel_rfl) (by kernel_rfl) (fun _ _ _ h => h) (Or.inl ⟨by rfl, ?yr6⟩) hHeld ?rr6
      case yr6 => (intro W hW; have g0 := hW _ _ a00; have g1 := hW _ _ a01; have g2 := hW _ _ a02; have g3 := hW _ _ a03; have g4 := hW _ _ a04; clear hW; go_simp; first | done | with_reducible rfl)
      try simp only [List.getElem_toArray, List.getElem_cons_succ, List.getElem_cons_zero, Act.put, List.setIfInBounds_toArray, List.set_cons_zero, List.set_cons_succ]
      refine wpAnyH_ready (rs := [7]) (by kernel_rfl) (by simp) ?_
      refine AllReadyH.cons rfl (fun K hK => ?_) (AllReadyH.nil)
      go_simp
      refine (HJZ.out _ (KX.out.trans (Keeps.of_below BW.out))).mono ?_
      rintro e V1 ⟨k1', s1', n1', m1', rfl, hco, hbv⟩
      have BW' := Lib.hid (BW.out.trans (hbv.mono BW.out.size))
      have CC := Lib.hid hco.cr
      have CA1 := Lib.hid ((CA.out.keep (Keeps.of_below BW.out)).keep (Keeps.of_below hbv))
      clear hco
      clear hbv BW
      have BW := BW'
      clear BW'
      refine hK.out _ _ (Keeps.of_below BW.out) (fun hHeld => ?_)
      clear hK K
      try simp only [List.getElem_toArray, List.getElem_cons_succ, List.getElem_cons_zero, Act.put, List.setIfInBounds_toArray, List.set_cons_zero, List.set_cons_succ]
      refine wpAnyH_ready (rs := [8]) (by kernel_rfl) (by simp) ?_
      refine AllReadyH.cons rfl (fun K hK => ?_) (AllReadyH.nil)
      go_simp
      refine (HEX.out _ _ _ _ _ _ _ _ _ CA1.out CC.out).mono ?_
      rintro e V2 ⟨rfl, hbv⟩
      have BW' := Lib.hid (BW.out.trans (hbv.mono BW.out.size))
      clear hbv BW
      have BW := BW'
      clear BW'
      refine hK.out _ _ (Keeps.of_below BW.out) (fun hHeld => ?_)
      clear hK K
      try simp only [List.getElem_toArray, List.getElem_cons_succ, List.getElem_cons_zero, Act.put, List.setIfInBounds_toArray, List.set_cons_zero, List.set_cons_succ]
      refine wpAnyH_take (i := 9) (v := ?vr9) rfl (by kernel_rfl) (by kernel_rfl) (by kernel_rfl) (fun _ _ _ h => h) (Or.inl ⟨by rfl, ?yr9⟩) hHeld ?rr9
      case yr9 => (intro W hW; go_simp; first | done | with_reducible rfl)
      try simp only [List.getElem_toArray, List.getElem_cons_succ, List.getElem_cons_zero, Act.put, List.setIfInBounds_toArray, List.set_cons_zero, List.set_cons_succ]
      refine wpAnyH_take (i := 10) (v := ?vr10) rfl (by kernel_rfl) (by kernel_rfl) (by kernel_rfl) (fun _ _ _ h => h) (Or.inl ⟨by rfl, ?yr10⟩) hHeld ?rr10
      case yr10 => (intro W hW; have g0 := hW _ _ b0'; have g1 := hW _ _ b1'; have g2 := hW _ _ b2'; have g3 := hW _ _ b3'; have g4 := hW _ _ b4'; clear hW; go_simp; first | done | with_reducible rfl)
      try simp only [List.getElem_toArray, List.getElem_cons_succ, List.getElem_cons_zero, Act.put, List.setIfInBounds_toArray, List.set_cons_zero, List.set_cons_succ]
      refine wpAnyH_take (i := 11) (v := ?vr11) rfl (by kernel_rfl) (by kernel_rfl) (by kernel_rfl) (fun _ _ _ h => h) (Or.inl ⟨by rfl, ?yr11⟩) hHeld ?rr11
      case yr11 => (intro W hW; go_simp; first | done | with_reducible rfl)
      try simp only [List.getElem_toArray, List.getElem_cons_succ, List.getElem_cons_zero, Act.put, List.setIfInBounds_toArray, List.set_cons_zero, List.set_cons_succ]
      refine wpAnyH_take (i := 12) (v := ?vr12) rfl (by kernel_rfl) (by kernel_rfl) (by kernel_rfl) (fun _ _ _ h => h) (Or.inl ⟨by rfl, ?yr12⟩) hHeld ?rr12
      case yr12 => (intro W hW; go_simp; first | done | with_reducible rfl)
      try simp only [List.getElem_toArray, List.getElem_cons_succ, List.getElem_cons_zero, Act.put, List.setIfInBounds_toArray, List.set_cons_zero, List.set_cons_succ]
      refine wpAnyH_take (i := 13) (v := ?vr13) rfl (by kernel_rfl) (by kernel_rfl) (by kernel_rfl) (fun _ _ _ h => h) (Or.inl ⟨by rfl, ?yr13⟩) hHeld ?rr13
      case yr13 => (intro W hW; have g0 := hW _ _ a20; have g1 := hW _ _ a21; have g2 := hW _ _ a22; have g3 := hW _ _ a23; have g4 := hW _ _ a24; clear hW; go_simp; first | done | with_reducible rfl)
      try simp only [List.getElem_toArray, List.getElem_cons_succ, List.getElem_cons_zero, Act.put, List.setIfInBounds_toArray, List.set_cons_zero, List.set_cons_succ]
      refine wpAnyH_take (i := 15) (v := ?vr15) rfl (by kernel_rfl) (by kernel_rfl) (by kernel_rfl) (fun _ _ _ h => h) (Or.inl ⟨by rfl, ?yr15⟩) hHeld ?rr15
      case yr15 => (intro W hW; go_simp; first | done | with_reducible rfl)
      try simp only [List.getElem_toArray, List.getElem_cons_succ, List.getElem_cons_zero, Act.put, List.setIfInBounds_toArray, List.set_cons_zero, List.set_cons_succ]
      refine wpAnyH_take (i := 16) (v := ?vr16) rfl (by kernel_rfl) (by kernel_rfl) (by kernel_rfl) (fun _ _ _ h => h) (Or.inl ⟨by rfl, ?yr16⟩) hHeld ?rr16
      case yr16 => (intro W hW; go_simp; first | done | with_reducible rfl)
      try simp only [List.getElem_toArray, List.getElem_cons_succ, List.getElem_cons_zero, Act.put, List.setIfInBounds_toArray, List.set_cons_zero, List.set_cons_succ]
      refine wpAnyH_take (i := 17) (v := ?vr17) rfl (by kernel_rfl) (by kernel_rfl) (by kernel_rfl) (fun _ _ _ h => h) (Or.inl ⟨by rfl, ?yr17⟩) hHeld ?rr17
      case yr17 => (intro W hW; have g0 := hW _ _ a00; have g1 := hW _ _ a01; have g2 := hW _ _ a02; have g3 := hW _ _ a03; have g4 := hW _ _ a04; clear hW; go_simp; first | done | with_reducible rfl)
      try simp only [List.getElem_toArray, List.getElem_cons_succ, List.getElem_cons_zero, Act.put, List.setIfInBounds_toArray, List.set_cons_zero, List.set_cons_succ]
      refine wpAnyH_take (i := 18) (v := ?vr18) rfl (by kernel_rfl) (by kernel_rfl) (by kernel_rfl) (fun _ _ _ h => h) (Or.inl ⟨by rfl, ?yr18⟩) hHeld ?rr18
      case yr18 => (intro W hW; have g0 := hW _ _ c0'; have g1 := hW _ _ c1'; have g2 := hW _ _ c2'; have g3 := hW _ _ c3'; have g4 := hW _ _ c4'; clear hW; go_simp; first | done | with_reducible rfl)
      try simp only [List.getElem_toArray, List.getElem_cons_succ, List.getElem_cons_zero, Act.put, List.setIfInBounds_toArray, List.set_cons_zero, List.set_cons_succ]
      refine wpAnyH_ready (rs := [14]) (by kernel_rfl) (by simp) ?_
      refine AllReadyH.cons rfl (fun K hK => ?_) (AllReadyH.nil)
      go_simp
      refine (HJX.out _ _ _ _ _ (KX.out.trans (Keeps.of_below BW.out)) (CA.out.keep (Keeps.of_below BW.out))).mono ?_
      rintro e V3 ⟨k3', s3', n3', m3', rfl, hco, hbv⟩
      have BW' := Lib.hid (BW.out.trans (hbv.mono BW.out.size))
      have CD := Lib.hid hco.cr
      clear hco
      clear hbv BW
      have BW := BW'
      clear BW'
      refine hK.out _ _ (Keeps.of_below BW.out) (fun hHeld => ?_)
      clear hK K
      try simp only [List.getElem_toArray, List.getElem_cons_succ, List.getElem_cons_zero, Act.put, List.setIfInBounds_toArray, List.set_cons_zero, List.set_cons_succ]
      refine wpAnyH_ready (rs := [19]) (by kernel_rfl) (by simp) ?_
      refine AllReadyH.cons rfl (fun K hK => ?_) (AllReadyH.nil)
      go_simp
      refine (HJY.out _ _ _ _ _ (KX.out.trans (Keeps.of_below BW.out)) (CB.out.keep (Keeps.of_below BW.out))).mono ?_
      rintro e V4 ⟨k4', s4', n4', m4', rfl, hco, hbv⟩
      have BW' := Lib.hid (BW.out.trans (hbv.mono BW.out.size))
      have CE := Lib.hid hco.cr
      have CD1 := Lib.hid (CD.out.keep (Keeps.of_below hbv))
      clear hco
      clear hbv BW
      have BW := BW'
      clear BW'
      refine hK.out _ _ (Keeps.of_below BW.out) (fun hHeld => ?_)
      clear hK K
      try simp only [List.getElem_toArray, List.getElem_cons_succ, List.getElem_cons_zero, Act.put, List.setIfInBounds_toArray, List.set_cons_zero, List.set_cons_succ]
      refine wpAnyH_ready (rs := [20]) (by kernel_rfl) (by simp) ?_
      refine AllReadyH.cons rfl (fun K hK => ?_) (AllReadyH.nil)
      go_simp
      refine (HE2.out _ _ _ _ _ _ _ _ _ CD1.out CE.out).mono ?_
      rintro e V5 ⟨rfl, hbv⟩
      have BW' := Lib.hid (BW.out.trans (hbv.mono BW.out.size))
      clear hbv BW
      have BW := BW'
      clear BW'
      refine hK.out _ _ (Keeps.of_below BW.out) (fun hHeld => ?_)
      clear hK K
      try simp only [List.getElem_toArray, List.getElem_cons_succ, List.getElem_cons_zero, Act.put, List.setIfInBounds_toArray, List.set_cons_zero, List.set_cons_succ]
      refine wpAnyH_take (i := 21) (v := ?vr21) rfl (by kernel_rfl) (by kernel_rfl) (by kernel_rfl) (fun _ _ _ h => h) (Or.inl ⟨by rfl, ?yr21⟩) hHeld ?rr21
      case yr21 => (intro W hW; go_simp; first | done | with_reducible rfl)
      try simp only [List.getElem_toArray, List.getElem_cons_succ, List.getElem_cons_zero, Act.put, List.setIfInBounds_toArray, List.set_cons_zero, List.set_cons_succ]
      refine wpAnyH_take (i := 22) (v := ?vr22) rfl (by kernel_rfl) (by kernel_rfl) (by kernel_rfl) (fun _ _ _ h => h) (Or.inl ⟨by rfl, ?yr22⟩) hHeld ?rr22
      case yr22 => (intro W hW; go_simp; first | done | with_reducible rfl)
      try simp only [List.getElem_toArray, List.getElem_cons_succ, List.getElem_cons_zero, Act.put, List.setIfInBounds_toArray, List.set_cons_zero, List.set_cons_succ]
      refine wpAnyH_take (i := 23) (v := ?vr23) rfl (by kernel_rfl) (by kernel_rfl) (by kernel_rfl) (fun _ _ _ h => h) (Or.inl ⟨by rfl, ?yr23⟩) hHeld ?rr23
      case yr23 => (intro W hW; go_simp; first | done | with_reducible rfl)
      try simp only [List.getElem_toArray, List.getElem_cons_succ, List.getElem_cons_zero, Act.put, List.setIfInBounds_toArray, List.set_cons_zero, List.set_cons_succ]
      refine wpAnyH_take (i := 24) (v := ?vr24) rfl (by kernel_rfl) (by kernel_rfl) (by kernel_rfl) (fun _ _ _ h => h) (Or.inl ⟨by rfl, ?yr24⟩) hHeld ?rr24
      case yr24 => (intro W hW; have g0 := hW _ _ b0'; have g1 := hW _ _ b1'; have g2 := hW _ _ b2'; have g3 := hW _ _ b3'; have g4 := hW _ _ b4'; clear hW; go_simp; first | done | with_reducible rfl)
      try simp only [List.getElem_toArray, List.getElem_cons_succ, List.getElem_cons_zero, Act.put, List.setIfInBounds_toArray, List.set_cons_zero, List.set_cons_succ]
      refine wpAnyH_take (i := 25) (v := ?vr25) rfl (by kernel_rfl) (by kernel_rfl) (by kernel_rfl) (fun _ _ _ h => h) (Or.inl ⟨by rfl, ?yr25⟩) hHeld ?rr25
      case yr25 => (intro W hW; go_simp; first | done | with_reducible rfl)
      try simp only [List.getElem_toArray, List.getElem_cons_succ, List.getElem_cons_zero, Act.put, List.setIfInBounds_toArray, List.set_cons_zero, List.set_cons_succ]
      refine wpAnyH_take (i := 26) (v := ?vr26) rfl (by kernel_rfl) (by kernel_rfl) (by kernel_rfl) (fun _ _ _ h => h) (Or.inl ⟨by rfl, ?yr26⟩) hHeld ?rr26
      case yr26 => (intro W hW; go_simp; first | done | with_reducible rfl)
      try simp only [List.getElem_toArray, List.getElem_cons_succ, List.getElem_cons_zero, Act.put, List.setIfInBounds_toArray, List.set_cons_zero, List.set_cons_succ]
      refine wpAnyH_take (i := 27) (v := ?vr27) rfl (by kernel_rfl) (by kernel_rfl) (by kernel_rfl) (fun _ _ _ h => h) (Or.inl ⟨by rfl, ?yr27⟩) hHeld ?rr27
      case yr27 => (intro W hW; go_simp; first | done | with_reducible rfl)
      try simp only [List.getElem_toArray, List.getElem_cons_succ, List.getElem_cons_zero, Act.put, List.setIfInBounds_toArray, List.set_cons_zero, List.set_cons_succ]
      refine wpAnyH_done (by kernel_rfl) ?_ _
      go_wp2
      go_ret
      exact ⟨rfl, (Hb.out.trans ((HBx.out.trans (HBW.out.mono HBx.out.size)).mono Hb.out.size)).trans (BW.out.mono (Nat.le_trans Hb.out.size (Nat.le_trans HBx.out.size HBW.out.size)))⟩
end Go.Proofs.YtbkcclmhgnplcaaDoor
