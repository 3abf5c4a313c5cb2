/- slices.Grow, slices.Concat of two rows of numbers. -/
import Derived.Shelf.Spec.SlicesGrow
import Derived.Shelf.Lay
import Derived.Shelf.LaySoft
import Derived.Shelf.SlGeneric
import Derived.Ground.Names8Prog
import Derived.Deep.Upon
import Derived.IntWalk
import Derived.Test.YtjllmladhjbnaaaGreatDoorMatUA
import Derived.Test.YtjllmladhjbnaaaGreatDoorSoA
namespace Go.Proofs.YtjllmladhjbnaaaGreatDoor
open Go.RowKit Go.Shelf
attribute [local go_sem] Oper.semAt_some
def growL_ren : Go.Shelf.Ren := ⟨fun | 4 => 63 | n => n, fun | 22 => 22 | 25 => 3 | 3 => 3 | 4 => 4 | 9 => 9 | 20 => 20 | 0 => 0 | n => n, fun | n => n⟩
theorem growL : Go.Proofs.Lays8.n4 Tryz.prog growL_ren := {
  mixed := by kernel_rfl
  f4 := ⟨Tryz.f63.name, by decide, Tryz.func63.trans (congrArg some (by kernel_rfl))⟩
  t0 := Tryz.underlying0
  a0 := Tryz.isAgg0
  z0 := Tryz.sizeOf0
  v0 := Tryz.zeroValue0
  t3 := Tryz.underlying3
  a3 := Tryz.isAgg3
  z3 := Tryz.sizeOf3
  v3 := Tryz.zeroValue3
  t4 := Tryz.underlying4
  a4 := Tryz.isAgg4
  z4 := Tryz.sizeOf4
  v4 := Tryz.zeroValue4
  t9 := Tryz.underlying9
  a9 := Tryz.isAgg9
  z9 := Tryz.sizeOf9
  v9 := Tryz.zeroValue9
  t20 := Tryz.underlying20
  a20 := Tryz.isAgg20
  z20 := Tryz.sizeOf20
  v20 := Tryz.zeroValue20
  t22 := Tryz.underlying22
  a22 := Tryz.isAgg22
  z22 := Tryz.sizeOf22
  v22 := Tryz.zeroValue22 }
theorem grow_any (n : Nat) (w : World) (h1 : 1 ≤ n) (h2 : n ≤ 1000) :
    Calls Tryz.prog 63 #[.slice none 0 0, .int .i64 n] w fun e w' => ∃ v, e = .returned v ∧ OI w.heap.size w' v [] ∧ Below w.heap.size w w' := by
  obtain ⟨i0, hi, hz0, hz1, hz2⟩ := info_parts infoI
  have h := Any8.slices_Grow_grow growL i0 _ hi hz0 (by omega) none 0 0 n [] w (Nat.le_refl _) (by omega) (by rw [hz2]; omega) (by omega) (by simp) (fun _ => rfl) (fun a h => by cases h)
  refine h.mono ?_
  rintro e w' ⟨rfl, rfl⟩
  refine ⟨_, rfl, ⟨⟨rfl, .inr ⟨w.heap.size, grownCap w (0 + n) 0 3, _, rfl, Nat.le_refl _, heap_alloc_new w.drew _, Nat.zero_le _, ?_, ?_, rfl⟩⟩, fun x hx => by simp at hx⟩, ((Below.refl _ w).drew).alloc (Nat.le_refl _) _⟩
  · exact grownCap_le_maxLen w (0 + n) 0 _ (by unfold maxLen; omega)
  · have hg := grownCap_ge w (0 + n) 0 3
    have e25 : growL_ren.t 25 = 3 := rfl
    rw [Array.size_append, Array.size_append, size_zeroCells, size_zeroCells, e25]
    rw [Nat.zero_add] at hg ⊢
    simp [Value.cells]
    omega
/-- A row of numbers is appended to one of the call's own. -/
theorem oi_appendN {B : Nat} {w : World} {v : Value} {xs ys : List Int} {A : Option Addr} {m c : Nat} (h : OI B w v xs) (hy : Nums .i64 w A m ys) (hn : xs.length + m ≤ 1000) (hB : B ≤ w.heap.size) :
    ∃ v' w', (Builtin.append_ #[22, 22] 22 #[v, .slice A m c]).run Tryz.prog w = .ok v' w' ∧ OI B w' v' (xs ++ ys) ∧ Below B w w' := by
  obtain ⟨i0, hi, hz0, hz1, hz2⟩ := info_parts infoI
  by_cases hm : 0 < m
  · obtain ⟨ad, rfl, hc⟩ := hy.2.2 hm
    obtain ⟨v', w', hrun, ho', hgr, _, _⟩ := run_append_own_at (P := Tryz.prog) w B 22 22 3 i0 _ 1 8 Tryz.underlying22 hi hz0 hz1 hz2 rfl (by omega) v xs.length (ints xs) h.1
      ad m c (ints ys) (by simp [ints, hy.len]) (fun j u hu => by
        simp only [ints, List.getElem?_map] at hu
        cases hj : ys[j]? with
        | none => rw [hj] at hu; simp at hu
        | some y => rw [hj] at hu; simp at hu; subst hu; exact hc j y hj)
      (by intro u hu; simp [ints] at hu; obtain ⟨y, -, rfl⟩ := hu; rfl) (by simp [maxLen]; omega) (by omega) hB
    refine ⟨v', w', hrun, ⟨by rw [List.length_append, hy.len]; simpa [ints] using ho', fun x hx => ?_⟩, (Below.refl B w).grown hgr hB (fun k e => (h.1.lt k e).1)⟩
    rcases List.mem_append.1 hx with g | g
    · exact h.2 x g
    · exact hy.ok x g
  · obtain rfl : m = 0 := by omega
    obtain rfl : ys = [] := List.eq_nil_of_length_eq_zero hy.len
    obtain ⟨P, c', rfl, h5, -, -, -⟩ := h.form
    have hs : ∀ W : World, Src Tryz.prog i0.size 22 (.slice A 0 c) 0 [] W := fun W => by
      cases A with
      | none => exact Src.ofNil W Tryz.underlying22 c
      | some ad => exact Src.ofSlice W Tryz.underlying22 ad 0 c [] (by simp) (fun j u hu => by simp at hu) (fun u hu => by simp at hu)
    refine ⟨_, w, run_append_nothing w 22 22 22 3 i0 Tryz.underlying22 hi P xs.length c' h5 _ (hs w), by rw [List.append_nil]; exact h, Below.refl _ _⟩
/-- How many numbers rows have, the first ones. -/
def totR (R : List (List Int)) (k : Nat) : Nat := ((R.take k).map List.length).sum
theorem totR_succ {R : List (List Int)} {k : Nat} {r : List Int} (h : R[k]? = some r) : totR R (k + 1) = totR R k + r.length := by
  unfold totR
  rw [List.take_add_one, h, List.map_append, List.sum_append]; simp
theorem cat_succ {R : List (List Int)} {k : Nat} {r : List Int} (h : R[k]? = some r) : (R.take (k + 1)).flatten = (R.take k).flatten ++ r := by
  rw [List.take_add_one, h, List.flatten_append]; simp
theorem cat_len (R : List (List Int)) (k : Nat) : (R.take k).flatten.length = totR R k := by
  unfold totR; rw [List.length_flatten]
theorem totR_le {R : List (List Int)} : ∀ {k m : Nat}, k ≤ m → totR R k ≤ totR R m := by
  intro k m h
  unfold totR
  obtain ⟨d, rfl⟩ := Nat.exists_eq_add_of_le h
  rw [List.take_add, List.map_append, List.sum_append]
  omega
set_option maxRecDepth 100000 in
set_option maxHeartbeats 4000000 in
theorem concat_any (A : Option Addr) (n c : Nat) (R : List (List Int)) (w : World) (hM : Mat w A n R) (h1 : 1 ≤ totR R n) (h2 : totR R n ≤ 500) (hn : n ≤ 1000) :
    Calls Tryz.prog 34 #[.slice A n c] w fun e w' => ∃ v, e = .returned v ∧ OI w.heap.size w' v R.flatten ∧ Below w.heap.size w w' := by
  have HM := Lib.hid hM
  have hRl := hM.1
  have HH2 := Lib.hid h2
  have HG := Lib.hid (grow_any (totR R n) w h1 (by omega))
  clear hM
  go_enter Tryz.func34, Tryz.ntmps34
  go_wp2
  go_loopw [3, 11] (fun s i wr => ∃ k : Nat, i = .int .i64 k ∧ k ≤ n ∧ s = .int .i64 (totR R k) ∧ w = wr) (fun _ i _ => n - (intOf i).toNat)
  case atStart => exact ⟨0, rfl, Nat.zero_le _, rfl, rfl⟩
  case round =>
    obtain ⟨k, rfl, hk, rfl, rfl⟩ := hrel
    by_cases hkn : k < n
    · obtain ⟨ad, r, B, d, rfl, hr, hcr, hnr⟩ := HM.out.at_ hkn
      have hts := totR_succ hr
      have htl := totR_le (R := R) (show k + 1 ≤ n by omega)
      have ht2 := HH2.out
      obtain ⟨m, hm⟩ : ∃ m, m = r.length := ⟨_, rfl⟩
      rw [← hm] at hcr hts
      obtain ⟨tk, htk⟩ : ∃ t, t = totR R k := ⟨_, rfl⟩
      rw [← htk] at hts ⊢
      have HTS := Lib.hid hts
      have hb1 : tk ≤ 500 := by omega
      have hb2 : m ≤ 500 := by omega
      have hb3 : tk + m ≤ 500 := by omega
      have k0 : (0 : Int) ≤ (k : Int) := by omega
      have k1 : (k : Int) < (n : Int) := by omega
      have hw : IntKind.i64.wrap ((tk : Int) + (m : Int)) = ((tk + m : Nat) : Int) := by rw [IntWalk.i64_in _ (by omega)]; push_cast; rfl
      have hng : ¬ ((tk + m : Nat) : Int) < 0 := by omega
      have hng2 : decide (((tk + m : Nat) : Int) < 0) = false := by simp; omega
      clear hr hnr hts htl ht2 hm htk h1 h2 hRl
      go_wp2
      go_roundw
      case rel => exact ⟨k + 1, by go_num, by omega, by rw [HTS.out]; go_num, trivial⟩
      case measure => simp [intOf]; omega
    · obtain rfl : k = n := by omega
      clear h1 h2 hRl
      go_wp2_with fail
      refine HG.out.mono ?_
      rintro e w1 ⟨v1, rfl, ho1, hb1⟩
      have HO1 := Lib.hid ho1
      have HB1 := Lib.hid hb1
      clear ho1 hb1
      go_wp2_with fail
      go_loopw [6, 27] (fun v i wr => ∃ j : Nat, i = .int .i64 j ∧ j ≤ k ∧ OI w.heap.size wr v (R.take j).flatten ∧ Below w.heap.size w wr) (fun _ i _ => k - (intOf i).toNat)
      case atStart => exact ⟨0, rfl, Nat.zero_le _, HO1.out, HB1.out⟩
      case round =>
        obtain ⟨j, rfl, hj, ho, hb⟩ := hrel
        rename World => wr
        have HO := Lib.hid ho
        have HB := Lib.hid hb
        have hz := hb.size
        clear ho hb HO1 HB1
        by_cases hjk : j < k
        · obtain ⟨ad, r, B, d, rfl, hr, hcr, hnr⟩ := (HM.out.keep (Keeps.of_below HB.out)).at_ hjk
          have hcs := cat_succ hr
          have htl := totR_le (R := R) (show j + 1 ≤ k by omega)
          have hts := totR_succ hr
          have ht2 := HH2.out
          have hcl := cat_len R j
          obtain ⟨v', w', hrun, ho', hb'⟩ := oi_appendN (c := d) HO.out hnr (by omega) hz
          rw [← hcs] at ho'
          have HO' := Lib.hid ho'
          have HB' := Lib.hid (HB.out.trans hb')
          have Hrun := Lib.hid hrun
          have j0 : (0 : Int) ≤ (j : Int) := by omega
          have j1 : (j : Int) < (k : Int) := by omega
          clear hr hnr hcs htl hts ht2 hcl hrun ho' hb'
          go_wp2_with (at_builtin; have _t := Hrun; refine wpList_append_eq rfl (.tmp 31) (.tmp 32) 22 rfl _ _ _ _ rfl rfl Hrun.out ?_; clear _t Hrun)
          go_roundw
          case rel => exact ⟨j + 1, by go_num, by omega, HO'.out, HB'.out⟩
          case measure => simp [intOf]; omega
        · obtain rfl : j = k := by omega
          have ho := HO.out
          rw [show R.take j = R from List.take_of_length_le (by rw [HM.out.1]; omega)] at ho
          have HO2 := Lib.hid ho
          clear ho
          go_wp2
          go_ret
          exact ⟨_, rfl, HO2.out, HB.out⟩
end Go.Proofs.YtjllmladhjbnaaaGreatDoor
