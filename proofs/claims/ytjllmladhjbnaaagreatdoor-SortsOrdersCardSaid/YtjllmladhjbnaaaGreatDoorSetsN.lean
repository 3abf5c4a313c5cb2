/- Package lattice's Sets: what it answers. -/
import Derived.Sort.LotA
import Derived.Shelf.SlSortCmp.Whole1
import Derived.Lib.QuietBelow
import Derived.Test.YtjllmladhjbnaaaGreatDoorSets
import Derived.Test.YtjllmladhjbnaaaGreatDoorSortL
namespace Go.Proofs.YtjllmladhjbnaaaGreatDoor
open Go.RowKit Go.Shelf Go.Sort Go.Lib
attribute [local go_sem] Oper.semAt_some
/-- All sets of so many dimensions, in order. -/
def setsF : Nat → List (Fin 16)
  | 1 => [1, 0]
  | 2 => [3, 1, 2, 0]
  | 3 => [7, 3, 5, 6, 1, 2, 4, 0]
  | 4 => [15, 7, 11, 13, 14, 3, 5, 6, 9, 10, 12, 1, 2, 4, 8, 0]
  | _ => []
def setsL (d : Nat) : List Int := (setsF d).map fun x => (x.val : Int)
def encF (x : Fin 16) : Value := .int .i64 (x.val : Int)
def cfF (x y : Fin 16) : Int := cfS x.val y.val
theorem swoF : SWO (ltOf cfF) where
  irrefl := by decide +kernel
  trans := by decide +kernel
  ntrans := by decide +kernel
theorem totF : ∀ x y : Fin 16, (ltOf cfF) x y = false → (ltOf cfF) y x = false → x = y := by decide +kernel
/-- The numbers from 0 on. -/
def numsF (d : Nat) : List (Fin 16) := (List.range (2 ^ d)).map fun j => Fin.ofNat 16 j
theorem setsF_perm (d : Nat) (h1 : 1 ≤ d) (h2 : d ≤ 4) : (setsF d).Perm (numsF d) := by
  rcases (by omega : d = 1 ∨ d = 2 ∨ d = 3 ∨ d = 4) with rfl | rfl | rfl | rfl <;> decide +kernel
theorem setsF_sorted (d : Nat) (h1 : 1 ≤ d) (h2 : d ≤ 4) : ∀ j, j < 16 → ∀ i, i < 16 → i < j → j < 2 ^ d → (ltOf cfF) (setsF d).toArray[j]! (setsF d).toArray[i]! = false := by
  rcases (by omega : d = 1 ∨ d = 2 ∨ d = 3 ∨ d = 4) with rfl | rfl | rfl | rfl <;> decide +kernel
theorem pow_16 (d : Nat) (h2 : d ≤ 4) : 2 ^ d ≤ 16 ∧ 1 ≤ 2 ^ d := by
  rcases (by omega : d = 0 ∨ d = 1 ∨ d = 2 ∨ d = 3 ∨ d = 4) with rfl | rfl | rfl | rfl | rfl <;> decide
theorem setsF_len (d : Nat) (h1 : 1 ≤ d) (h2 : d ≤ 4) : (setsF d).length = 2 ^ d := by
  rcases (by omega : d = 1 ∨ d = 2 ∨ d = 3 ∨ d = 4) with rfl | rfl | rfl | rfl <;> rfl
theorem setsL_len (d : Nat) (h1 : 1 ≤ d) (h2 : d ≤ 4) : (setsL d).length = 2 ^ d := by unfold setsL; rw [List.length_map, setsF_len d h1 h2]
/-- A row of the numbers of sets that is sorted is that one. -/
theorem sorted_sets (d : Nat) (h1 : 1 ≤ d) (h2 : d ≤ 4) (d' : Array (Fin 16)) (hp : PermIn 0 (numsF d).toArray.size (numsF d).toArray d') (hs : SortedIn (ltOf cfF) 0 (numsF d).toArray.size d') : d'.toList = setsF d := by
  have hl : (numsF d).toArray.size = 2 ^ d := by simp [numsF]
  have e1 := sorted_unique_holds swoF totF (numsF d).toArray d' hp hs
  have p2 : PermIn 0 (numsF d).toArray.size (numsF d).toArray (setsF d).toArray := by
    refine ⟨by rw [hl]; simp [setsF_len d h1 h2], fun i hi => ?_, ?_⟩
    · rcases hi with hi | hi
      · omega
      · rw [getElem!_neg _ i (by simp [setsF_len d h1 h2]; omega), getElem!_neg _ i (by omega)]
    · have a : ((setsF d).toArray.extract 0 (numsF d).toArray.size).toList = setsF d := by
        have z : (setsF d).toArray.size = 2 ^ d := by simp [setsF_len d h1 h2]
        rw [hl, ← z]; simp
      have b : ((numsF d).toArray.extract 0 (numsF d).toArray.size).toList = numsF d := by simp
      rw [a, b]
      exact setsF_perm d h1 h2
  have s2 : SortedIn (ltOf cfF) 0 (numsF d).toArray.size (setsF d).toArray := fun i j _ hij hj => by
    rw [hl] at hj
    have := pow_16 d h2
    exact setsF_sorted d h1 h2 j (by omega) i (by omega) hij hj
  have e2 := sorted_unique_holds swoF totF (numsF d).toArray (setsF d).toArray p2 s2
  rw [e1, ← e2]
theorem below_sortW {w : World} {α : Type} [Inhabited α] (enc : α → Value) (B g n : Nat) (d : Array α) (os : Array Obj) (hB : B ≤ w.heap.size) (hg : B ≤ g) : RowKit.Below B w (sortWorld enc w g 0 n d os) := by
  unfold sortWorld
  refine ⟨rfl, rfl, rfl, ?_, fun q hq => ?_⟩
  · rw [size_grow, Sort.size_putRow]; exact Nat.le_add_right _ _
  · rw [heap_grow_old _ _ (by rw [Sort.size_putRow]; show q < w.heap.size; omega)]
    simp only [putRow, mapBlock, Array.getElem?_modify]
    rw [if_neg (by omega)]
    rfl
/-- A world whose old blocks lie as they lay, no draw taken back: the old one, grown. -/
theorem grow_of_below {w w' : World} (h : RowKit.Below w.heap.size w w') (hd : w'.drawn = w.drawn) : ∃ os, w' = grow w os := by
  obtain ⟨p, hp⟩ := regrown_of_below h
  refine ⟨p.os, ?_⟩
  have e : p.d = w.drawn := by rw [← hd, hp]; rfl
  rw [hp, e]
  rfl
theorem cmpS (blk size : Nat) (w : World) (hT : Tab w) (hw : 1 < w.heap.size) (hb : 1 < blk) : CmpLays1 Tryz.prog 50 #[] encF cfF blk 0 size w := fun m os dk _ x y => by
  have hB := below_sortW (w := w) encF 2 blk m dk os (by omega) (by omega)
  have hT' : Tab (sortWorld encF w blk 0 m dk os) := hT.below hB (by omega)
  have h := sets1_any x.val y.val (sortWorld encF w blk 0 m dk os) (by omega) (by omega) (by omega) (by omega) hT' (by have := hB.size; omega)
  refine h.mono ?_
  rintro e w' ⟨rfl, hb', hd⟩
  obtain ⟨os', he⟩ := grow_of_below hb' hd
  exact ⟨rfl, 0, os', he⟩
def upTo (k N : Nat) : List Int := (List.range N).map fun j => if j < k then (j : Int) else 0
theorem upTo_zero (N : Nat) : upTo 0 N = List.replicate N 0 := by
  unfold upTo
  apply List.ext_getElem
  · simp
  · intro i h1 h2
    simp
theorem upTo_at {k N : Nat} (h : k < N) : (upTo k N)[k]? = some 0 := by
  unfold upTo
  rw [List.getElem?_map, List.getElem?_range h]
  simp
theorem upTo_set {k N : Nat} : (upTo k N).set k (k : Int) = upTo (k + 1) N := by
  unfold upTo
  apply List.ext_getElem
  · simp
  · intro i h1 h2
    simp only [List.getElem_set, List.getElem_map, List.getElem_range]
    split
    · subst_vars; simp
    · split <;> split <;> first | rfl | omega
theorem upTo_get {k N : Nat} (h : k < N) : (upTo N N)[k]? = some (k : Int) := by
  unfold upTo
  rw [List.getElem?_map, List.getElem?_range h]
  simp [h]
set_option maxRecDepth 100000 in
set_option maxHeartbeats 2000000 in
theorem sets_any (d : Nat) (w : World) (hd1 : 1 ≤ d) (hd : d ≤ 4) (hT : Tab w) (hw1 : 1 < w.heap.size) :
    Calls Tryz.prog 24 #[.int .i64 d] w fun e w' => ∃ g, e = .returned (.slice (some ⟨g, 0, none⟩) (2 ^ d) (2 ^ d)) ∧ Nums .i64 w' (some ⟨g, 0, none⟩) (2 ^ d) (setsL d) ∧ RowKit.Below w.heap.size w w' ∧ w.heap.size ≤ g := by
  have HW1 := Lib.hid (cwithin_any d 1 4 w)
  have e1 : (decide ((1 : Int) ≤ d) && decide ((d : Int) ≤ 4)) = true := by simp; omega
  rw [e1] at HW1
  have HF := Lib.hid (full_any d w hd)
  obtain ⟨hN16, hN1⟩ := pow_16 d hd
  obtain ⟨N, hN⟩ : ∃ N, N = 2 ^ d := ⟨_, rfl⟩
  have ef : fullB d = (N : Int) - 1 := by unfold fullB; rw [hN]; push_cast; rfl
  rw [ef] at HF
  rw [← hN] at hN16 hN1 ⊢
  obtain ⟨i0, hi, hz0, hz1, hz2⟩ := info_parts infoI
  have hmk := make_ints (P := Tryz.prog) 22 3 i0 Tryz.underlying22 hi hz0 hz1 hz2 N (by omega) w
  obtain ⟨w1, hw1'⟩ : ∃ w1, w1 = w.alloc (.cells (madeCells #[.int .i64 0] N) 3) := ⟨_, rfl⟩
  have harr := Arr.made w 3 N
  have hb1 := (RowKit.Below.refl w.heap.size w).alloc (Nat.le_refl _) (.cells (madeCells #[.int .i64 0] N) 3)
  rw [← hw1'] at hmk harr hb1
  have Harr := Lib.hid harr
  have Hb1 := Lib.hid hb1
  have HT := Lib.hid hT
  have HN := Lib.hid hN
  have heg := enters_of Tryz.func50 (by kernel_rfl) rfl
  have HEG := Lib.hid heg
  clear hw1' i0 hi hz0 hz1 hz2 harr hb1 e1 ef hT hN heg
  go_enter Tryz.func24, Tryz.ntmps24
  go_wp2_with fail
  refine HW1.out.mono ?_
  rintro e w' ⟨rfl, rfl⟩
  go_wp2_with fail
  refine HF.out.mono ?_
  rintro e w' ⟨rfl, rfl⟩
  have hs1 : (N : Int) - 1 + 1 = N := by omega
  go_wp2
  go_loopw [14] (fun i wr => ∃ k : Nat, k ≤ N ∧ i = .int .i64 k ∧ Arr .i64 3 wr w.heap.size (upTo k N) ∧ RowKit.Below w.heap.size w wr) (fun i _ => N - (intOf i).toNat)
  case atStart => exact ⟨0, by omega, rfl, by rw [upTo_zero]; exact Harr.out, Hb1.out⟩
  case round =>
    obtain ⟨k, hk, rfl, harr, hb⟩ := hrel
    rename World => wr
    have Hr := Lib.hid harr
    have Hb := Lib.hid hb
    clear harr hb
    by_cases hlt : k < N
    · have hcell := Hr.out.cell (upTo_at hlt)
      have hfz := Hr.out.frozen k
      go_wp2
      go_roundw
      case rel => exact ⟨k + 1, by omega, by go_num, by rw [← upTo_set]; exact Hr.out.set_ _ _, below_setCell Hb.out (Nat.le_refl _) _ _⟩
      case measure => simp [intOf]; omega
    · obtain rfl : k = N := by omega
      have hwr : w.heap.size < wr.heap.size := Hr.out.lt
      have hsz : (numsF d).toArray.size = k := by rw [HN.out]; simp [numsF]
      have hH : Holds encF wr w.heap.size 0 (numsF d).toArray := fun j hj => by
        rw [hsz] at hj
        rw [Nat.zero_add]
        refine ⟨?_, Hr.out.frozen j⟩
        rw [Hr.out.cell (upTo_get hj)]
        have hj2 : j < (numsF d).toArray.size := by omega
        rw [getElem!_pos _ j hj2]
        simp [numsF, encF]
        omega
      have hS := Any.slices_SortFunc sortL encF (fun _ => rfl) cfF swoF 50 #[] w.heap.size 0 k (numsF d).toArray wr HEG.out (cmpS w.heap.size _ wr (HT.out.below Hb.out hw1) (by omega) hw1) hH hwr (by omega)
      change Calls Tryz.prog 49 _ _ _ at hS
      rw [hsz] at hS
      have HS := Lib.hid hS
      have HSZ := Lib.hid hsz
      have HH := Lib.hid hH
      clear hS hsz hH
      go_wp2_with fail
      refine HS.out.mono ?_
      rintro e w3 ⟨rfl, d', n, os, hp, hs, rfl⟩
      have hp' : PermIn 0 (numsF d).toArray.size (numsF d).toArray d' := by rw [HSZ.out]; exact hp
      have hs' : SortedIn (ltOf cfF) 0 (numsF d).toArray.size d' := by rw [HSZ.out]; exact hs
      have hl := sorted_sets d hd1 hd d' hp' hs'
      have hds : d'.size = k := by rw [hp'.1]; exact HSZ.out
      have hHo := holds_sortWorld encF wr w.heap.size 0 n (numsF d).toArray d' os hwr HH.out hp'.1
      have HL := Lib.hid hl
      have HDS := Lib.hid hds
      have HHo := Lib.hid hHo
      have HBS := Lib.hid (below_sortW (w := wr) encF w.heap.size w.heap.size n d' os (by omega) (Nat.le_refl _))
      clear hp hs hp' hs' hl hds hHo
      generalize sortWorld encF wr w.heap.size 0 n d' os = w3 at HHo HBS ⊢
      go_wp2
      go_ret
      refine ⟨w.heap.size, rfl, ⟨?_, ?_, fun _ => ⟨_, rfl, fun j x hx => ?_⟩⟩, Hb.out.trans HBS.out, Nat.le_refl _⟩
      · rw [setsL_len d hd1 hd]; exact HN.out.symm
      · intro x hx
        unfold setsL at hx
        simp only [List.mem_map] at hx
        obtain ⟨y, _, rfl⟩ := hx
        exact ⟨by omega, by omega⟩
      · rw [add0]
        have hjl : j < k := by
          have := (List.getElem?_eq_some_iff.1 hx).1
          rw [setsL_len d hd1 hd, ← HN.out] at this
          exact this
        have h1 := (HHo.out j (by rw [HDS.out]; exact hjl)).1
        rw [Nat.zero_add] at h1
        rw [h1]
        unfold setsL at hx
        rw [← HL.out, List.getElem?_map, Option.map_eq_some_iff] at hx
        obtain ⟨y, hy, rfl⟩ := hx
        rw [Array.getElem?_toList] at hy
        rw [getElem!_pos _ j (by rw [HDS.out]; exact hjl)]
        rw [Array.getElem?_eq_getElem (by rw [HDS.out]; exact hjl)] at hy
        injection hy with hy
        rw [hy]
        rfl
end Go.Proofs.YtjllmladhjbnaaaGreatDoor
