/- Package lattice's Size, Scan, Sort. -/
import Derived.Test.YtjllmladhjbnaaaGreatDoorPar
import Derived.Test.YtjllmladhjbnaaaGreatDoorCheck
import Derived.Test.YtjllmladhjbnaaaGreatDoorFactsLaw8
import Derived.Test.YtjllmladhjbnaaaGreatDoorSetsN
namespace Go.Proofs.YtjllmladhjbnaaaGreatDoor
open Go.RowKit Go.Shelf
attribute [local go_sem] Oper.semAt_some
/-- The product of the cards of some dimensions. -/
def prodL (cs : List Int) (ds : List Int) : Int := ds.foldl (fun a d => a * cs.getD d.toNat 0) 1
theorem prodL_snoc (cs ds : List Int) (d : Int) : prodL cs (ds ++ [d]) = prodL cs ds * cs.getD d.toNat 0 := by simp [prodL]
theorem getD_in {cs : List Int} (hc : ∀ x ∈ cs, 1 ≤ x ∧ x ≤ 16) {i : Nat} (h : i < cs.length) : 1 ≤ cs.getD i 0 ∧ cs.getD i 0 ≤ 16 := by
  rw [List.getD_eq_getElem?_getD, List.getElem?_eq_getElem h]
  exact hc _ (List.getElem_mem _)
theorem prodL_bd {cs : List Int} (hc : ∀ x ∈ cs, 1 ≤ x ∧ x ≤ 16) : ∀ (ds : List Int) (n : Nat), ds.length = n → (∀ d ∈ ds, 0 ≤ d ∧ d < cs.length) → 1 ≤ prodL cs ds ∧ prodL cs ds ≤ 16 ^ n := by
  intro ds n
  induction n generalizing ds with
  | zero => intro h _; rw [List.eq_nil_of_length_eq_zero h]; exact ⟨Int.le_refl 1, Int.le_refl 1⟩
  | succ n ih =>
    intro hl h
    have hne : ds ≠ [] := by intro e; subst e; simp at hl
    have e0 := List.dropLast_concat_getLast hne
    generalize ds.dropLast = t, ds.getLast hne = d at e0
    subst e0
    obtain ⟨a, b⟩ := ih t (by simpa using hl) fun x hx => h x (by simp [hx])
    obtain ⟨c, e⟩ := getD_in hc (i := d.toNat) (by have := h d (by simp); omega)
    rw [prodL_snoc]
    have p := Int.mul_le_mul a c (by omega) (by omega)
    have q := Int.mul_le_mul b e (by omega) (by have : (0 : Int) ≤ 16 ^ n := Int.pow_nonneg (by omega); exact this)
    rw [Int.pow_succ]
    exact ⟨by simpa using p, q⟩
theorem dimsL_lt (d : Nat) (set : Int) (h1 : 0 ≤ set) (h2 : set ≤ fullB d) (hd : d ≤ 4) : ∀ x ∈ dimsL set, 0 ≤ x ∧ x < d := by
  intro x hx
  have hf : set ≤ (2 : Int) ^ d - 1 := h2
  unfold dimsL at hx
  simp only [List.mem_append] at hx
  rcases (by omega : d = 0 ∨ d = 1 ∨ d = 2 ∨ d = 3 ∨ d = 4) with rfl | rfl | rfl | rfl | rfl
  all_goals
    simp at hf
    rcases hx with ((hx | hx) | hx) | hx <;> split at hx <;> simp at hx <;> subst hx <;> (constructor <;> omega)
/-- How many keys a set may have; how many cells; what a sort costs. -/
def keysN (cs : List Int) (k : Int) : Int := prodL cs (dimsL k)
def sizeB (cs : List Int) (rows k : Int) : Int := min (keysN cs k) rows
def sortB (cs : List Int) (rows k : Int) : Int := sizeB cs rows k + sizeB cs rows k * (Lib.bitLen (sizeB cs rows k).toNat : Int)
theorem keysN_bd {cs : List Int} {k : Int} (hc : ∀ x ∈ cs, 1 ≤ x ∧ x ≤ 16) (h1 : 0 ≤ k) (h2 : k ≤ fullB cs.length) (h4 : cs.length ≤ 4) : 1 ≤ keysN cs k ∧ keysN cs k ≤ 65536 := by
  have a := prodL_bd hc (dimsL k) _ rfl (fun d hd => dimsL_lt _ k h1 h2 h4 d hd)
  have b := dimsL_le k
  refine ⟨a.1, Int.le_trans a.2 ?_⟩
  generalize (dimsL k).length = n at b
  rcases (by omega : n = 0 ∨ n = 1 ∨ n = 2 ∨ n = 3 ∨ n = 4) with rfl | rfl | rfl | rfl | rfl <;> decide
theorem sizeB_bd {cs : List Int} {rows k : Int} (hc : ∀ x ∈ cs, 1 ≤ x ∧ x ≤ 16) (h1 : 0 ≤ k) (h2 : k ≤ fullB cs.length) (h4 : cs.length ≤ 4) (r1 : 0 ≤ rows) (r2 : rows ≤ 300) : 0 ≤ sizeB cs rows k ∧ sizeB cs rows k ≤ 300 := by
  have := keysN_bd hc h1 h2 h4
  unfold sizeB
  omega
set_option maxHeartbeats 1000000 in
theorem size1_any (A : Option Addr) (q c b n : Nat) (cs : List Int) (keys : Int) (w : World) (hA : Nums .i64 w A q cs) (hb : w.cell? ⟨b, 0, none⟩ = some (.slice A q c)) (hn : n < q) (hc : ∀ x ∈ cs, 1 ≤ x ∧ x ≤ 16) (k1 : 1 ≤ keys) (k2 : keys ≤ 4096) :
    Calls Tryz.prog 120 #[.int .i64 keys, .int .i64 n, .pointer (some ⟨b, 0, none⟩)] w fun e w' => e = .returned (.int .i64 (keys * cs.getD n 0)) ∧ w = w' := by
  obtain ⟨ad, x, rfl, hx, _, hcell⟩ := hA.at_ hn
  have hxb := hc x (List.mem_of_getElem? hx)
  have e : cs.getD n 0 = x := by rw [List.getD_eq_getElem?_getD, hx]; rfl
  rw [e]
  have hm1 : 0 ≤ keys * x := Int.mul_nonneg (by omega) (by omega)
  have hm2 : keys * x ≤ 4096 * 16 := Int.mul_le_mul k2 hxb.2 (by omega) (by omega)
  clear e hx hA hc
  go_enter Tryz.func120, Tryz.ntmps120
  go_wp2
  go_ret
  exact ⟨rfl, rfl⟩
set_option maxRecDepth 100000 in
set_option maxHeartbeats 2000000 in
theorem size_any (A : Option Addr) (q c mm : Nat) (cs : List Int) (rows k : Int) (w : World) (hA : Nums .i64 w A q cs) (hq1 : 1 ≤ q) (hq : q ≤ 4) (hm : mm ≤ 2) (hc : ∀ x ∈ cs, 1 ≤ x ∧ x ≤ 16) (r1 : 0 ≤ rows) (r2 : rows ≤ 300) (h1 : 0 ≤ k) (h2 : k ≤ fullB q) (hT : Tab w) (hw1 : 1 < w.heap.size) :
    Calls Tryz.prog 107 #[.agg #[.slice A q c, .int .i64 mm], .int .i64 rows, .int .i64 k] w fun e w' => e = .returned (.int .i64 (sizeB cs rows k)) ∧ Below w.heap.size w w' := by
  have hl := hA.len
  have hkb := keysN_bd hc h1 (by rw [hl]; exact h2) (by omega)
  have hk15 : k ≤ 15 := by have := fullB_15 q hq; omega
  have hck : checkB cs (mm : Int) = true := checkB_yes (by omega) (by omega) (by omega) (by omega) hc
  obtain ⟨W0, hW0⟩ : ∃ W0, W0 = w.alloc (.cells #[.slice A q c, .int .i64 mm] 25) := ⟨_, rfl⟩
  have hb0 : Below w.heap.size w W0 := by rw [hW0]; exact (Below.refl _ w).alloc (Nat.le_refl _) _
  have hz0 : W0.heap.size = w.heap.size + 1 := by rw [hW0]; simp
  have hB0 : Box2 25 W0 w.heap.size (.slice A q c) (.int .i64 mm) := by rw [hW0]; exact Box2.new _ _ _ _
  have HCh := Lib.hid (Check_any A q c cs (mm : Int) W0 (hA.keep (Keeps.of_below hb0)) (by omega) (by constructor <;> omega))
  rw [hck] at HCh
  have HW := fun W => cwithin_any rows 0 300 W
  have e1 : (decide ((0 : Int) ≤ rows) && decide (rows ≤ 300)) = true := by simp; omega
  rw [e1] at HW
  have HW := Lib.hid HW
  have HS := fun W => isSet_any k q W hq
  have e2 : (decide (0 ≤ k) && decide (k ≤ fullB q)) = true := by simp [h1, h2]
  rw [e2] at HS
  have HS := Lib.hid HS
  have HA := Lib.hid hA
  have HT := Lib.hid hT
  have HB0 := Lib.hid hb0
  have HBx := Lib.hid hB0
  have HC := Lib.hid hc
  have HL := Lib.hid hl
  have HZ0 := Lib.hid hz0
  have c0 := hB0.cell0
  have c1 := hB0.cell1
  have HW0 := Lib.hid hW0
  clear hA hT hb0 hB0 hc hl hz0 e1 e2 hck hW0
  go_enter Tryz.func107, Tryz.ntmps107
  go_wp2_with fail
  rw [← HW0.out]
  have c0 : W0.cell? ⟨w.heap.size, 0, none⟩ = some (.slice A q c) := HBx.out.cell0
  have c1 : W0.cell? ⟨w.heap.size, 1, none⟩ = some (.int .i64 mm) := HBx.out.cell1
  go_wp2_with fail
  refine HCh.out.mono ?_
  rintro e w1 ⟨rfl, hb1⟩
  have HB1 := Lib.hid hb1
  have hBx1 := HBx.out.below hb1 HBx.out.lt
  have HBx1 := Lib.hid hBx1
  clear hb1 hBx1
  have d0 := HBx1.out.cell0
  go_wp2_with fail
  refine (HW.out w1).mono ?_
  rintro e w' ⟨rfl, rfl⟩
  go_wp2_with fail
  refine (HS.out w1).mono ?_
  rintro e w' ⟨rfl, rfl⟩
  go_wp2_with fail
  refine (dims_in k w1).mono ?_
  rintro e w2 ⟨rfl, rfl⟩
  have hb2 : Below w.heap.size w (w1.alloc (.cells #[.int .i64 k] 3)) := (HB0.out.trans (HB1.out.mono (by rw [HZ0.out]; omega))).alloc (by have := HB1.out.size; rw [HZ0.out] at this; omega) _
  have hf := foldN_any k w1.heap.size 120 #[.pointer (some ⟨w.heap.size, 0, none⟩)] (fun pre => prodL cs (pre.map (·.1))) (w1.alloc (.cells #[.int .i64 k] 3)) h1 hk15 (HT.out.below hb2 hw1) (by have := hb2.size; omega) (cell_new _ _ _)
    (enters_of Tryz.func120 (by kernel_rfl) rfl) (fun pre x W hlen hK => by
      have hx := dimsL_lt q k h1 h2 hq x.1 x.2
      obtain ⟨n, hn⟩ : ∃ n : Nat, x.1 = (n : Int) := ⟨x.1.toNat, by omega⟩
      have hp := prodL_bd HC.out (pre.map (·.1)) _ rfl (fun d hd => by
        obtain ⟨y, _, rfl⟩ := List.mem_map.1 hd
        rw [HL.out]
        exact dimsL_lt q k h1 h2 hq y.1 y.2)
      have hle := dimsL_le k
      have hp2 : prodL cs (pre.map (·.1)) ≤ 4096 := by
        refine Int.le_trans hp.2 ?_
        rw [List.length_map]
        generalize pre.length = m at hlen
        rcases (by omega : m = 0 ∨ m = 1 ∨ m = 2 ∨ m = 3) with rfl | rfl | rfl | rfl <;> decide
      have h := size1_any A q c w.heap.size n cs (prodL cs (pre.map (·.1))) W (HA.out.keep (fun p v h => hK p v ((Keeps.of_below hb2) p v h))) (hK _ _ ((World.cell?_alloc_lt _ _ _ HBx1.out.lt).trans HBx1.out.cell0)) (by omega) HC.out hp.1 hp2
      rw [hn]
      refine h.mono ?_
      rintro e w' ⟨rfl, rfl⟩
      refine ⟨?_, rfl⟩
      rw [List.map_append, List.map_cons, List.map_nil, prodL_snoc, hn]
      rfl)
  have HF := Lib.hid hf
  have HB2 := Lib.hid hb2
  clear hf hb2
  go_wp2_with fail
  refine HF.out.mono ?_
  rintro e w3 ⟨⟨ys, hys, rfl⟩, hb3, -⟩
  have HB3 := Lib.hid (HB2.out.trans (hb3.mono HB2.out.size))
  rw [hys]
  have Hy := Lib.hid hys
  clear hb3 hys
  obtain ⟨kk, hkk⟩ : ∃ kk, kk = prodL cs (dimsL k) := ⟨_, rfl⟩
  rw [← hkk]
  have HKK := Lib.hid hkk
  clear hkk
  by_cases hlt : rows < kk
  · go_wp2
    go_ret
    exact ⟨ret_int (by unfold sizeB keysN; rw [← HKK.out]), HB3.out⟩
  · go_wp2
    go_ret
    exact ⟨ret_int (by unfold sizeB keysN; rw [← HKK.out]), HB3.out⟩
set_option maxHeartbeats 2000000 in
theorem scan_any (A : Option Addr) (q c mm : Nat) (cs : List Int) (rows k : Int) (w : World) (hA : Nums .i64 w A q cs) (hq1 : 1 ≤ q) (hq : q ≤ 4) (hm : mm ≤ 2) (hc : ∀ x ∈ cs, 1 ≤ x ∧ x ≤ 16) (r1 : 0 ≤ rows) (r2 : rows ≤ 300) (h1 : 0 ≤ k) (h2 : k ≤ fullB q) (hT : Tab w) (hw1 : 1 < w.heap.size) :
    Calls Tryz.prog 81 #[.agg #[.slice A q c, .int .i64 mm], .int .i64 rows, .int .i64 k] w fun e w' => e = .returned (.int .i64 (sizeB cs rows k)) ∧ Below w.heap.size w w' := by
  have hb0 : Below w.heap.size w (w.alloc (.cells #[.slice A q c, .int .i64 mm] 25)) := (Below.refl _ w).alloc (Nat.le_refl _) _
  have H := Lib.hid (size_any A q c mm cs rows k _ (hA.keep (Keeps.of_below hb0)) hq1 hq hm hc r1 r2 h1 h2 (hT.below hb0 hw1) (by simp; omega))
  have HB0 := Lib.hid hb0
  obtain ⟨s, hs⟩ : ∃ s, s = sizeB cs rows k := ⟨_, rfl⟩
  rw [← hs] at H ⊢
  clear hA hT hb0 hc hs
  go_enter Tryz.func81, Tryz.ntmps81
  go_wp2_with fail
  refine H.out.mono ?_
  rintro e w1 ⟨rfl, hb1⟩
  have HB1 := Lib.hid (HB0.out.trans (hb1.mono HB0.out.size))
  clear hb1
  go_wp2
  go_ret
  exact ⟨rfl, HB1.out⟩
theorem bitLen_300 : ∀ n : Fin 301, Lib.bitLen n.val ≤ 9 := by decide +kernel
theorem bitLen_u (s : Int) (h1 : 0 ≤ s) (h2 : s ≤ 300) (w : World) :
    Calls Tryz.prog 77 #[.int .u64 s] w fun e w' => e = .returned (.int .i64 (Lib.bitLen s.toNat)) ∧ w' = w := by
  have h := Any.bits_Len (SlLaysF0.n15.bits (P := Tryz.prog) (ρ := sortL_ren) { sortL with }) s w h1 (by omega)
  exact h
set_option maxHeartbeats 2000000 in
theorem sort_any (A : Option Addr) (q c mm : Nat) (cs : List Int) (rows k : Int) (w : World) (hA : Nums .i64 w A q cs) (hq1 : 1 ≤ q) (hq : q ≤ 4) (hm : mm ≤ 2) (hc : ∀ x ∈ cs, 1 ≤ x ∧ x ≤ 16) (r1 : 0 ≤ rows) (r2 : rows ≤ 300) (h1 : 0 ≤ k) (h2 : k ≤ fullB q) (hT : Tab w) (hw1 : 1 < w.heap.size) :
    Calls Tryz.prog 82 #[.agg #[.slice A q c, .int .i64 mm], .int .i64 rows, .int .i64 k] w fun e w' => e = .returned (.int .i64 (sortB cs rows k)) ∧ Below w.heap.size w w' := by
  have hb0 : Below w.heap.size w (w.alloc (.cells #[.slice A q c, .int .i64 mm] 25)) := (Below.refl _ w).alloc (Nat.le_refl _) _
  have H := Lib.hid (size_any A q c mm cs rows k _ (hA.keep (Keeps.of_below hb0)) hq1 hq hm hc r1 r2 h1 h2 (hT.below hb0 hw1) (by simp; omega))
  have HB0 := Lib.hid hb0
  obtain ⟨s1, s2⟩ := sizeB_bd hc h1 (by rw [hA.len]; exact h2) (by rw [hA.len]; exact hq) r1 r2
  have e : sortB cs rows k = sizeB cs rows k + sizeB cs rows k * (Lib.bitLen (sizeB cs rows k).toNat : Int) := rfl
  rw [e]
  obtain ⟨s, hs⟩ : ∃ s, s = sizeB cs rows k := ⟨_, rfl⟩
  rw [← hs] at H s1 s2 ⊢
  have hl9 := bitLen_300 ⟨s.toNat, by omega⟩
  have HL := Lib.hid (fun W => bitLen_u s s1 s2 W)
  obtain ⟨n, hn⟩ : ∃ n, n = Lib.bitLen s.toNat := ⟨_, rfl⟩
  dsimp only at hl9
  rw [← hn] at HL hl9 ⊢
  have m1 : 0 ≤ s * (n : Int) := Int.mul_nonneg s1 (by omega)
  have m2 : s * (n : Int) ≤ 300 * 9 := Int.mul_le_mul s2 (by omega) (by omega) (by omega)
  clear hA hT hb0 hc hs e hn
  go_enter Tryz.func82, Tryz.ntmps82
  go_wp2_with fail
  refine H.out.mono ?_
  rintro e w1 ⟨rfl, hb1⟩
  have HB1 := Lib.hid (HB0.out.trans (hb1.mono HB0.out.size))
  clear hb1
  go_wp2_with fail
  refine (HL.out w1).mono ?_
  rintro e w' ⟨rfl, rfl⟩
  go_wp2
  go_ret
  exact ⟨rfl, HB1.out⟩
end Go.Proofs.YtjllmladhjbnaaaGreatDoor
