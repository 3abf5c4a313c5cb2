/- Package sorts: prices. -/
import Derived.Test.YtjllmladhjbnaaaGreatDoorSize
import Derived.Test.YtjllmladhjbnaaaGreatDoorParN
import Derived.Test.YtjllmladhjbnaaaGreatDoorSrtA
import Derived.Test.YtjllmladhjbnaaaGreatDoorMatUA
import Derived.Test.YtjllmladhjbnaaaGreatDoorFactsLaw8
import Derived.Test.YtjllmladhjbnaaaGreatDoorLev
namespace Go.Proofs.YtjllmladhjbnaaaGreatDoor
open Go.RowKit Go.Shelf
attribute [local go_sem] Oper.semAt_some
/-- A schema that may be, and how many rows, as both prices hang on. -/
structure FQ (w : World) (A : Option Addr) (q : Nat) (mm : Nat) (cs : List Int) (n : Int) : Prop where
  nums : Nums .i64 w A q cs
  q1 : 1 ≤ q
  q4 : q ≤ 4
  m2 : mm ≤ 2
  c : ∀ x ∈ cs, 1 ≤ x ∧ x ≤ 16
  n0 : 0 ≤ n
  n3 : n ≤ 300
  tab : Tab w
  w1 : 1 < w.heap.size
section
variable {w w' : World} {A : Option Addr} {q mm : Nat} {cs : List Int} {n : Int}
theorem FQ.len (h : FQ w A q mm cs n) : cs.length = q := h.nums.len
theorem FQ.good (h : FQ w A q mm cs n) : Good cs n := ⟨h.c, by rw [h.len]; exact h.q1, by rw [h.len]; exact h.q4, h.n0, h.n3⟩
theorem FQ.below {B : Nat} (h : FQ w A q mm cs n) (hb : Below B w w') (hB : w.heap.size ≤ B) : FQ w' A q mm cs n :=
  ⟨h.nums.keep (Keeps.of_below (hb.mono hB)), h.q1, h.q4, h.m2, h.c, h.n0, h.n3, h.tab.below (hb.mono hB) h.w1, Nat.lt_of_lt_of_le h.w1 hb.size⟩
theorem FQ.drew (h : FQ w A q mm cs n) : FQ w.drew A q mm cs n := h.below ((Below.refl w.heap.size w).drew) (Nat.le_refl _)
end
theorem below_box (w : World) (o : Obj) : Below w.heap.size w (w.alloc o) := (Below.refl _ w).alloc (Nat.le_refl _) o
set_option maxHeartbeats 1000000 in
theorem fscan_any (A : Option Addr) (q c mm : Nat) (cs : List Int) (n k : Int) (w : World) (h : FQ w A q mm cs n) (h1 : 0 ≤ k) (h2 : k ≤ fullB q) :
    Calls Tryz.prog 59 #[.agg #[.slice A q c, .int .i64 mm, .int .i64 n], .int .i64 k] w fun e w' => e = .returned (.int .i64 (sizeB cs n k)) ∧ Below w.heap.size w w' := by
  have hb0 := below_box w (.cells #[.slice A q c, .int .i64 mm, .int .i64 n] 50)
  have h' := h.below hb0 (Nat.le_refl _)
  have H := Lib.hid (scan_any A q c mm cs n k _ h'.nums h'.q1 h'.q4 h'.m2 h'.c h'.n0 h'.n3 h1 h2 h'.tab h'.w1)
  have HB0 := Lib.hid hb0
  clear h h' hb0
  go_enter Tryz.func59, Tryz.ntmps59
  go_wp2_with fail
  refine H.out.mono ?_
  rintro e w1 ⟨rfl, hb1⟩
  have HB1 := Lib.hid (HB0.out.trans (hb1.mono HB0.out.size))
  clear hb1
  go_wp2
  go_ret
  exact ⟨rfl, HB1.out⟩
set_option maxHeartbeats 1000000 in
theorem fsort_any (A : Option Addr) (q c mm : Nat) (cs : List Int) (n k : Int) (w : World) (h : FQ w A q mm cs n) (h1 : 0 ≤ k) (h2 : k ≤ fullB q) :
    Calls Tryz.prog 60 #[.agg #[.slice A q c, .int .i64 mm, .int .i64 n], .int .i64 k] w fun e w' => e = .returned (.int .i64 (sortB cs n k)) ∧ Below w.heap.size w w' := by
  have hb0 := below_box w (.cells #[.slice A q c, .int .i64 mm, .int .i64 n] 50)
  have h' := h.below hb0 (Nat.le_refl _)
  have H := Lib.hid (sort_any A q c mm cs n k _ h'.nums h'.q1 h'.q4 h'.m2 h'.c h'.n0 h'.n3 h1 h2 h'.tab h'.w1)
  have HB0 := Lib.hid hb0
  clear h h' hb0
  go_enter Tryz.func60, Tryz.ntmps60
  go_wp2_with fail
  refine H.out.mono ?_
  rintro e w1 ⟨rfl, hb1⟩
  have HB1 := Lib.hid (HB0.out.trans (hb1.mono HB0.out.size))
  clear hb1
  go_wp2
  go_ret
  exact ⟨rfl, HB1.out⟩
set_option maxHeartbeats 1000000 in
theorem fpar_any (A : Option Addr) (q c mm : Nat) (cs : List Int) (n k : Int) (w : World) (h : FQ w A q mm cs n) (h1 : 0 ≤ k) (h2 : k ≤ fullB q) :
    Calls Tryz.prog 72 #[.agg #[.slice A q c, .int .i64 mm, .int .i64 n], .int .i64 k] w fun e w' => ∃ v, e = .returned v ∧ OI w.heap.size w' v (parL k q) ∧ Below w.heap.size w w' := by
  have hb0 := below_box w (.cells #[.slice A q c, .int .i64 mm, .int .i64 n] 50)
  have h' := h.below hb0 (Nat.le_refl _)
  have hf := fullB_15 q h.q4
  have H := Lib.hid (par_any k q _ h1 h2 h'.q1 h'.q4 h'.tab h'.w1)
  have HB0 := Lib.hid hb0
  clear h h' hb0
  go_enter Tryz.func72, Tryz.ntmps72
  go_wp2_with fail
  refine H.out.mono ?_
  rintro e w1 ⟨v, rfl, ho, hb1⟩
  have hO : OI w.heap.size w1 v (parL k q) := ⟨own_mono ho HB0.out.size, fun x hx => by have := parL_in k q h1 (by omega) x hx; exact ⟨by omega, by omega⟩⟩
  have HB1 := Lib.hid (HB0.out.trans (hb1.mono HB0.out.size))
  have HO := Lib.hid hO
  clear hb1 ho hO
  go_wp2
  go_ret
  exact ⟨v, rfl, HO.out, HB1.out⟩
/-- The way of comparing that a price hands on. -/
def sortF (A : Option Addr) (q c mm : Nat) (n : Int) : Value := .func (.func 60) #[.agg #[.slice A q c, .int .i64 mm, .int .i64 n]] #[]
set_option maxHeartbeats 1000000 in
theorem pcmp_any (A : Option Addr) (q c mm : Nat) (cs : List Int) (n a b : Int) (w : World) (h : FQ w A q mm cs n) (h1 : 0 ≤ a) (h2 : a ≤ fullB q) (h3 : 0 ≤ b) (h4 : b ≤ fullB q) :
    Calls Tryz.prog 114 #[sortF A q c mm n, .int .i64 a, .int .i64 b] w fun e w' => e = .returned (.int .i64 (cmpI (sortB cs n a) (sortB cs n b))) ∧ Below w.heap.size w w' := by
  have H := Lib.hid (fsort_any A q c mm cs n a w h h1 h2)
  have HF := Lib.hid h
  unfold sortF
  clear h
  go_enter Tryz.func114, Tryz.ntmps114
  go_wp2_with fail
  refine H.out.mono ?_
  rintro e w1 ⟨rfl, hb1⟩
  have HB1 := Lib.hid hb1
  have H2 := Lib.hid (fsort_any A q c mm cs n b w1 (HF.out.below hb1 (Nat.le_refl _)) h3 h4)
  have hz1 := hb1.size
  clear hb1
  go_wp2_with fail
  refine H2.out.mono ?_
  rintro e w2 ⟨rfl, hb2⟩
  have HB2 := Lib.hid (HB1.out.trans (hb2.mono hz1))
  have HC := Lib.hid (cmp_any (sortB cs n a) (sortB cs n b) w2)
  clear hb2
  go_wp2_with fail
  refine HC.out.mono ?_
  rintro e w' ⟨rfl, rfl⟩
  go_wp2
  go_ret
  exact ⟨rfl, HB2.out⟩
end Go.Proofs.YtjllmladhjbnaaaGreatDoor
/- Package sorts: the cheapest parent. -/
namespace Go.Proofs.YtjllmladhjbnaaaGreatDoor
open Go.RowKit Go.Shelf
attribute [local go_sem] Oper.semAt_some
theorem add0' (a : Addr) : a.add 0 = a := by simp [Addr.add]
def cmpF (A : Option Addr) (q c mm : Nat) (n : Int) : Value := .func (.func 114) #[sortF A q c mm n] #[]
theorem cmpI_neg (x y : Int) : cmpI x y < 0 ↔ x < y := by
  unfold cmpI
  split
  · simp; assumption
  · split <;> simp <;> omega
set_option maxRecDepth 100000 in
set_option maxHeartbeats 4000000 in
theorem min_any (A : Option Addr) (q c mm : Nat) (cs : List Int) (n : Int) (P : Option Addr) (m d : Nat) (xs : List Int) (w : World) (h : FQ w A q mm cs n) (hx : Nums .i64 w P m xs) (hm : 1 ≤ m) (hm2 : m ≤ 100) (hb : ∀ x ∈ xs, 0 ≤ x ∧ x ≤ fullB q) :
    Calls Tryz.prog 113 #[.slice P m d, cmpF A q c mm n] w fun e w' => e = .returned (.int .i64 (cheapL (sortB cs n) xs)) ∧ Below w.heap.size w w' := by
  obtain ⟨ad, x0, rfl, hx0, -, hc0⟩ := hx.at_ (k := 0) (by omega)
  rw [add0'] at hc0
  have HX := Lib.hid hx
  have HF := Lib.hid h
  have HB := Lib.hid hb
  have HL := Lib.hid hx.len
  have HX0 := Lib.hid hx0
  have m0 : (0 : Int) < (m : Int) := by omega
  unfold cmpF
  clear h hx hb hx0
  go_enter Tryz.func113, Tryz.ntmps113
  go_wp2
  go_loopw [5, 6] (fun b i wr => ∃ k : Nat, i = .int .i64 k ∧ 1 ≤ k ∧ k ≤ m ∧ b = .int .i64 (cheapL (sortB cs n) (xs.take k)) ∧ Below w.heap.size w wr) (fun _ i _ => m - (intOf i).toNat)
  case atStart =>
    refine ⟨1, rfl, by omega, by omega, ?_, Below.refl _ _⟩
    have : xs.take 1 = [x0] := by rw [List.take_add_one, HX0.out]; rfl
    rw [this]; rfl
  case round =>
    obtain ⟨k, rfl, hk1, hk, rfl, hbw⟩ := hrel
    rename World => wr
    have HBW := Lib.hid hbw
    have hz := hbw.size
    clear hbw
    by_cases hlt : k < m
    · obtain ⟨ad', x, e, hx, -, hcx⟩ := (HX.out.keep (Keeps.of_below HBW.out)).at_ hlt
      injection e with e
      subst e
      have hxb := HB.out x (List.mem_of_getElem? hx)
      have hne : xs.take k ≠ [] := fun e => by
        have := congrArg List.length e
        rw [List.length_take, HL.out] at this
        simp at this
        omega
      have hsn := cheapL_snoc (sortB cs n) (xs.take k) x hne
      have htk : xs.take (k + 1) = xs.take k ++ [x] := by rw [List.take_add_one, hx]; rfl
      rw [← htk] at hsn
      have hbm := HB.out _ (List.mem_of_mem_take (cheapL_spec (sortB cs n) (xs.take k) hne).1)
      obtain ⟨b, hbe⟩ : ∃ b, b = cheapL (sortB cs n) (xs.take k) := ⟨_, rfl⟩
      rw [← hbe] at hsn hbm ⊢
      have HC := Lib.hid (pcmp_any A q c mm cs n x b wr (HF.out.below HBW.out (Nat.le_refl _)) hxb.1 hxb.2 hbm.1 hbm.2)
      have hcn := cmpI_neg (sortB cs n x) (sortB cs n b)
      obtain ⟨z, hz0⟩ : ∃ z, z = cmpI (sortB cs n x) (sortB cs n b) := ⟨_, rfl⟩
      rw [← hz0] at HC hcn
      have HS := Lib.hid hsn
      have k0 : (0 : Int) ≤ (k : Int) := by omega
      have k1 : (k : Int) < (m : Int) := by omega
      clear hsn htk hbe hz0 hne
      by_cases hzn : z < 0
      · have hl2 := Lib.hid (hcn.1 hzn)
        clear hcn
        go_wp2_with fail
        refine HC.out.mono ?_
        rintro e w2 ⟨rfl, hb2⟩
        have HB2 := Lib.hid (HBW.out.trans (hb2.mono hz))
        have hcx2 := (Keeps.of_below hb2) _ _ hcx
        clear hb2 hcx
        go_wp2
        go_roundw
        case rel => exact ⟨k + 1, by go_num, by omega, by omega, by rw [HS.out, if_pos hl2.out], HB2.out⟩
        case measure => simp [intOf]; omega
      · have hl2 := Lib.hid (fun h => hzn (hcn.2 h))
        clear hcn
        go_wp2_with fail
        refine HC.out.mono ?_
        rintro e w2 ⟨rfl, hb2⟩
        have HB2 := Lib.hid (HBW.out.trans (hb2.mono hz))
        clear hb2 hcx
        go_wp2
        go_roundw
        case rel => exact ⟨k + 1, by go_num, by omega, by omega, by rw [HS.out, if_neg hl2.out], HB2.out⟩
        case measure => simp [intOf]; omega
    · obtain rfl : k = m := by omega
      have ht : xs.take k = xs := List.take_of_length_le (by rw [HL.out]; omega)
      rw [ht]
      go_wp2
      go_ret
      exact ⟨rfl, HBW.out⟩
set_option maxHeartbeats 1000000 in
theorem cheapest_any (A : Option Addr) (q c mm : Nat) (cs : List Int) (n : Int) (P : Option Addr) (m d : Nat) (xs : List Int) (w : World) (h : FQ w A q mm cs n) (hx : Nums .i64 w P m xs) (hm : 1 ≤ m) (hm2 : m ≤ 100) (hb : ∀ x ∈ xs, 0 ≤ x ∧ x ≤ fullB q) :
    Calls Tryz.prog 94 #[sortF A q c mm n, .slice P m d] w fun e w' => e = .returned (.int .i64 (cheapL (sortB cs n) xs)) ∧ Below w.heap.size w w' := by
  have H := Lib.hid (min_any A q c mm cs n P m d xs w h hx hm hm2 hb)
  unfold cmpF sortF at H
  unfold sortF
  clear h hx hb
  go_enter Tryz.func94, Tryz.ntmps94
  go_wp2_with fail
  refine H.out.mono ?_
  rintro e w1 ⟨rfl, hb1⟩
  have HB1 := Lib.hid hb1
  clear hb1
  go_wp2
  go_ret
  exact ⟨rfl, HB1.out⟩
set_option maxHeartbeats 2000000 in
theorem sorted_any (A : Option Addr) (q c mm : Nat) (cs : List Int) (n k : Int) (w : World) (h : FQ w A q mm cs n) (h1 : 0 ≤ k) (h2 : k ≤ fullB q) (hne : parL k q ≠ []) (hp : ∀ x ∈ parL k q, 0 ≤ x ∧ x ≤ fullB q) :
    Calls Tryz.prog 73 #[.agg #[.slice A q c, .int .i64 mm, .int .i64 n], .int .i64 k] w fun e w' => e = .returned (.int .i64 (own cs n k)) ∧ Below w.heap.size w w' := by
  have hb0 := below_box w (.cells #[.slice A q c, .int .i64 mm, .int .i64 n] 50)
  have h' := (h.below hb0 (Nat.le_refl _)).drew
  have HF := Lib.hid h'
  have H := Lib.hid (fpar_any A q c mm cs n k _ h' h1 h2)
  have HB0 := Lib.hid hb0
  have hln : 1 ≤ (parL k q).length := List.length_pos_iff.2 hne
  have hl4 : (parL k q).length ≤ 100 := by unfold parL; rw [List.length_map]; have := dimsL_le (lackI k q); omega
  have e1 : own cs n k = cheapL (sortB cs n) (parL k q) := by unfold own; rw [h.len]
  rw [e1]
  have HP := Lib.hid hp
  obtain ⟨w0, hw0⟩ : ∃ w0, w0 = w.alloc (.cells #[.slice A q c, .int .i64 mm, .int .i64 n] 50) := ⟨_, rfl⟩
  have hcell : ∀ j u, (#[Value.slice A q c, .int .i64 mm, .int .i64 n] : Array Value)[j]? = some u → w0.cell? ⟨w.heap.size, j, none⟩ = some u := fun j u hu => by
    rw [hw0, cell_of_row _ _ _ _ 50 (0, 0) (heap_alloc_new w _)]; exact hu
  have c0 := hcell 0 _ rfl
  have c1 := hcell 1 _ rfl
  have c2 := hcell 2 _ rfl
  rw [← hw0] at HF H HB0
  have HW0 := Lib.hid hw0
  clear h h' hb0 hcell e1 hp hne hw0
  go_enter Tryz.func73, Tryz.ntmps73
  go_wp2_with fail
  rw [← HW0.out]
  refine wp_region_held_drew (S := fun W => W.cell? ⟨w.heap.size, 0, none⟩ = some (.slice A q c) ∧ W.cell? ⟨w.heap.size, 1, none⟩ = some (.int .i64 mm) ∧ W.cell? ⟨w.heap.size, 2, none⟩ = some (.int .i64 n)) (by kernel_rfl) ⟨c0, c1, c2⟩ (fun hHeld => ?_)
  refine wpAnyH_take (i := 0) (v := ?va0) rfl (by kernel_rfl) (by kernel_rfl) (by kernel_rfl) (fun _ _ _ h => h) (Or.inl ⟨by rfl, ?ya0⟩) hHeld ?ra0
  case ya0 => (intro W hW; obtain ⟨hW0, hW1, hW2⟩ := hW; go_simp; first | done | with_reducible rfl)
  try simp only [List.getElem_toArray, List.getElem_cons_zero, Act.put, List.setIfInBounds_toArray, List.set_cons_zero, List.set_cons_succ]
  refine wpAnyH_take (i := 1) (v := ?va1) rfl (by kernel_rfl) (by kernel_rfl) (by kernel_rfl) (fun _ _ _ h => h) (Or.inl ⟨by rfl, ?ya1⟩) hHeld ?ra1
  case ya1 => (intro W hW; obtain ⟨hW0, hW1, hW2⟩ := hW; go_simp; first | done | with_reducible rfl)
  try simp only [List.getElem_toArray, List.getElem_cons_succ, List.getElem_cons_zero, Act.put, List.setIfInBounds_toArray, List.set_cons_zero, List.set_cons_succ]
  refine wpAnyH_take (i := 2) (v := ?va2) rfl (by kernel_rfl) (by kernel_rfl) (by kernel_rfl) (fun _ _ _ h => h) (Or.inl ⟨by rfl, ?ya2⟩) hHeld ?ra2
  case ya2 => (intro W hW; obtain ⟨hW0, hW1, hW2⟩ := hW; go_simp; first | done | with_reducible rfl)
  try simp only [List.getElem_toArray, List.getElem_cons_succ, List.getElem_cons_zero, Act.put, List.setIfInBounds_toArray, List.set_cons_zero, List.set_cons_succ]
  refine wpAnyH_take (i := 3) (v := ?va3) rfl (by kernel_rfl) (by kernel_rfl) (by kernel_rfl) (fun _ _ _ h => h) (Or.inl ⟨by rfl, ?ya3⟩) hHeld ?ra3
  case ya3 => (intro W hW; obtain ⟨hW0, hW1, hW2⟩ := hW; go_simp; first | done | with_reducible rfl)
  try simp only [List.getElem_toArray, List.getElem_cons_succ, List.getElem_cons_zero, Act.put, List.setIfInBounds_toArray, List.set_cons_zero, List.set_cons_succ]
  refine wpAnyH_ready (rs := [4]) (by kernel_rfl) (by simp) ?_
  refine AllReadyH.cons rfl (fun K hK => ?_) (AllReadyH.nil)
  go_simp
  refine H.out.mono ?_
  rintro e w1 ⟨v, rfl, ho, hb1⟩
  obtain ⟨P, c', rfl, -, -, hn, -⟩ := ho.form
  have HB1 := Lib.hid (HB0.out.drew.trans (hb1.mono HB0.out.size))
  have HF1 := Lib.hid (HF.out.below hb1 (Nat.le_refl _))
  have k1 := Keeps.of_below hb1
  have HN := Lib.hid hn
  clear hn hb1 ho
  refine hK.out _ _ (⟨k1 _ _ hHeld.1, k1 _ _ hHeld.2.1, k1 _ _ hHeld.2.2⟩) (fun hHeld => ?_)
  clear hK K
  try simp only [List.getElem_toArray, List.getElem_cons_succ, List.getElem_cons_zero, Act.put, List.setIfInBounds_toArray, List.set_cons_zero, List.set_cons_succ]
  refine wpAnyH_ready (rs := [5]) (by kernel_rfl) (by simp) ?_
  refine AllReadyH.cons rfl (fun K hK => ?_) (AllReadyH.nil)
  go_simp
  refine (cheapest_any A q c mm cs n P _ c' _ w1 HF1.out HN.out hln hl4 HP.out).mono ?_
  rintro e w2 ⟨rfl, hb2⟩
  have HB2 := Lib.hid (HB1.out.trans (hb2.mono HB1.out.size))
  have k2 := Keeps.of_below hb2
  clear hb2
  refine hK.out _ _ (⟨k2 _ _ hHeld.1, k2 _ _ hHeld.2.1, k2 _ _ hHeld.2.2⟩) (fun hHeld => ?_)
  clear hK K
  try simp only [List.getElem_toArray, List.getElem_cons_succ, List.getElem_cons_zero, Act.put, List.setIfInBounds_toArray, List.set_cons_zero, List.set_cons_succ]
  refine wpAnyH_take (i := 6) (v := ?va6) rfl (by kernel_rfl) (by kernel_rfl) (by kernel_rfl) (fun _ _ _ h => h) (Or.inl ⟨by rfl, ?ya6⟩) hHeld ?ra6
  case ya6 => (intro W hW; obtain ⟨hW0, hW1, hW2⟩ := hW; go_simp; first | done | with_reducible rfl)
  try simp only [List.getElem_toArray, List.getElem_cons_succ, List.getElem_cons_zero, Act.put, List.setIfInBounds_toArray, List.set_cons_zero, List.set_cons_succ]
  refine wpAnyH_done (by kernel_rfl) ?_ _
  go_wp2
  go_ret
  exact ⟨rfl, HB2.out⟩
end Go.Proofs.YtjllmladhjbnaaaGreatDoor
/- Package sorts: where a number is, whether it is there; what may be asked. -/
namespace Go.Proofs.YtjllmladhjbnaaaGreatDoor
open Go.RowKit Go.Shelf
attribute [local go_sem] Oper.semAt_some
/-- Where a number is first; -1: nowhere. -/
def idxI (xs : List Int) (v : Int) : Int := match xs.findIdx? (· == v) with | some k => (k : Int) | none => -1
theorem idxI_at {xs : List Int} {v : Int} {k : Nat} (h : xs[k]? = some v) (hno : ∀ j, j < k → xs[j]? ≠ some v) : idxI xs v = k := by
  have : xs.findIdx? (· == v) = some k := by
    rw [List.findIdx?_eq_some_iff_getElem]
    obtain ⟨h1, h2⟩ := List.getElem?_eq_some_iff.1 h
    refine ⟨h1, by simp [h2], fun j hj hb => ?_⟩
    have hjl : j < xs.length := by omega
    exact hno j hj (by rw [List.getElem?_eq_getElem hjl]; simpa using hb)
  unfold idxI
  rw [this]
theorem idxI_none {xs : List Int} {v : Int} (h : v ∉ xs) : idxI xs v = -1 := by
  have : xs.findIdx? (· == v) = none := by
    rw [List.findIdx?_eq_none_iff]
    intro x hx
    have : x ≠ v := fun e => h (e ▸ hx)
    simpa using this
  unfold idxI
  rw [this]
theorem idxI_nn (xs : List Int) (v : Int) : 0 ≤ idxI xs v ↔ v ∈ xs := by
  constructor
  · intro h
    apply Classical.byContradiction
    intro hn
    rw [idxI_none hn] at h
    omega
  · intro h
    unfold idxI
    cases hf : xs.findIdx? (· == v) with
    | none => rw [List.findIdx?_eq_none_iff] at hf; exact absurd (hf v h) (by simp)
    | some k => simp
set_option maxHeartbeats 1000000 in
theorem index_any (P : Option Addr) (m d : Nat) (xs : List Int) (v : Int) (w : World) (hx : Nums .i64 w P m xs) (hm : m ≤ 1000000) :
    Calls Tryz.prog 53 #[.slice P m d, .int .i64 v] w fun e w' => e = .returned (.int .i64 (idxI xs v)) ∧ w = w' := by
  have HX := Lib.hid hx
  clear hx
  go_enter Tryz.func53, Tryz.ntmps53
  go_wp2
  go_loopw [8] (fun i wr => ∃ k : Nat, i = .int .i64 k ∧ k ≤ m ∧ (∀ j, j < k → xs[j]? ≠ some v) ∧ w = wr) (fun i _ => m - (intOf i).toNat)
  case atStart => exact ⟨0, rfl, by omega, fun j h => by omega, rfl⟩
  case round =>
    obtain ⟨k, rfl, hk, hno, rfl⟩ := hrel
    have HN := Lib.hid hno
    clear hno
    by_cases hlt : k < m
    · obtain ⟨ad, x, rfl, hxk, -, hcx⟩ := HX.out.at_ hlt
      have HXK := Lib.hid hxk
      clear hxk
      have k0 : (0 : Int) ≤ (k : Int) := by omega
      have k1 : (k : Int) < (m : Int) := by omega
      by_cases hv : v = x
      · have dv : (v == x) = true := by simpa using hv
        have he := Lib.hid (idxI_at (by rw [hv]; exact HXK.out) HN.out)
        clear hv
        go_wp2
        go_ret
        exact ⟨ret_int he.out.symm, rfl⟩
      · have dv : (v == x) = false := by simpa using hv
        have HV := Lib.hid hv
        clear hv
        go_wp2
        go_roundw
        case rel =>
          refine ⟨k + 1, by go_num, by omega, fun j hj => ?_, trivial⟩
          by_cases hjk : j = k
          · subst hjk; rw [HXK.out]; exact fun e => HV.out (Option.some.inj e).symm
          · exact HN.out j (by omega)
        case measure => simp [intOf]; omega
    · obtain rfl : k = m := by omega
      have he := Lib.hid (idxI_none (xs := xs) (v := v) fun hmem => by
        obtain ⟨j, hj⟩ := List.mem_iff_getElem?.1 hmem
        exact HN.out j (by have := (List.getElem?_eq_some_iff.1 hj).1; rw [HX.out.len] at this; exact this) hj)
      go_wp2
      go_ret
      exact ⟨ret_int he.out.symm, rfl⟩
set_option maxHeartbeats 1000000 in
theorem contains_any (P : Option Addr) (m d : Nat) (xs : List Int) (v : Int) (w : World) (hx : Nums .i64 w P m xs) (hm : m ≤ 1000000) :
    Calls Tryz.prog 26 #[.slice P m d, .int .i64 v] w fun e w' => e = .returned (.bool (decide (v ∈ xs))) ∧ w = w' := by
  have H := Lib.hid (index_any P m d xs v w hx hm)
  have hd := idxI_nn xs v
  obtain ⟨z, hz⟩ : ∃ z, z = idxI xs v := ⟨_, rfl⟩
  rw [← hz] at H hd
  have e : decide (0 ≤ z) = decide (v ∈ xs) := by simp [hd]
  have E := Lib.hid e
  clear hx hd hz e
  go_enter Tryz.func26, Tryz.ntmps26
  go_wp2_with fail
  refine H.out.mono ?_
  rintro e w' ⟨rfl, rfl⟩
  go_wp2
  go_ret
  first | exact ⟨rfl, rfl⟩ | exact ⟨by rw [E.out]; rfl, rfl⟩
set_option maxHeartbeats 1000000 in
theorem proper_any' (A : Option Addr) (q c mm : Nat) (cs : List Int) (n : Int) (w : World) (h : FQ w A q mm cs n) (hck : checkB cs (mm : Int) = true) :
    Calls Tryz.prog 20 #[.agg #[.slice A q c, .int .i64 mm], .int .i64 n] w fun e w' => e = .returned (.bool true) ∧ Below w.heap.size w w' := by
  have hb0 := below_box w (.cells #[.slice A q c, .int .i64 mm] 25)
  have h' := h.below hb0 (Nat.le_refl _)
  have hc := Check_any A q c cs (mm : Int) _ h'.nums (by have := h'.q4; omega) (by have := h'.m2; constructor <;> omega)
  rw [hck] at hc
  have HC := Lib.hid hc
  have HB0 := Lib.hid hb0
  have n0 := h.n0
  have n3 := h.n3
  clear h h' hb0 hc hck
  go_enter Tryz.func20, Tryz.ntmps20
  go_wp2_with fail
  refine HC.out.mono ?_
  rintro e w1 ⟨rfl, hb1⟩
  have HB1 := Lib.hid (HB0.out.trans (hb1.mono HB0.out.size))
  clear hb1
  go_wp2
  go_ret
  exact ⟨rfl, HB1.out⟩
end Go.Proofs.YtjllmladhjbnaaaGreatDoor
/- Edges in memory: rows of three cells. -/
namespace Go.Proofs.YtjllmladhjbnaaaGreatDoor
open Go.RowKit Go.Shelf
/-- An edge, as a value. -/
def eC (e : Ed) : List Value := [.int .i64 e.s, .int .i64 e.p, .bool e.sc]
def eV (e : Ed) : Value := .agg #[.int .i64 e.s, .int .i64 e.p, .bool e.sc]
def eCs (es : List Ed) : List Value := es.flatMap eC
theorem eCs_len (es : List Ed) : (eCs es).length = es.length * 3 := by
  induction es with
  | nil => rfl
  | cons e t ih => rw [eCs, List.flatMap_cons, List.length_append, ← eCs, ih, List.length_cons]; simp [eC]; omega
theorem eCs_at : ∀ (es : List Ed) (j r : Nat) (e : Ed), r < 3 → es[j]? = some e → (eCs es)[j * 3 + r]? = (eC e)[r]?
  | [], _, _, _, _, h => by simp at h
  | a :: t, 0, r, e, hr, h => by
    simp at h
    subst h
    rw [eCs, List.flatMap_cons, Nat.zero_mul, Nat.zero_add, List.getElem?_append_left (by simpa [eC] using hr)]
  | a :: t, j + 1, r, e, hr, h => by
    rw [eCs, List.flatMap_cons, ← eCs, List.getElem?_append_right (by simp [eC]; omega)]
    have : (j + 1) * 3 + r - (eC a).length = j * 3 + r := by simp [eC]; omega
    rw [this]
    exact eCs_at t j r e hr (by simpa using h)
theorem eCs_set {es : List Ed} {j : Nat} (e : Ed) (hj : j < es.length) : (((eCs es).set (j * 3) (.int .i64 e.s)).set (j * 3 + 1) (.int .i64 e.p)).set (j * 3 + 2) (.bool e.sc) = eCs (es.set j e) := by
  apply List.ext_getElem?
  intro i
  by_cases hi : i < es.length * 3
  · have hq : i / 3 < es.length := by omega
    have hr : i % 3 < 3 := Nat.mod_lt _ (by omega)
    have hi3 : i = i / 3 * 3 + i % 3 := by omega
    by_cases hjq : i / 3 = j
    · rw [hjq] at hi3
      have hR := eCs_at (es.set j e) j (i % 3) e hr (List.getElem?_set_self hj)
      rw [← hi3] at hR
      rw [hR]
      rcases (by omega : i % 3 = 0 ∨ i % 3 = 1 ∨ i % 3 = 2) with h | h | h
      · rw [h] at hi3 ⊢
        rw [List.getElem?_set_ne (by omega), List.getElem?_set_ne (by omega), hi3, Nat.add_zero, List.getElem?_set_self (by rw [eCs_len]; omega)]; rfl
      · rw [h] at hi3 ⊢
        rw [List.getElem?_set_ne (by omega), hi3, List.getElem?_set_self (by rw [List.length_set, eCs_len]; omega)]; rfl
      · rw [h] at hi3 ⊢
        rw [hi3, List.getElem?_set_self (by rw [List.length_set, List.length_set, eCs_len]; omega)]; rfl
    · rw [List.getElem?_set_ne (by omega), List.getElem?_set_ne (by omega), List.getElem?_set_ne (by omega)]
      have he : es[i / 3]? = some es[i / 3] := List.getElem?_eq_getElem hq
      have a := eCs_at es (i / 3) (i % 3) _ hr he
      have b := eCs_at (es.set j e) (i / 3) (i % 3) _ hr (by rw [List.getElem?_set_ne (by omega)]; exact he)
      rw [← hi3] at a b
      rw [a, b]
  · rw [List.getElem?_eq_none (by simp [eCs_len]; omega), List.getElem?_eq_none (by simp [eCs_len]; omega)]
def zE : Ed := ⟨0, 0, false⟩
theorem made_eCs (n : Nat) : (madeCells #[.int .i64 0, .int .i64 0, .bool false] (n * 3)).toList = eCs (List.replicate n zE) := by
  apply List.ext_getElem?
  intro i
  by_cases hi : i < n * 3
  · have hr : i % 3 < 3 := Nat.mod_lt _ (by omega)
    have hi3 : i / 3 * 3 + i % 3 = i := by omega
    have b := eCs_at (List.replicate n zE) (i / 3) (i % 3) zE hr (by rw [List.getElem?_replicate, if_pos (by omega)])
    rw [hi3] at b
    rw [b]
    unfold madeCells
    simp only [Array.toList_map, Array.toList_range, List.getElem?_map, List.getElem?_range hi, Option.map_some]
    rcases (by omega : i % 3 = 0 ∨ i % 3 = 1 ∨ i % 3 = 2) with h | h | h <;> simp [h, eC, zE]
  · rw [List.getElem?_eq_none (by simp [madeCells]; omega), List.getElem?_eq_none (by simp [eCs_len]; omega)]
/-- A block of the call's own that holds just these edges. -/
def OwnE (w : World) (g : Nat) (es : List Ed) : Prop := Own 42 w g (eCs es)
theorem OwnE.cells {w : World} {g : Nat} {es : List Ed} (h : OwnE w g es) {j : Nat} {e : Ed} (he : es[j]? = some e) :
    w.cell? ⟨g, j * 3, none⟩ = some (.int .i64 e.s) ∧ w.cell? ⟨g, j * 3 + 1, none⟩ = some (.int .i64 e.p) ∧ w.cell? ⟨g, j * 3 + 2, none⟩ = some (.bool e.sc) :=
  ⟨Own.cell h (by have := eCs_at es j 0 e (by omega) he; simpa [eC] using this), Own.cell h (by have := eCs_at es j 1 e (by omega) he; simpa [eC] using this), Own.cell h (by have := eCs_at es j 2 e (by omega) he; simpa [eC] using this)⟩
theorem OwnE.set_ {w : World} {g : Nat} {es : List Ed} (h : OwnE w g es) {j : Nat} (e : Ed) (hj : j < es.length) :
    OwnE (((w.setCell ⟨g, j * 3, none⟩ (.int .i64 e.s)).setCell ⟨g, j * 3 + 1, none⟩ (.int .i64 e.p)).setCell ⟨g, j * 3 + 2, none⟩ (.bool e.sc)) g (es.set j e) := by
  have := ((Own.set_ h (j * 3) (.int .i64 e.s)).set_ (j * 3 + 1) (.int .i64 e.p)).set_ (j * 3 + 2) (.bool e.sc)
  rw [eCs_set e hj] at this
  exact this
theorem OwnE.below {B : Nat} {w w' : World} {g : Nat} {es : List Ed} (h : OwnE w g es) (hb : Below B w w') (hg : g < B) : OwnE w' g es := Own.below h hb hg
theorem OwnE.lt {w : World} {g : Nat} {es : List Ed} (h : OwnE w g es) : g < w.heap.size := Own.lt h
theorem OwnE.made (w : World) (n : Nat) : OwnE (w.alloc (.cells (madeCells #[.int .i64 0, .int .i64 0, .bool false] (n * 3)) 42)) w.heap.size (List.replicate n zE) := by
  unfold OwnE Own
  rw [heap_alloc_new]
  congr 2
  apply Array.ext'
  rw [made_eCs]
theorem infoE : (Tryz.prog.info? 42).map (fun i => (i.zero, i.size, i.bytes)) = some (some (.agg #[.int .i64 0, .int .i64 0, .bool false]), 3, 24) := by kernel_rfl
theorem make_edges (n : Nat) (hn : n ≤ 1000) (w : World) : (Instr.makeSlice 30 (.int .i64 (n : Int)) (.int .i64 (n : Int))).run Tryz.prog w = .ok (.slice (some ⟨w.heap.size, 0, none⟩) n n) (w.alloc (.cells (madeCells #[.int .i64 0, .int .i64 0, .bool false] (n * 3)) 42)) := by
  obtain ⟨i, hi, hz, hs, hb⟩ := info_parts infoE
  have hr := run_make (P := Tryz.prog) w 30 42 i (.agg #[.int .i64 0, .int .i64 0, .bool false]) Tryz.underlying30 hi hz .i64 .i64 n n (by omega) (by omega) (by rw [hb]; omega) (by omega)
  simpa [hs, Value.cells] using hr
/-- Edges to be read. -/
def Edgs (w : World) (A : Option Addr) (n : Nat) (es : List Ed) : Prop :=
  es.length = n ∧ (∀ e ∈ es, inK .i64 e.s ∧ inK .i64 e.p) ∧ (0 < n → ∃ g o, A = some ⟨g, o, none⟩ ∧ ∀ (j : Nat) e, es[j]? = some e → w.cell? ⟨g, o + j * 3, none⟩ = some (.int .i64 e.s) ∧ w.cell? ⟨g, o + j * 3 + 1, none⟩ = some (.int .i64 e.p) ∧ w.cell? ⟨g, o + j * 3 + 2, none⟩ = some (.bool e.sc))
theorem Edgs.keep {w w' : World} {A : Option Addr} {n : Nat} {es : List Ed} (h : Edgs w A n es) (hk : Keeps w w') : Edgs w' A n es :=
  ⟨h.1, h.2.1, fun hn => by
    obtain ⟨g, o, e, hc⟩ := h.2.2 hn
    exact ⟨g, o, e, fun j x hx => ⟨hk _ _ (hc j x hx).1, hk _ _ (hc j x hx).2.1, hk _ _ (hc j x hx).2.2⟩⟩⟩
theorem OwnE.edgs {w : World} {g : Nat} {es : List Ed} (h : OwnE w g es) (hk : ∀ e ∈ es, inK .i64 e.s ∧ inK .i64 e.p) : Edgs w (some ⟨g, 0, none⟩) es.length es :=
  ⟨rfl, hk, fun _ => ⟨g, 0, rfl, fun j e he => by rw [Nat.zero_add]; exact h.cells he⟩⟩
/-- What a box holds. -/
def Bx (W : World) (g : Nat) (vs : Array Value) : Prop := ∀ (j : Nat) (u : Value), vs[j]? = some u → W.cell? ⟨g, j, none⟩ = some u
theorem Bx.keep {W W' : World} {g : Nat} {vs : Array Value} (h : Bx W g vs) (hk : Keeps W W') : Bx W' g vs := fun j u hu => hk _ _ (h j u hu)
theorem Bx.other {W : World} {g g' : Nat} {vs : Array Value} (h : Bx W g vs) (hne : g ≠ g') (i : Nat) (u : Value) : Bx (W.setCell ⟨g', i, none⟩ u) g vs := fun j v hv => by
  rw [World.cell?_of_block (Below.heap_setCell _ _ _ _ hne)]; exact h j v hv
theorem Bx.new (w : World) (vs : Array Value) (T : TypeId) : Bx (w.alloc (.cells vs T)) w.heap.size vs := fun j u hu => by
  rw [cell_of_row _ _ _ _ T (0, 0) (heap_alloc_new w _)]; exact hu
/-- Edges of the call's own that grow. -/
def OE (B : Nat) (w : World) (v : Value) (es : List Ed) : Prop := w.ownsRow B 42 3 v es.length (eCs es)
theorem OE.below {B : Nat} {w w' : World} {v : Value} {es : List Ed} (h : OE B w v es) (hb : Below w.heap.size w w') : OE B w' v es := own_below h hb (Nat.le_refl _)
theorem OE.mono {B B' : Nat} {w : World} {v : Value} {es : List Ed} (h : OE B w v es) (hb : B' ≤ B) : OE B' w v es := own_mono h hb
theorem OE.nil (B : Nat) (w : World) : OE B w (.slice none 0 0) [] := World.ownsRow_nil _ _ _ _
theorem eCs_one (es : List Ed) : ∀ u ∈ eCs es, u.oneCell' = true := by
  intro u hu
  obtain ⟨e, -, h⟩ := List.mem_flatMap.1 hu
  simp [eC] at h
  rcases h with rfl | rfl | rfl <;> rfl
theorem eCs_app (a b : List Ed) : eCs (a ++ b) = eCs a ++ eCs b := by simp [eCs]
theorem OE.lit (w : World) (B : Nat) (e : Ed) (hB : B ≤ w.heap.size) : OE B (w.alloc (.cells #[.int .i64 e.s, .int .i64 e.p, .bool e.sc] 42)) (.slice (some ⟨w.heap.size, 0, none⟩) 1 1) [e] :=
  own_lit w B 42 (eCs [e]) w.heap.size 1 3 rfl hB (by simp [maxLen]) (by simp [eCs, eC])
theorem OE.form {B : Nat} {w : World} {v : Value} {es : List Ed} (h : OE B w v es) (hk : ∀ e ∈ es, inK .i64 e.s ∧ inK .i64 e.p) : ∃ A c, v = .slice A es.length c ∧ Edgs w A es.length es := by
  obtain ⟨P, c, hv, h1, h2, h3⟩ := own_form h
  refine ⟨P, c, hv, rfl, hk, fun hn => ?_⟩
  obtain ⟨g, e1, _, hc⟩ := h3 hn
  refine ⟨g, 0, e1, fun j e he => ?_⟩
  rw [Nat.zero_add]
  have a := eCs_at es j 0 e (by omega) he
  have b := eCs_at es j 1 e (by omega) he
  have d := eCs_at es j 2 e (by omega) he
  exact ⟨hc _ _ (by simpa [eC] using a), hc _ _ (by simpa [eC] using b), hc _ _ (by simpa [eC] using d)⟩
theorem oe_append {B : Nat} {w : World} {v : Value} {es es2 : List Ed} {g m c : Nat} (h : OE B w v es) (h2 : OwnE w g es2) (hm : es2.length = m) (hn : es.length + m ≤ 1000) (hB : B ≤ w.heap.size) :
    ∃ v' w', (Builtin.append_ #[30, 30] 30 #[v, .slice (some ⟨g, 0, none⟩) m c]).run Tryz.prog w = .ok v' w' ∧ OE B w' v' (es ++ es2) ∧ Below B w w' := by
  obtain ⟨i0, hi, hz0, hz1, hz2⟩ := info_parts infoE
  obtain ⟨v', w', hrun, ho, hgr, _, _⟩ := run_append_own_at (P := Tryz.prog) w B 30 30 42 i0 _ 3 24 Tryz.underlying30 hi hz0 hz1 hz2 rfl (by omega) v es.length (eCs es) h
    ⟨g, 0, none⟩ m c (eCs es2) (by rw [eCs_len, hm]) (fun j x hx => by rw [add0]; exact Own.cell h2 hx) (eCs_one es2) (by simp [maxLen]; omega) (by omega) hB
  refine ⟨v', w', hrun, ?_, (Below.refl B w).grown hgr hB (fun k e => (h.lt k e).1)⟩
  unfold OE
  rw [List.length_append, eCs_app, hm]
  exact ho
theorem Only.keeps {g : Nat} {w4 w5 wr : World} (h : Only g w5 wr) (h0 : Keeps w4 w5) (hg : w4.heap.size ≤ g) : Keeps w4 wr := fun p v hp => by
  have h1 := block_lt hp
  have h2 := h0 p v hp
  rw [World.cell?_of_block (h.block _ (block_lt h2) (by omega))]
  exact h2
end Go.Proofs.YtjllmladhjbnaaaGreatDoor
/- Package sorts: the levels of sets. -/
namespace Go.Proofs.YtjllmladhjbnaaaGreatDoor
open Go.RowKit Go.Shelf
attribute [local go_sem] Oper.semAt_some
/-- The levels, of the first sets alone. -/
def lvTo (d k : Nat) : List (List Int) := (List.range (d + 1)).map fun t => ((setsL d).take k).filter fun s => lvl s == ((d - t : Nat) : Int)
theorem lvTo_len (d k : Nat) : (lvTo d k).length = d + 1 := by simp [lvTo]
theorem lvTo_zero (d : Nat) : lvTo d 0 = List.replicate (d + 1) [] := by
  apply List.ext_getElem
  · simp [lvTo]
  · intro i h1 h2
    simp [lvTo]
theorem lvTo_at {d k t : Nat} (h : t ≤ d) : (lvTo d k)[t]? = some (((setsL d).take k).filter fun s => lvl s == ((d - t : Nat) : Int)) := by
  unfold lvTo
  rw [List.getElem?_map, List.getElem?_range (by omega)]; rfl
theorem lvTo_row {d k t : Nat} (h : t ≤ d) {r : List Int} (hr : (lvTo d k)[t]? = some r) : r.length ≤ k := by
  rw [lvTo_at h] at hr
  injection hr with hr
  subst hr
  exact Nat.le_trans (List.length_filter_le _ _) (by rw [List.length_take]; omega)
theorem lvTo_set {d k t : Nat} {s : Int} {r : List Int} (hs : (setsL d)[k]? = some s) (ht : t ≤ d) (hl : lvl s = ((d - t : Nat) : Int)) (hr : (lvTo d k)[t]? = some r) : (lvTo d k).set t (r ++ [s]) = lvTo d (k + 1) := by
  rw [lvTo_at ht] at hr
  injection hr with hr
  apply List.ext_getElem?
  intro i
  by_cases hi : i ≤ d
  · rw [lvTo_at (k := k + 1) hi, List.take_add_one, hs, List.filter_append]
    by_cases hit : t = i
    · subst hit
      rw [List.getElem?_set_self (by rw [lvTo_len]; omega), ← hr]
      simp [hl]
    · rw [List.getElem?_set_ne hit, lvTo_at hi]
      have : ¬ lvl s = ((d - i : Nat) : Int) := by omega
      simp [this]
  · rw [List.getElem?_eq_none (by rw [List.length_set, lvTo_len]; omega), List.getElem?_eq_none (by rw [lvTo_len]; omega)]
theorem lvl_sets : ∀ d, 1 ≤ d → d ≤ 4 → ∀ s ∈ setsL d, 0 ≤ lvl s ∧ lvl s ≤ d ∧ 0 ≤ s ∧ s ≤ 15 := by
  intro d h1 h2
  rcases (by omega : d = 1 ∨ d = 2 ∨ d = 3 ∨ d = 4) with rfl | rfl | rfl | rfl <;> decide +kernel
/-- All levels, the highest first. -/
def lvsL (d : Nat) : List (List Int) := (List.range (d + 1)).map fun t => levL d (d - t)
theorem lvTo_all (d : Nat) : lvTo d (setsL d).length = lvsL d := by
  unfold lvTo lvsL levL
  rw [List.take_length]
set_option maxRecDepth 100000 in
set_option maxHeartbeats 4000000 in
theorem levels_any (d : Nat) (w : World) (h1 : 1 ≤ d) (h4 : d ≤ 4) (hT : Tab w) (hw1 : 1 < w.heap.size) :
    Calls Tryz.prog 21 #[.int .i64 d] w fun e w' => ∃ g us, e = .returned (.slice (some ⟨g, 0, none⟩) (d + 1) (d + 1)) ∧ OM w.heap.size w' (.slice (some ⟨g, 0, none⟩) (d + 1) (d + 1)) (lvsL d) us ∧ Below w.heap.size w w' := by
  have HMK := Lib.hid (make_rows9 (d + 1) (by omega) w)
  have hom := om_made w (d + 1) (by omega)
  rw [← lvTo_zero d] at hom
  obtain ⟨w0, hw0⟩ : ∃ w0, w0 = w.alloc (.cells (madeCells #[.slice none 0 0] (d + 1)) 22) := ⟨_, rfl⟩
  have hb0 : Below w.heap.size w w0 := by rw [hw0]; exact below_box w _
  rw [← hw0] at hom HMK
  obtain ⟨N, hN⟩ : ∃ N, N = 2 ^ d := ⟨_, rfl⟩
  have hsl := setsL_len d h1 h4
  have n16 := pow_16 d h4
  rw [← hN] at hsl n16
  have HS := Lib.hid (sets_any d w0 h1 h4 (hT.below hb0 hw1) (by have := hb0.size; omega))
  rw [← hN] at HS
  have HT := Lib.hid hT
  have HOM := Lib.hid hom
  have HB0 := Lib.hid hb0
  have HSL := Lib.hid hsl
  obtain ⟨go, hgo⟩ : ∃ go, go = w.heap.size := ⟨_, rfl⟩
  have hmk := HMK.out
  rw [← hgo] at hmk
  have hom2 := HOM.out
  rw [← hgo] at hom2
  have HOM2 := Lib.hid hom2
  have HGO := Lib.hid hgo
  have e1 : IntKind.i64.wrap ((d : Int) + 1) = ((d + 1 : Nat) : Int) := by rw [IntWalk.i64_in _ (by omega)]; push_cast; rfl
  obtain ⟨D, hD⟩ : ∃ D, D = d + 1 := ⟨_, rfl⟩
  rw [← hD] at hmk HOM2 e1 ⊢
  have HD := Lib.hid hD
  clear hT hom hom2 hb0 hsl hw0 hN HMK HOM hgo hD
  go_enter Tryz.func21, Tryz.ntmps21
  go_wp2_with fail
  refine HS.out.mono ?_
  rintro e w1 ⟨g, rfl, hn, hb1, hg⟩
  have HB1 := Lib.hid (HB0.out.trans (hb1.mono HB0.out.size))
  have hg1 : g < w1.heap.size := by
    obtain ⟨ad, x, e, -, -, hc⟩ := hn.at_ (k := 0) (by omega)
    injection e with e
    subst e
    have := block_lt hc
    rwa [block_of_add] at this
  have HN := Lib.hid hn
  have hom3 := HOM2.out.below hb1
  have hgne : g ≠ go := fun e => by
    have := hom3.own
    have h3 := (HOM2.out.own.lt go rfl).2
    omega
  have HGN := Lib.hid hgne
  have hom4 : OM w.heap.size w1 (.slice (some ⟨go, 0, none⟩) D D) (lvTo d 0) (List.replicate D (.slice none 0 0)) := by rw [← HGO.out]; exact hom3
  have HOM4 := Lib.hid hom4
  have hNz : (1 : Int) ≤ (N : Int) := by omega
  clear hn hb1 hom3 hom4 hgne hmk
  go_wp2_with fail
  go_loopw [13] (fun i wr => ∃ (k : Nat) (us : List Value), i = .int .i64 k ∧ k ≤ N ∧ OM w.heap.size wr (.slice (some ⟨go, 0, none⟩) D D) (lvTo d k) us ∧ (∀ u ∈ us, u.ownBlock ≠ some g) ∧ wr.heap[g]? = w1.heap[g]? ∧ Below w.heap.size w wr) (fun i _ => N - (intOf i).toNat)
  case atStart => exact ⟨0, _, rfl, Nat.zero_le _, HOM4.out, fun u hu e => by rw [List.eq_of_mem_replicate hu] at e; (cases e), rfl, HB1.out⟩
  case round =>
    obtain ⟨k, us, rfl, hk, hom, hug, hgb, hb⟩ := hrel
    rename World => wr
    have HB := Lib.hid hb
    have HO := Lib.hid hom
    have HUG := Lib.hid hug
    have HGB := Lib.hid hgb
    have hz := hb.size
    clear hb hom hug hgb HOM4
    by_cases hlt : k < N
    · obtain ⟨ad, s, e, hs, -, hcs⟩ := HN.out.at_ hlt
      injection e with e
      subst e
      have hcs2 : wr.cell? ((⟨g, 0, none⟩ : Addr).add k) = some (.int .i64 s) := (World.cell?_of_block (by rw [block_of_add]; exact HGB.out)).trans hcs
      rw [add0] at hcs2
      obtain ⟨l1, l2, s0, s15⟩ := lvl_sets d h1 h4 s (List.mem_of_getElem? hs)
      have HL := Lib.hid (level_any s wr s0 s15 (HT.out.below HB.out hw1) (by omega))
      obtain ⟨t, ht, htd⟩ : ∃ t : Nat, lvl s = ((d - t : Nat) : Int) ∧ t ≤ d := ⟨d - (lvl s).toNat, by omega, by omega⟩
      have hdt : (d : Int) - lvl s = (t : Int) := by omega
      obtain ⟨l, hle⟩ : ∃ l, l = lvl s := ⟨_, rfl⟩
      rw [← hle] at HL hdt l1 l2
      have HLE := Lib.hid ht
      have HSS := Lib.hid hs
      have e2 : IntKind.i64.wrap ((d : Int) - l) = (t : Int) := by rw [hdt]; exact IntWalk.i64_in _ (by omega)
      have tD : (t : Int) < (D : Int) := by have := HD.out; omega
      have t0 : (0 : Int) ≤ (t : Int) := by omega
      have k0 : (0 : Int) ≤ (k : Int) := by omega
      have k1 : (k : Int) < (N : Int) := by omega
      clear hcs hle ht hs
      go_wp2_with fail
      refine HL.out.mono ?_
      rintro e w2 ⟨rfl, hb2, -⟩
      have hr0 := lvTo_at (k := k) htd
      obtain ⟨r, hre⟩ : ∃ r, r = ((setsL d).take k).filter fun s => lvl s == ((d - t : Nat) : Int) := ⟨_, rfl⟩
      rw [← hre] at hr0
      have hrl := lvTo_row htd hr0
      obtain ⟨go2, co, u, ev, -, hgol, hu, hcu, hfu, hru, -⟩ := (HO.out.below hb2).at_ hr0
      injection ev with ev e8 e9
      injection ev with ev
      injection ev with ev
      subst ev
      clear e8 e9
      have hgw2 : g < w2.heap.size := by have := hb2.size; have := block_lt hcs2; dsimp only at this; omega
      have hgb2 : w2.heap[g]? = w1.heap[g]? := (hb2.block g (block_lt hcs2)).trans HGB.out
      obtain ⟨P0, d0, rfl, -⟩ := hru.form
      obtain ⟨g', c', wp, hrun, hom', hbp, hcp, hfp, hbk, hst⟩ := om_pushX (x := s) (HO.out.below hb2) hu hr0 (by rw [lvTo_len, ← HD.out]) (by constructor <;> omega) (by omega) (by have := hb2.size; omega) (by have := HGO.out; omega)
      have HB' := Lib.hid (HB.out.trans ((hb2.mono hz).trans hbp))
      have hom'' := hom'
      rw [lvTo_set HSS.out htd HLE.out hr0] at hom''
      have HO' := Lib.hid hom''
      have hug := HUG.out _ (List.mem_of_getElem? hu)
      have hst' := (hst g hgw2 (fun e => HGN.out e) hug).trans hgb2
      have HST := Lib.hid hst'
      have hne : g' ≠ g := fun e => by
        rcases hbk with h5 | h5
        · rw [e] at h5; exact hug h5
        · omega
      have HNE := Lib.hid hne
      have Hrun := Lib.hid hrun
      clear hom' hom'' hbp hru hrun hst hst' hne hbk hug hre hr0 hgb2 hb2 hcs2
      go_wp2_with (at_builtin; have _t := Hrun; refine wpList_append_eq rfl (.tmp 26) (.tmp 28) 22 rfl _ _ _ _ rfl rfl Hrun.out ?_; clear _t Hrun)
      go_roundw
      case rel =>
        refine ⟨k + 1, _, by go_num, by omega, HO'.out, fun u' hu' => ?_, HST.out, HB'.out⟩
        rcases List.mem_or_eq_of_mem_set hu' with h | h
        · exact HUG.out u' h
        · rw [h]; exact fun e => HNE.out (by simpa [Value.ownBlock] using e)
      case measure => simp [intOf]; omega
    · obtain rfl : k = N := by omega
      have ho := HO.out
      rw [← HSL.out, lvTo_all d] at ho
      have HO2 := Lib.hid ho
      clear ho
      go_wp2
      go_ret
      exact ⟨go, us, rfl, HO2.out, HB.out⟩
end Go.Proofs.YtjllmladhjbnaaaGreatDoor
