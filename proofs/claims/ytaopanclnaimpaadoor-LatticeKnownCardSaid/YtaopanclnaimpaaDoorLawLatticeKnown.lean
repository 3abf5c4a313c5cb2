/- The law LatticeKnown. -/
import Derived.Test.YtaopanclnaimpaaDoorL8
import Derived.Test.YtaopanclnaimpaaDoorTab
import Derived.Test.YtaopanclnaimpaaDoorRints
import Derived.Test.YtaopanclnaimpaaDoorCnt
import Derived.Test.YtaopanclnaimpaaDoorRegion
import Derived.IntWalk
namespace Go.Proofs.YtaopanclnaimpaaDoor
open Go.RowKit Go.Shelf
attribute [local go_sem] Oper.semAt_some
def gL (k : Nat) : Nat := match k with | 0 => 1 | 1 => 4 | 2 => 7 | _ => 10
def gA (k : Nat) : Nat := match k with | 0 => 0 | 1 => 2 | 2 => 3 | 3 => 5 | 4 => 6 | 5 => 8 | 6 => 9 | _ => 11
def gD (j : Nat) : Nat := 2 * j + 1
def gS (k : Nat) : Nat := match k with | 0 => 10 | 1 => 13 | 2 => 16 | 3 => 19 | 4 => 9 | 5 => 11 | 6 => 12 | 7 => 14 | 8 => 15 | 9 => 17 | 10 => 18 | _ => 20
def litK (k : Nat) : List Int := match k with | 0 => [3, 1, 2, 0] | 1 => [7, 3, 5, 6, 1, 2, 4, 0] | 2 => [1, 2, 4] | _ => [7, 13]
def gT (m b : Nat) : Array Bool := #[decide (1 ≤ m), b.testBit 0, decide (2 ≤ m), decide (3 ≤ m), b.testBit 1, decide (4 ≤ m), decide (5 ≤ m), b.testBit 2, decide (6 ≤ m), decide (7 ≤ m), b.testBit 3, decide (8 ≤ m), false, false, false, true, false, false, true, false, false, true, false, false, true, false, false, false, false, false, false, false, true, false, false, false, false, false, false, false, false, false, false, false, false, true, false, false, false, false]
def gF (a : Act) (X : Nat → Value) : Act := ((((((((((((a.put (some 10) (X 0)).put (some 13) (X 1)).put (some 16) (X 2)).put (some 19) (X 3)).put (some 9) (X 4)).put (some 11) (X 5)).put (some 12) (X 6)).put (some 14) (X 7)).put (some 15) (X 8)).put (some 17) (X 9)).put (some 18) (X 10)).put (some 20) (X 11))
theorem gF_self (a : Act) (h : 59 ≤ a.tmps.size) : gF a (fun i => a.tmps[gS i]!) = a := by
  unfold gF
  simp only [gS]
  rw [put_self (by omega), put_self (by omega), put_self (by omega), put_self (by omega), put_self (by omega), put_self (by omega), put_self (by omega), put_self (by omega), put_self (by omega), put_self (by omega), put_self (by omega), put_self (by omega)]
/-- A row of numbers, to be read. -/
def NV (W : World) (v : Value) (xs : List Int) : Prop := ∃ P c, v = .slice P xs.length c ∧ Nums .i64 W P xs.length xs
theorem NV.keep {W W' : World} {v : Value} {xs : List Int} (h : NV W v xs) (hk : Keeps W W') : NV W' v xs := by
  obtain ⟨P, c, e, hn⟩ := h
  exact ⟨P, c, e, hn.keep hk⟩
theorem NV.new (W : World) (xs : List Int) (h : ∀ x ∈ xs, inK .i64 x) : NV (W.alloc (.cells (xs.map (Value.int .i64)).toArray 3)) (.slice (some ⟨W.heap.size, 0, none⟩) xs.length xs.length) xs :=
  ⟨_, _, rfl, Arr.nums (show Arr .i64 3 _ _ _ from heap_alloc_new W _) h⟩
/-- What each step of the chain comes to. -/
def CV (k : Nat) (W : World) (v : Value) : Prop := match k with | 0 => NV W v (setsL 2) | 2 => NV W v (setsL 3) | 4 => NV W v (parL 0 3) | 6 => NV W v (parL 5 4) | _ => v = .bool true
theorem CV.keep {k : Nat} {W W' : World} {v : Value} (h : CV k W v) (hk : Keeps W W') : CV k W' v := by
  unfold CV at h ⊢
  split at h <;> first | exact h.keep hk | exact h
structure KI (W0 : World) (m b : Nat) (X : Nat → Value) (W : World) : Prop where
  bel : Below W0.heap.size W0 W
  lit : ∀ j, j < 4 → b.testBit j = true → NV W (X j) (litK j)
  val : ∀ k, k < m → CV k W (X (4 + k))
theorem KI.free {W0 W : World} {m b j : Nat} {X : Nat → Value} (h : KI W0 m b X W) (hj : j < 4) (hb : b < 16) (ht : b.testBit j = false) (hl : ∀ x ∈ litK j, inK .i64 x) :
    KI W0 m (b + 2 ^ j) (upL X j (.slice (some ⟨W.heap.size, 0, none⟩) (litK j).length (litK j).length)) (W.alloc (.cells ((litK j).map (Value.int .i64)).toArray 3)) := by
  have hk : Keeps W (W.alloc (.cells ((litK j).map (Value.int .i64)).toArray 3)) := (Keeps.refl W).alloc _
  refine ⟨h.bel.alloc h.bel.size _, fun i hi e => ?_, fun k hkm => ?_⟩
  · rw [bits_up4 hb hj hi ht] at e
    by_cases hij : i = j
    · subst hij
      rw [upL_same]
      exact NV.new W _ hl
    · rw [upL_ne X _ hij]
      exact (h.lit i hi (by simpa [hij] using e)).keep hk
  · rw [upL_ne X _ (by omega)]
    exact (h.val k hkm).keep hk
theorem KI.chain {W0 W W' : World} {m b : Nat} {X : Nat → Value} {v : Value} (h : KI W0 m b X W) (hb : Below W.heap.size W W') (hv : CV m W' v) : KI W0 (m + 1) b (upL X (4 + m) v) W' := by
  have hk := Keeps.of_below hb
  refine ⟨h.bel.trans (hb.mono h.bel.size), fun i hi e => ?_, fun k hkm => ?_⟩
  · rw [upL_ne X _ (by omega)]
    exact (h.lit i hi e).keep hk
  · by_cases e : k = m
    · subst e
      rw [upL_same]
      exact hv
    · rw [upL_ne X _ (by omega)]
      exact (h.val k (by omega)).keep hk
theorem ints_yes (A B : Option Addr) (n m c d : Nat) (xs ys : List Int) (w : World) (hx : Nums .i64 w A n xs) (hy : Nums .i64 w B m ys) (hn : n ≤ 100) (h : xs = ys) :
    Calls Tryd.prog 15 #[.slice A n c, .slice B m d] w fun e w' => e = .returned (.bool true) ∧ Below w.heap.size w w' :=
  (rInts A B n m c d xs ys w hx hy (by omega)).mono fun e w' ⟨he, q, hw⟩ => ⟨by rw [he, decide_eq_true h], by rw [hw]; exact below_drewN (Below.refl _ w) q⟩
theorem ok_bit {m b j : Nat} (h : okF 4 gD m b = true) (hj : j < 4) (hd : gD j < m) : b.testBit j = true := by
  simp only [okF, List.all_eq_true, List.mem_range] at h
  have := h j hj
  rw [decide_eq_true hd] at this
  simpa using this
theorem nv_sets {d : Nat} {w' : World} {g : Nat} (h1 : 1 ≤ d) (h4 : d ≤ 4) (h : Nums .i64 w' (some ⟨g, 0, none⟩) (2 ^ d) (setsL d)) : NV w' (.slice (some ⟨g, 0, none⟩) (2 ^ d) (2 ^ d)) (setsL d) := ⟨_, _, by rw [setsL_len d h1 h4], by rw [setsL_len d h1 h4]; exact h⟩
theorem known_cs : ∀ x ∈ [(2 : Int), 3, 16, 5], 1 ≤ x ∧ x ≤ 16 := by decide
set_option maxRecDepth 100000 in
set_option maxHeartbeats 8000000 in
theorem latticeKnown_walk (a0 : Int) (w : World) (h0 : inK .i64 a0) (hT : Tab w) (hw1 : 1 < w.heap.size) :
    Calls Tryd.prog 7 #[.int .i64 a0] w fun e w' => e = .returned (.bool true) ∧ Below w.heap.size w w' := by
  have HKn := Lib.hid (known8_any w hT hw1)
  have HT := Lib.hid hT
  have HWI := fun W => lwithin8 a0 11 W h0 (by omega) (by omega)
  obtain ⟨wi, hwi⟩ : ∃ wi : Nat, a0 % 11 = (wi : Int) := ⟨(a0 % 11).toNat, by omega⟩
  rw [hwi] at HWI
  have hw11 : wi < 11 := by omega
  have HWI := Lib.hid HWI
  clear hT hwi
  go_enter Tryd.func7, Tryd.ntmps7
  go_wp2_with fail
  refine HKn.out.mono ?_
  rintro e w1 ⟨rfl, hb1⟩
  have Hb1 := Lib.hid hb1
  clear hb1 HKn
  go_wp2_with fail
  obtain ⟨W0, hW0⟩ : ∃ W0, W0 = (w1.alloc (.cells #[.int .i64 2, .int .i64 3, .int .i64 16, .int .i64 5] 3)).alloc (.cells #[.slice (some ⟨w1.heap.size, 0, none⟩) 4 4, .int .i64 0] 25) := ⟨_, rfl⟩
  have hbw : Below w1.heap.size w1 W0 := by rw [hW0]; exact ((Below.refl _ w1).alloc (Nat.le_refl _) _).alloc (by simp) _
  have hbx : Box2 25 W0 (w1.heap.size + 1) (.slice (some ⟨w1.heap.size, 0, none⟩) 4 4) (.int .i64 0) := by
    rw [hW0]
    have := Box2.new (w1.alloc (.cells #[.int .i64 2, .int .i64 3, .int .i64 16, .int .i64 5] 3)) 25 (.slice (some ⟨w1.heap.size, 0, none⟩) 4 4) (.int .i64 0)
    rwa [World.size_alloc] at this
  have hnq : Nums .i64 W0 (some ⟨w1.heap.size, 0, none⟩) 4 [2, 3, 16, 5] := by
    rw [hW0]
    have ha : Arr .i64 3 (w1.alloc (.cells #[.int .i64 2, .int .i64 3, .int .i64 16, .int .i64 5] 3)) w1.heap.size [2, 3, 16, 5] := heap_alloc_new w1 _
    exact ((ha.alloc _).nums (fun x hx => by have := known_cs x hx; constructor <;> omega))
  rw [← hW0]
  obtain ⟨gc, hgc⟩ : ∃ gc, gc = w1.heap.size := ⟨_, rfl⟩
  obtain ⟨gb, hgb⟩ : ∃ gb, gb = w1.heap.size + 1 := ⟨_, rfl⟩
  rw [← hgb, ← hgc] at hbx
  rw [← hgc] at hnq ⊢
  rw [hgc, ← hgb, ← hgc]
  have HBX := Lib.hid hbx
  have HNQ := Lib.hid hnq
  have HB0 := Lib.hid (Hb1.out.trans (hbw.mono Hb1.out.size))
  have hw0 : 1 < W0.heap.size := Nat.lt_of_lt_of_le hw1 HB0.out.size
  have HT0 := Lib.hid (HT.out.below HB0.out hw1)
  clear hW0 hbw hbx hnq hgc hgb
  have HS2 := Lib.hid (fun (W : World) (hb : Below W0.heap.size W0 W) => sets_any 2 W (by omega) (by omega) (HT0.out.below hb hw0) (Nat.lt_of_lt_of_le hw0 hb.size))
  have HS3 := Lib.hid (fun (W : World) (hb : Below W0.heap.size W0 W) => sets_any 3 W (by omega) (by omega) (HT0.out.below hb hw0) (Nat.lt_of_lt_of_le hw0 hb.size))
  have HP0 := Lib.hid (fun (W : World) (hb : Below W0.heap.size W0 W) => par_oi 0 3 W (by omega) (by decide) (by omega) (by omega) (HT0.out.below hb hw0) (Nat.lt_of_lt_of_le hw0 hb.size))
  have HP5 := Lib.hid (fun (W : World) (hb : Below W0.heap.size W0 W) => par_oi 5 4 W (by omega) (by decide) (by omega) (by omega) (HT0.out.below hb hw0) (Nat.lt_of_lt_of_le hw0 hb.size))
  have HP15 := Lib.hid (fun (W : World) (hb : Below W0.heap.size W0 W) => (show Calls Tryd.prog 20 #[.int .i64 15, .int .i64 4] W fun e w' => ∃ P c, e = .returned (.slice P 0 c) ∧ Below W.heap.size W w' from
    (par_oi 15 4 W (by omega) (by decide) (by omega) (by omega) (HT0.out.below hb hw0) (Nat.lt_of_lt_of_le hw0 hb.size)).mono fun e w' ⟨v, he, ho, hb⟩ => by
      obtain ⟨P, c, hv, -⟩ := ho.form
      rw [show parL 15 4 = [] by decide +kernel] at hv
      exact ⟨P, c, by rw [he, hv]; rfl, hb⟩))
  have HZ1 := Lib.hid (fun (W : World) (hb : Below W0.heap.size W0 W) => (show Calls Tryd.prog 22 #[.agg #[.slice (some ⟨gc, 0, none⟩) 4 4, .int .i64 0], .int .i64 300, .int .i64 3] W fun e w' => e = .returned (.int .i64 6) ∧ Below W.heap.size W w' from by
    have h := size_any (some ⟨gc, 0, none⟩) 4 4 0 [2, 3, 16, 5] 300 3 W (HNQ.out.keep (Keeps.of_below hb)) (by omega) (by omega) (by omega) known_cs (by omega) (by omega) (by omega) (by decide) (HT0.out.below hb hw0) (Nat.lt_of_lt_of_le hw0 hb.size)
    rw [show sizeB [2, 3, 16, 5] 300 3 = 6 by decide +kernel] at h
    exact h))
  have HZ2 := Lib.hid (fun (W : World) (hb : Below W0.heap.size W0 W) => (show Calls Tryd.prog 22 #[.agg #[.slice (some ⟨gc, 0, none⟩) 4 4, .int .i64 0], .int .i64 300, .int .i64 15] W fun e w' => e = .returned (.int .i64 300) ∧ Below W.heap.size W w' from by
    have h := size_any (some ⟨gc, 0, none⟩) 4 4 0 [2, 3, 16, 5] 300 15 W (HNQ.out.keep (Keeps.of_below hb)) (by omega) (by omega) (by omega) known_cs (by omega) (by omega) (by omega) (by decide) (HT0.out.below hb hw0) (Nat.lt_of_lt_of_le hw0 hb.size)
    rw [show sizeB [2, 3, 16, 5] 300 15 = 300 by decide +kernel] at h
    exact h))
  have HZ3 := Lib.hid (fun (W : World) (hb : Below W0.heap.size W0 W) => (show Calls Tryd.prog 22 #[.agg #[.slice (some ⟨gc, 0, none⟩) 4 4, .int .i64 0], .int .i64 4, .int .i64 3] W fun e w' => e = .returned (.int .i64 4) ∧ Below W.heap.size W w' from by
    have h := size_any (some ⟨gc, 0, none⟩) 4 4 0 [2, 3, 16, 5] 4 3 W (HNQ.out.keep (Keeps.of_below hb)) (by omega) (by omega) (by omega) known_cs (by omega) (by omega) (by omega) (by decide) (HT0.out.below hb hw0) (Nat.lt_of_lt_of_le hw0 hb.size)
    rw [show sizeB [2, 3, 16, 5] 4 3 = 4 by decide +kernel] at h
    exact h))
  have HZ4 := Lib.hid (fun (W : World) (hb : Below W0.heap.size W0 W) => (show Calls Tryd.prog 22 #[.agg #[.slice (some ⟨gc, 0, none⟩) 4 4, .int .i64 0], .int .i64 9, .int .i64 0] W fun e w' => e = .returned (.int .i64 1) ∧ Below W.heap.size W w' from by
    have h := size_any (some ⟨gc, 0, none⟩) 4 4 0 [2, 3, 16, 5] 9 0 W (HNQ.out.keep (Keeps.of_below hb)) (by omega) (by omega) (by omega) known_cs (by omega) (by omega) (by omega) (by decide) (HT0.out.below hb hw0) (Nat.lt_of_lt_of_le hw0 hb.size)
    rw [show sizeB [2, 3, 16, 5] 9 0 = 1 by decide +kernel] at h
    exact h))
  have HZ5 := Lib.hid (fun (W : World) (hb : Below W0.heap.size W0 W) => (show Calls Tryd.prog 22 #[.agg #[.slice (some ⟨gc, 0, none⟩) 4 4, .int .i64 0], .int .i64 0, .int .i64 0] W fun e w' => e = .returned (.int .i64 0) ∧ Below W.heap.size W w' from by
    have h := size_any (some ⟨gc, 0, none⟩) 4 4 0 [2, 3, 16, 5] 0 0 W (HNQ.out.keep (Keeps.of_below hb)) (by omega) (by omega) (by omega) known_cs (by omega) (by omega) (by omega) (by decide) (HT0.out.below hb hw0) (Nat.lt_of_lt_of_le hw0 hb.size)
    rw [show sizeB [2, 3, 16, 5] 0 0 = 0 by decide +kernel] at h
    exact h))
  have HZ6 := Lib.hid (fun (W : World) (hb : Below W0.heap.size W0 W) => (show Calls Tryd.prog 26 #[.agg #[.slice (some ⟨gc, 0, none⟩) 4 4, .int .i64 0], .int .i64 300, .int .i64 3] W fun e w' => e = .returned (.int .i64 24) ∧ Below W.heap.size W w' from by
    have h := sort_any (some ⟨gc, 0, none⟩) 4 4 0 [2, 3, 16, 5] 300 3 W (HNQ.out.keep (Keeps.of_below hb)) (by omega) (by omega) (by omega) known_cs (by omega) (by omega) (by omega) (by decide) (HT0.out.below hb hw0) (Nat.lt_of_lt_of_le hw0 hb.size)
    rw [show sortB [2, 3, 16, 5] 300 3 = 24 by decide +kernel] at h
    exact h))
  have HZ7 := Lib.hid (fun (W : World) (hb : Below W0.heap.size W0 W) => (show Calls Tryd.prog 26 #[.agg #[.slice (some ⟨gc, 0, none⟩) 4 4, .int .i64 0], .int .i64 300, .int .i64 15] W fun e w' => e = .returned (.int .i64 3000) ∧ Below W.heap.size W w' from by
    have h := sort_any (some ⟨gc, 0, none⟩) 4 4 0 [2, 3, 16, 5] 300 15 W (HNQ.out.keep (Keeps.of_below hb)) (by omega) (by omega) (by omega) known_cs (by omega) (by omega) (by omega) (by decide) (HT0.out.below hb hw0) (Nat.lt_of_lt_of_le hw0 hb.size)
    rw [show sortB [2, 3, 16, 5] 300 15 = 3000 by decide +kernel] at h
    exact h))
  have HZ8 := Lib.hid (fun (W : World) (hb : Below W0.heap.size W0 W) => (show Calls Tryd.prog 26 #[.agg #[.slice (some ⟨gc, 0, none⟩) 4 4, .int .i64 0], .int .i64 0, .int .i64 3] W fun e w' => e = .returned (.int .i64 0) ∧ Below W.heap.size W w' from by
    have h := sort_any (some ⟨gc, 0, none⟩) 4 4 0 [2, 3, 16, 5] 0 3 W (HNQ.out.keep (Keeps.of_below hb)) (by omega) (by omega) (by omega) known_cs (by omega) (by omega) (by omega) (by decide) (HT0.out.below hb hw0) (Nat.lt_of_lt_of_le hw0 hb.size)
    rw [show sortB [2, 3, 16, 5] 0 3 = 0 by decide +kernel] at h
    exact h))
  have HZ9 := Lib.hid (fun (W : World) (hb : Below W0.heap.size W0 W) => (show Calls Tryd.prog 24 #[.agg #[.slice (some ⟨gc, 0, none⟩) 4 4, .int .i64 0], .int .i64 300, .int .i64 6] W fun e w' => e = .returned (.int .i64 48) ∧ Below W.heap.size W w' from by
    have h := scan_any (some ⟨gc, 0, none⟩) 4 4 0 [2, 3, 16, 5] 300 6 W (HNQ.out.keep (Keeps.of_below hb)) (by omega) (by omega) (by omega) known_cs (by omega) (by omega) (by omega) (by decide) (HT0.out.below hb hw0) (Nat.lt_of_lt_of_le hw0 hb.size)
    rw [show sizeB [2, 3, 16, 5] 300 6 = 48 by decide +kernel] at h
    exact h))
  have hd0 : W0.drew.cell? ⟨gb, 0, none⟩ = some (.slice (some ⟨gc, 0, none⟩) 4 4) ∧ W0.drew.cell? ⟨gb, 1, none⟩ = some (.int .i64 0) := ⟨HBX.out.cell0, HBX.out.cell1⟩
  refine wp_region_held_drew (S := fun W => W.cell? ⟨gb, 0, none⟩ = some (.slice (some ⟨gc, 0, none⟩) 4 4) ∧ W.cell? ⟨gb, 1, none⟩ = some (.int .i64 0)) (by kernel_rfl) hd0 (fun hHeld => ?_)
  refine wpAnyH_take (i := 15) (v := ?vs15) rfl (by kernel_rfl) (by kernel_rfl) (by kernel_rfl) (fun _ _ _ h => h) (Or.inl ⟨by rfl, ?ys15⟩) hHeld ?rs15
  case ys15 => (intro W hW; obtain ⟨h1, h2⟩ := hW; go_simp; first | done | with_reducible rfl)
  try simp only [List.getElem_toArray, List.getElem_cons_succ, List.getElem_cons_zero, Act.put, List.setIfInBounds_toArray, List.set_cons_zero, List.set_cons_succ]
  refine wpAnyH_take (i := 18) (v := ?vs18) rfl (by kernel_rfl) (by kernel_rfl) (by kernel_rfl) (fun _ _ _ h => h) (Or.inl ⟨by rfl, ?ys18⟩) hHeld ?rs18
  case ys18 => (intro W hW; obtain ⟨h1, h2⟩ := hW; go_simp; first | done | with_reducible rfl)
  try simp only [List.getElem_toArray, List.getElem_cons_succ, List.getElem_cons_zero, Act.put, List.setIfInBounds_toArray, List.set_cons_zero, List.set_cons_succ]
  refine wpAnyH_take (i := 21) (v := ?vs21) rfl (by kernel_rfl) (by kernel_rfl) (by kernel_rfl) (fun _ _ _ h => h) (Or.inl ⟨by rfl, ?ys21⟩) hHeld ?rs21
  case ys21 => (intro W hW; obtain ⟨h1, h2⟩ := hW; go_simp; first | done | with_reducible rfl)
  try simp only [List.getElem_toArray, List.getElem_cons_succ, List.getElem_cons_zero, Act.put, List.setIfInBounds_toArray, List.set_cons_zero, List.set_cons_succ]
  refine wpAnyH_take (i := 24) (v := ?vs24) rfl (by kernel_rfl) (by kernel_rfl) (by kernel_rfl) (fun _ _ _ h => h) (Or.inl ⟨by rfl, ?ys24⟩) hHeld ?rs24
  case ys24 => (intro W hW; obtain ⟨h1, h2⟩ := hW; go_simp; first | done | with_reducible rfl)
  try simp only [List.getElem_toArray, List.getElem_cons_succ, List.getElem_cons_zero, Act.put, List.setIfInBounds_toArray, List.set_cons_zero, List.set_cons_succ]
  refine wpAnyH_take (i := 32) (v := ?vs32) rfl (by kernel_rfl) (by kernel_rfl) (by kernel_rfl) (fun _ _ _ h => h) (Or.inl ⟨by rfl, ?ys32⟩) hHeld ?rs32
  case ys32 => (intro W hW; obtain ⟨h1, h2⟩ := hW; go_simp; first | done | with_reducible rfl)
  try simp only [List.getElem_toArray, List.getElem_cons_succ, List.getElem_cons_zero, Act.put, List.setIfInBounds_toArray, List.set_cons_zero, List.set_cons_succ]
  refine wpAnyH_take (i := 45) (v := ?vs45) rfl (by kernel_rfl) (by kernel_rfl) (by kernel_rfl) (fun _ _ _ h => h) (Or.inl ⟨by rfl, ?ys45⟩) hHeld ?rs45
  case ys45 => (intro W hW; obtain ⟨h1, h2⟩ := hW; go_simp; first | done | with_reducible rfl)
  try simp only [List.getElem_toArray, List.getElem_cons_succ, List.getElem_cons_zero, Act.put, List.setIfInBounds_toArray, List.set_cons_zero, List.set_cons_succ]
  clear hHeld
  refine any_tabA 8 4 32 gL gA gD gT gF gS (fun m b X W => KI W0 m b X W) (fun m b X W hI => ⟨(Keeps.of_below hI.bel) _ _ HBX.out.cell0, (Keeps.of_below hI.bel) _ _ HBX.out.cell1⟩) ?hchk ?hfull ?hpc ?hp0 ?hfu ?hli ?hF ?hI ?hL ?hA ?hend
  case hchk =>
    refine chk_of fun m hm => ?_
    rcases (by omega : m = 0 ∨ m = 1 ∨ m = 2 ∨ m = 3 ∨ m = 4 ∨ m = 5 ∨ m = 6 ∨ m = 7) with rfl | rfl | rfl | rfl | rfl | rfl | rfl | rfl <;> decide +kernel
  case hfull => decide +kernel
  case hpc => decide
  case hp0 => decide
  case hfu => rfl
  case hli => kernel_rfl
  case hF => exact gF_self _ (of_decide_eq_true (by kernel_rfl))
  case hI => exact ⟨(Below.refl _ W0).drew, fun j _ e => by simp at e, fun k hk => by omega⟩
  case hL =>
    intro q hq m' b' X W K hb4 hok ht hI hK
    simp only [gF, Act.put, List.setIfInBounds_toArray, List.set_cons_zero, List.set_cons_succ] at hK ⊢
    rcases (by omega : q = 0 ∨ q = 1 ∨ q = 2 ∨ q = 3) with rfl | rfl | rfl | rfl
    · have h := hK _ _ (hI.free (j := 0) (by omega) hb4 ht (by intro x hx; have : x ∈ [3, 1, 2, 0] := hx; simp at this; constructor <;> omega))
      change wpOp _ _ _ 1 K _ W
      refine wpOp_step rfl (fun K' hK' => ?_)
      have H := Lib.hid (hK' _ _ h)
      clear h hK' hK hI
      go_simp
      exact H.out
    · have h := hK _ _ (hI.free (j := 1) (by omega) hb4 ht (by intro x hx; have : x ∈ [7, 3, 5, 6, 1, 2, 4, 0] := hx; simp at this; constructor <;> omega))
      change wpOp _ _ _ 4 K _ W
      refine wpOp_step rfl (fun K' hK' => ?_)
      have H := Lib.hid (hK' _ _ h)
      clear h hK' hK hI
      go_simp
      exact H.out
    · have h := hK _ _ (hI.free (j := 2) (by omega) hb4 ht (by intro x hx; have : x ∈ [1, 2, 4] := hx; simp at this; constructor <;> omega))
      change wpOp _ _ _ 7 K _ W
      refine wpOp_step rfl (fun K' hK' => ?_)
      have H := Lib.hid (hK' _ _ h)
      clear h hK' hK hI
      go_simp
      exact H.out
    · have h := hK _ _ (hI.free (j := 3) (by omega) hb4 ht (by intro x hx; have : x ∈ [7, 13] := hx; simp at this; constructor <;> omega))
      change wpOp _ _ _ 10 K _ W
      refine wpOp_step rfl (fun K' hK' => ?_)
      have H := Lib.hid (hK' _ _ h)
      clear h hK' hK hI
      go_simp
      exact H.out
  case hA =>
    intro k hk b' X W K hb4 hok hI hK
    simp only [gF, Act.put, List.setIfInBounds_toArray, List.set_cons_zero, List.set_cons_succ] at hK ⊢
    rcases (by omega : k = 0 ∨ k = 1 ∨ k = 2 ∨ k = 3 ∨ k = 4 ∨ k = 5 ∨ k = 6 ∨ k = 7) with rfl | rfl | rfl | rfl | rfl | rfl | rfl | rfl
    · have hc := HS2.out W hI.bel
      change wpOp _ _ _ 0 K _ W
      refine wpOp_step rfl (fun K' hK' => ?_)
      have HK := Lib.hid (fun v w' h => hK' _ _ (hK v w' h))
      have HI := Lib.hid hI
      clear hK' hK hI
      go_simp
      refine hc.mono ?_
      rintro e u ⟨g5, rfl, hn5, hb5, -⟩
      have H := Lib.hid (HK.out _ _ (HI.out.chain (v := .slice (some ⟨g5, 0, none⟩) (2 ^ 2) (2 ^ 2)) hb5 (nv_sets (d := 2) (by omega) (by omega) hn5)))
      clear hn5 hb5
      go_wp2_with fail
      exact H.out
    · obtain ⟨P, c, e1, hn1⟩ : NV W (X 4) (setsL 2) := hI.val 0 (by omega)
      obtain ⟨P2, c2, e2, hn2⟩ : NV W (X 0) [3, 1, 2, 0] := hI.lit 0 (by omega) (ok_bit hok (by omega) (by decide))
      have hc := ints_yes P P2 _ _ c c2 _ _ W hn1 hn2 (by decide +kernel) (by decide +kernel)
      rw [← e1, ← e2] at hc
      change wpOp _ _ _ 2 K _ W
      refine wpOp_step rfl (fun K' hK' => ?_)
      have HK := Lib.hid (fun v w' h => hK' _ _ (hK v w' h))
      have HI := Lib.hid hI
      clear hK' hK hI e1 e2 hn1 hn2
      go_simp
      refine hc.mono ?_
      rintro e u ⟨rfl, hb5⟩
      have H := Lib.hid (HK.out _ _ (HI.out.chain (v := .bool true) hb5 (show CV 1 u (.bool true) from rfl)))
      clear hb5
      go_wp2_with fail
      exact H.out
    · have hc := HS3.out W hI.bel
      change wpOp _ _ _ 3 K _ W
      refine wpOp_step rfl (fun K' hK' => ?_)
      have HK := Lib.hid (fun v w' h => hK' _ _ (hK v w' h))
      have HI := Lib.hid hI
      clear hK' hK hI
      go_simp
      refine hc.mono ?_
      rintro e u ⟨g5, rfl, hn5, hb5, -⟩
      have H := Lib.hid (HK.out _ _ (HI.out.chain (v := .slice (some ⟨g5, 0, none⟩) (2 ^ 3) (2 ^ 3)) hb5 (nv_sets (d := 3) (by omega) (by omega) hn5)))
      clear hn5 hb5
      go_wp2_with fail
      exact H.out
    · obtain ⟨P, c, e1, hn1⟩ : NV W (X 6) (setsL 3) := hI.val 2 (by omega)
      obtain ⟨P2, c2, e2, hn2⟩ : NV W (X 1) [7, 3, 5, 6, 1, 2, 4, 0] := hI.lit 1 (by omega) (ok_bit hok (by omega) (by decide))
      have hc := ints_yes P P2 _ _ c c2 _ _ W hn1 hn2 (by decide +kernel) (by decide +kernel)
      rw [← e1, ← e2] at hc
      change wpOp _ _ _ 5 K _ W
      refine wpOp_step rfl (fun K' hK' => ?_)
      have HK := Lib.hid (fun v w' h => hK' _ _ (hK v w' h))
      have HI := Lib.hid hI
      clear hK' hK hI e1 e2 hn1 hn2
      go_simp
      refine hc.mono ?_
      rintro e u ⟨rfl, hb5⟩
      have H := Lib.hid (HK.out _ _ (HI.out.chain (v := .bool true) hb5 (show CV 3 u (.bool true) from rfl)))
      clear hb5
      go_wp2_with fail
      exact H.out
    · have hc := HP0.out W hI.bel
      change wpOp _ _ _ 6 K _ W
      refine wpOp_step rfl (fun K' hK' => ?_)
      have HK := Lib.hid (fun v w' h => hK' _ _ (hK v w' h))
      have HI := Lib.hid hI
      clear hK' hK hI
      go_simp
      refine hc.mono ?_
      rintro e u ⟨v, rfl, ho, hb5⟩
      obtain ⟨P, c, hv, -, -, hn, -⟩ := ho.form
      have H := Lib.hid (HK.out _ _ (HI.out.chain (v := v) hb5 (show NV u v (parL 0 3) from ⟨P, c, hv, hn⟩)))
      clear ho hb5 hv hn
      go_wp2_with fail
      exact H.out
    · obtain ⟨P, c, e1, hn1⟩ : NV W (X 8) (parL 0 3) := hI.val 4 (by omega)
      obtain ⟨P2, c2, e2, hn2⟩ : NV W (X 2) [1, 2, 4] := hI.lit 2 (by omega) (ok_bit hok (by omega) (by decide))
      have hc := ints_yes P P2 _ _ c c2 _ _ W hn1 hn2 (by decide +kernel) (by decide +kernel)
      rw [← e1, ← e2] at hc
      change wpOp _ _ _ 8 K _ W
      refine wpOp_step rfl (fun K' hK' => ?_)
      have HK := Lib.hid (fun v w' h => hK' _ _ (hK v w' h))
      have HI := Lib.hid hI
      clear hK' hK hI e1 e2 hn1 hn2
      go_simp
      refine hc.mono ?_
      rintro e u ⟨rfl, hb5⟩
      have H := Lib.hid (HK.out _ _ (HI.out.chain (v := .bool true) hb5 (show CV 5 u (.bool true) from rfl)))
      clear hb5
      go_wp2_with fail
      exact H.out
    · have hc := HP5.out W hI.bel
      change wpOp _ _ _ 9 K _ W
      refine wpOp_step rfl (fun K' hK' => ?_)
      have HK := Lib.hid (fun v w' h => hK' _ _ (hK v w' h))
      have HI := Lib.hid hI
      clear hK' hK hI
      go_simp
      refine hc.mono ?_
      rintro e u ⟨v, rfl, ho, hb5⟩
      obtain ⟨P, c, hv, -, -, hn, -⟩ := ho.form
      have H := Lib.hid (HK.out _ _ (HI.out.chain (v := v) hb5 (show NV u v (parL 5 4) from ⟨P, c, hv, hn⟩)))
      clear ho hb5 hv hn
      go_wp2_with fail
      exact H.out
    · obtain ⟨P, c, e1, hn1⟩ : NV W (X 10) (parL 5 4) := hI.val 6 (by omega)
      obtain ⟨P2, c2, e2, hn2⟩ : NV W (X 3) [7, 13] := hI.lit 3 (by omega) (ok_bit hok (by omega) (by decide))
      have hc := ints_yes P P2 _ _ c c2 _ _ W hn1 hn2 (by decide +kernel) (by decide +kernel)
      rw [← e1, ← e2] at hc
      change wpOp _ _ _ 11 K _ W
      refine wpOp_step rfl (fun K' hK' => ?_)
      have HK := Lib.hid (fun v w' h => hK' _ _ (hK v w' h))
      have HI := Lib.hid hI
      clear hK' hK hI e1 e2 hn1 hn2
      go_simp
      refine hc.mono ?_
      rintro e u ⟨rfl, hb5⟩
      have H := Lib.hid (HK.out _ _ (HI.out.chain (v := .bool true) hb5 (show CV 7 u (.bool true) from rfl)))
      clear hb5
      go_wp2_with fail
      exact H.out
  case hend =>
    intro X W hI
    have e5 : X 5 = .bool true := hI.val 1 (by omega)
    have e7 : X 7 = .bool true := hI.val 3 (by omega)
    have e9 : X 9 = .bool true := hI.val 5 (by omega)
    have e11 : X 11 = .bool true := hI.val 7 (by omega)
    simp only [gF, Act.put, List.setIfInBounds_toArray, List.set_cons_zero, List.set_cons_succ]
    rw [e5, e7, e9, e11]
    have hHeld : W.cell? ⟨gb, 0, none⟩ = some (.slice (some ⟨gc, 0, none⟩) 4 4) ∧ W.cell? ⟨gb, 1, none⟩ = some (.int .i64 0) := ⟨(Keeps.of_below hI.bel) _ _ HBX.out.cell0, (Keeps.of_below hI.bel) _ _ HBX.out.cell1⟩
    have b0 := Lib.hid hI.bel
    clear e5 e7 e9 e11 hI
    refine wpAnyH_ready (rs := [12]) (by kernel_rfl) (by simp) ?_
    refine AllReadyH.cons rfl (fun K hK => ?_) (AllReadyH.nil)
    go_simp
    refine (HP15.out _ b0.out).mono ?_
    rintro e u1 ⟨P, c, rfl, hb⟩
    have b1 := Lib.hid (b0.out.trans (hb.mono b0.out.size))
    have hh : u1.cell? ⟨gb, 0, none⟩ = some (.slice (some ⟨gc, 0, none⟩) 4 4) ∧ u1.cell? ⟨gb, 1, none⟩ = some (.int .i64 0) := ⟨(Keeps.of_below hb) _ _ hHeld.1, (Keeps.of_below hb) _ _ hHeld.2⟩
    have HHH := Lib.hid hh
    clear hb hh
    go_wp2_with fail
    refine hK.out _ _ (HHH.out) (fun hHeld => ?_)
    clear hK K
    try simp only [List.getElem_toArray, List.getElem_cons_succ, List.getElem_cons_zero, Act.put, List.setIfInBounds_toArray, List.set_cons_zero, List.set_cons_succ]
    refine wpAnyH_take (i := 13) (v := ?ve13) rfl (by kernel_rfl) (by kernel_rfl) (by kernel_rfl) (fun _ _ _ h => h) (Or.inl ⟨by rfl, ?ye13⟩) hHeld ?re13
    case ye13 => (intro W hW; obtain ⟨h1, h2⟩ := hW; go_simp; first | done | with_reducible rfl)
    try simp only [List.getElem_toArray, List.getElem_cons_succ, List.getElem_cons_zero, Act.put, List.setIfInBounds_toArray, List.set_cons_zero, List.set_cons_succ]
    refine wpAnyH_take (i := 14) (v := ?ve14) rfl (by kernel_rfl) (by kernel_rfl) (by kernel_rfl) (fun _ _ _ h => h) (Or.inl ⟨by rfl, ?ye14⟩) hHeld ?re14
    case ye14 => (intro W hW; obtain ⟨h1, h2⟩ := hW; go_simp; first | done | with_reducible rfl)
    try simp only [List.getElem_toArray, List.getElem_cons_succ, List.getElem_cons_zero, Act.put, List.setIfInBounds_toArray, List.set_cons_zero, List.set_cons_succ]
    refine wpAnyH_ready (rs := [16]) (by kernel_rfl) (by simp) ?_
    refine AllReadyH.cons rfl (fun K hK => ?_) (AllReadyH.nil)
    go_simp
    refine (HZ1.out _ b1.out).mono ?_
    rintro e u2 ⟨rfl, hb⟩
    have b2 := Lib.hid (b1.out.trans (hb.mono b1.out.size))
    have hh : u2.cell? ⟨gb, 0, none⟩ = some (.slice (some ⟨gc, 0, none⟩) 4 4) ∧ u2.cell? ⟨gb, 1, none⟩ = some (.int .i64 0) := ⟨(Keeps.of_below hb) _ _ hHeld.1, (Keeps.of_below hb) _ _ hHeld.2⟩
    have HHH := Lib.hid hh
    clear hb hh
    go_wp2_with fail
    refine hK.out _ _ (HHH.out) (fun hHeld => ?_)
    clear hK K
    try simp only [List.getElem_toArray, List.getElem_cons_succ, List.getElem_cons_zero, Act.put, List.setIfInBounds_toArray, List.set_cons_zero, List.set_cons_succ]
    refine wpAnyH_take (i := 17) (v := ?ve17) rfl (by kernel_rfl) (by kernel_rfl) (by kernel_rfl) (fun _ _ _ h => h) (Or.inl ⟨by rfl, ?ye17⟩) hHeld ?re17
    case ye17 => (intro W hW; obtain ⟨h1, h2⟩ := hW; go_simp; first | done | with_reducible rfl)
    try simp only [List.getElem_toArray, List.getElem_cons_succ, List.getElem_cons_zero, Act.put, List.setIfInBounds_toArray, List.set_cons_zero, List.set_cons_succ]
    refine wpAnyH_ready (rs := [19]) (by kernel_rfl) (by simp) ?_
    refine AllReadyH.cons rfl (fun K hK => ?_) (AllReadyH.nil)
    go_simp
    refine (HZ2.out _ b2.out).mono ?_
    rintro e u3 ⟨rfl, hb⟩
    have b3 := Lib.hid (b2.out.trans (hb.mono b2.out.size))
    have hh : u3.cell? ⟨gb, 0, none⟩ = some (.slice (some ⟨gc, 0, none⟩) 4 4) ∧ u3.cell? ⟨gb, 1, none⟩ = some (.int .i64 0) := ⟨(Keeps.of_below hb) _ _ hHeld.1, (Keeps.of_below hb) _ _ hHeld.2⟩
    have HHH := Lib.hid hh
    clear hb hh
    go_wp2_with fail
    refine hK.out _ _ (HHH.out) (fun hHeld => ?_)
    clear hK K
    try simp only [List.getElem_toArray, List.getElem_cons_succ, List.getElem_cons_zero, Act.put, List.setIfInBounds_toArray, List.set_cons_zero, List.set_cons_succ]
    refine wpAnyH_take (i := 20) (v := ?ve20) rfl (by kernel_rfl) (by kernel_rfl) (by kernel_rfl) (fun _ _ _ h => h) (Or.inl ⟨by rfl, ?ye20⟩) hHeld ?re20
    case ye20 => (intro W hW; obtain ⟨h1, h2⟩ := hW; go_simp; first | done | with_reducible rfl)
    try simp only [List.getElem_toArray, List.getElem_cons_succ, List.getElem_cons_zero, Act.put, List.setIfInBounds_toArray, List.set_cons_zero, List.set_cons_succ]
    refine wpAnyH_ready (rs := [22]) (by kernel_rfl) (by simp) ?_
    refine AllReadyH.cons rfl (fun K hK => ?_) (AllReadyH.nil)
    go_simp
    refine (HZ3.out _ b3.out).mono ?_
    rintro e u4 ⟨rfl, hb⟩
    have b4 := Lib.hid (b3.out.trans (hb.mono b3.out.size))
    have hh : u4.cell? ⟨gb, 0, none⟩ = some (.slice (some ⟨gc, 0, none⟩) 4 4) ∧ u4.cell? ⟨gb, 1, none⟩ = some (.int .i64 0) := ⟨(Keeps.of_below hb) _ _ hHeld.1, (Keeps.of_below hb) _ _ hHeld.2⟩
    have HHH := Lib.hid hh
    clear hb hh
    go_wp2_with fail
    refine hK.out _ _ (HHH.out) (fun hHeld => ?_)
    clear hK K
    try simp only [List.getElem_toArray, List.getElem_cons_succ, List.getElem_cons_zero, Act.put, List.setIfInBounds_toArray, List.set_cons_zero, List.set_cons_succ]
    refine wpAnyH_take (i := 23) (v := ?ve23) rfl (by kernel_rfl) (by kernel_rfl) (by kernel_rfl) (fun _ _ _ h => h) (Or.inl ⟨by rfl, ?ye23⟩) hHeld ?re23
    case ye23 => (intro W hW; obtain ⟨h1, h2⟩ := hW; go_simp; first | done | with_reducible rfl)
    try simp only [List.getElem_toArray, List.getElem_cons_succ, List.getElem_cons_zero, Act.put, List.setIfInBounds_toArray, List.set_cons_zero, List.set_cons_succ]
    refine wpAnyH_ready (rs := [25]) (by kernel_rfl) (by simp) ?_
    refine AllReadyH.cons rfl (fun K hK => ?_) (AllReadyH.nil)
    go_simp
    refine (HZ4.out _ b4.out).mono ?_
    rintro e u5 ⟨rfl, hb⟩
    have b5 := Lib.hid (b4.out.trans (hb.mono b4.out.size))
    have hh : u5.cell? ⟨gb, 0, none⟩ = some (.slice (some ⟨gc, 0, none⟩) 4 4) ∧ u5.cell? ⟨gb, 1, none⟩ = some (.int .i64 0) := ⟨(Keeps.of_below hb) _ _ hHeld.1, (Keeps.of_below hb) _ _ hHeld.2⟩
    have HHH := Lib.hid hh
    clear hb hh
    go_wp2_with fail
    refine hK.out _ _ (HHH.out) (fun hHeld => ?_)
    clear hK K
    try simp only [List.getElem_toArray, List.getElem_cons_succ, List.getElem_cons_zero, Act.put, List.setIfInBounds_toArray, List.set_cons_zero, List.set_cons_succ]
    refine wpAnyH_take (i := 26) (v := ?ve26) rfl (by kernel_rfl) (by kernel_rfl) (by kernel_rfl) (fun _ _ _ h => h) (Or.inl ⟨by rfl, ?ye26⟩) hHeld ?re26
    case ye26 => (intro W hW; obtain ⟨h1, h2⟩ := hW; go_simp; first | done | with_reducible rfl)
    try simp only [List.getElem_toArray, List.getElem_cons_succ, List.getElem_cons_zero, Act.put, List.setIfInBounds_toArray, List.set_cons_zero, List.set_cons_succ]
    refine wpAnyH_take (i := 27) (v := ?ve27) rfl (by kernel_rfl) (by kernel_rfl) (by kernel_rfl) (fun _ _ _ h => h) (Or.inl ⟨by rfl, ?ye27⟩) hHeld ?re27
    case ye27 => (intro W hW; obtain ⟨h1, h2⟩ := hW; go_simp; first | done | with_reducible rfl)
    try simp only [List.getElem_toArray, List.getElem_cons_succ, List.getElem_cons_zero, Act.put, List.setIfInBounds_toArray, List.set_cons_zero, List.set_cons_succ]
    refine wpAnyH_take (i := 28) (v := ?ve28) rfl (by kernel_rfl) (by kernel_rfl) (by kernel_rfl) (fun _ _ _ h => h) (Or.inl ⟨by rfl, ?ye28⟩) hHeld ?re28
    case ye28 => (intro W hW; obtain ⟨h1, h2⟩ := hW; go_simp; first | done | with_reducible rfl)
    try simp only [List.getElem_toArray, List.getElem_cons_succ, List.getElem_cons_zero, Act.put, List.setIfInBounds_toArray, List.set_cons_zero, List.set_cons_succ]
    refine wpAnyH_ready (rs := [29]) (by kernel_rfl) (by simp) ?_
    refine AllReadyH.cons rfl (fun K hK => ?_) (AllReadyH.nil)
    go_simp
    refine (HZ5.out _ b5.out).mono ?_
    rintro e u6 ⟨rfl, hb⟩
    have b6 := Lib.hid (b5.out.trans (hb.mono b5.out.size))
    have hh : u6.cell? ⟨gb, 0, none⟩ = some (.slice (some ⟨gc, 0, none⟩) 4 4) ∧ u6.cell? ⟨gb, 1, none⟩ = some (.int .i64 0) := ⟨(Keeps.of_below hb) _ _ hHeld.1, (Keeps.of_below hb) _ _ hHeld.2⟩
    have HHH := Lib.hid hh
    clear hb hh
    go_wp2_with fail
    refine hK.out _ _ (HHH.out) (fun hHeld => ?_)
    clear hK K
    try simp only [List.getElem_toArray, List.getElem_cons_succ, List.getElem_cons_zero, Act.put, List.setIfInBounds_toArray, List.set_cons_zero, List.set_cons_succ]
    refine wpAnyH_take (i := 30) (v := ?ve30) rfl (by kernel_rfl) (by kernel_rfl) (by kernel_rfl) (fun _ _ _ h => h) (Or.inl ⟨by rfl, ?ye30⟩) hHeld ?re30
    case ye30 => (intro W hW; obtain ⟨h1, h2⟩ := hW; go_simp; first | done | with_reducible rfl)
    try simp only [List.getElem_toArray, List.getElem_cons_succ, List.getElem_cons_zero, Act.put, List.setIfInBounds_toArray, List.set_cons_zero, List.set_cons_succ]
    refine wpAnyH_take (i := 31) (v := ?ve31) rfl (by kernel_rfl) (by kernel_rfl) (by kernel_rfl) (fun _ _ _ h => h) (Or.inl ⟨by rfl, ?ye31⟩) hHeld ?re31
    case ye31 => (intro W hW; obtain ⟨h1, h2⟩ := hW; go_simp; first | done | with_reducible rfl)
    try simp only [List.getElem_toArray, List.getElem_cons_succ, List.getElem_cons_zero, Act.put, List.setIfInBounds_toArray, List.set_cons_zero, List.set_cons_succ]
    refine wpAnyH_ready (rs := [33]) (by kernel_rfl) (by simp) ?_
    refine AllReadyH.cons rfl (fun K hK => ?_) (AllReadyH.nil)
    go_simp
    refine (HZ6.out _ b6.out).mono ?_
    rintro e u7 ⟨rfl, hb⟩
    have b7 := Lib.hid (b6.out.trans (hb.mono b6.out.size))
    have hh : u7.cell? ⟨gb, 0, none⟩ = some (.slice (some ⟨gc, 0, none⟩) 4 4) ∧ u7.cell? ⟨gb, 1, none⟩ = some (.int .i64 0) := ⟨(Keeps.of_below hb) _ _ hHeld.1, (Keeps.of_below hb) _ _ hHeld.2⟩
    have HHH := Lib.hid hh
    clear hb hh
    go_wp2_with fail
    refine hK.out _ _ (HHH.out) (fun hHeld => ?_)
    clear hK K
    try simp only [List.getElem_toArray, List.getElem_cons_succ, List.getElem_cons_zero, Act.put, List.setIfInBounds_toArray, List.set_cons_zero, List.set_cons_succ]
    refine wpAnyH_take (i := 34) (v := ?ve34) rfl (by kernel_rfl) (by kernel_rfl) (by kernel_rfl) (fun _ _ _ h => h) (Or.inl ⟨by rfl, ?ye34⟩) hHeld ?re34
    case ye34 => (intro W hW; obtain ⟨h1, h2⟩ := hW; go_simp; first | done | with_reducible rfl)
    try simp only [List.getElem_toArray, List.getElem_cons_succ, List.getElem_cons_zero, Act.put, List.setIfInBounds_toArray, List.set_cons_zero, List.set_cons_succ]
    refine wpAnyH_take (i := 35) (v := ?ve35) rfl (by kernel_rfl) (by kernel_rfl) (by kernel_rfl) (fun _ _ _ h => h) (Or.inl ⟨by rfl, ?ye35⟩) hHeld ?re35
    case ye35 => (intro W hW; obtain ⟨h1, h2⟩ := hW; go_simp; first | done | with_reducible rfl)
    try simp only [List.getElem_toArray, List.getElem_cons_succ, List.getElem_cons_zero, Act.put, List.setIfInBounds_toArray, List.set_cons_zero, List.set_cons_succ]
    refine wpAnyH_take (i := 36) (v := ?ve36) rfl (by kernel_rfl) (by kernel_rfl) (by kernel_rfl) (fun _ _ _ h => h) (Or.inl ⟨by rfl, ?ye36⟩) hHeld ?re36
    case ye36 => (intro W hW; obtain ⟨h1, h2⟩ := hW; go_simp; first | done | with_reducible rfl)
    try simp only [List.getElem_toArray, List.getElem_cons_succ, List.getElem_cons_zero, Act.put, List.setIfInBounds_toArray, List.set_cons_zero, List.set_cons_succ]
    refine wpAnyH_ready (rs := [37]) (by kernel_rfl) (by simp) ?_
    refine AllReadyH.cons rfl (fun K hK => ?_) (AllReadyH.nil)
    go_simp
    refine (HZ7.out _ b7.out).mono ?_
    rintro e u8 ⟨rfl, hb⟩
    have b8 := Lib.hid (b7.out.trans (hb.mono b7.out.size))
    have hh : u8.cell? ⟨gb, 0, none⟩ = some (.slice (some ⟨gc, 0, none⟩) 4 4) ∧ u8.cell? ⟨gb, 1, none⟩ = some (.int .i64 0) := ⟨(Keeps.of_below hb) _ _ hHeld.1, (Keeps.of_below hb) _ _ hHeld.2⟩
    have HHH := Lib.hid hh
    clear hb hh
    go_wp2_with fail
    refine hK.out _ _ (HHH.out) (fun hHeld => ?_)
    clear hK K
    try simp only [List.getElem_toArray, List.getElem_cons_succ, List.getElem_cons_zero, Act.put, List.setIfInBounds_toArray, List.set_cons_zero, List.set_cons_succ]
    refine wpAnyH_take (i := 38) (v := ?ve38) rfl (by kernel_rfl) (by kernel_rfl) (by kernel_rfl) (fun _ _ _ h => h) (Or.inl ⟨by rfl, ?ye38⟩) hHeld ?re38
    case ye38 => (intro W hW; obtain ⟨h1, h2⟩ := hW; go_simp; first | done | with_reducible rfl)
    try simp only [List.getElem_toArray, List.getElem_cons_succ, List.getElem_cons_zero, Act.put, List.setIfInBounds_toArray, List.set_cons_zero, List.set_cons_succ]
    refine wpAnyH_take (i := 39) (v := ?ve39) rfl (by kernel_rfl) (by kernel_rfl) (by kernel_rfl) (fun _ _ _ h => h) (Or.inl ⟨by rfl, ?ye39⟩) hHeld ?re39
    case ye39 => (intro W hW; obtain ⟨h1, h2⟩ := hW; go_simp; first | done | with_reducible rfl)
    try simp only [List.getElem_toArray, List.getElem_cons_succ, List.getElem_cons_zero, Act.put, List.setIfInBounds_toArray, List.set_cons_zero, List.set_cons_succ]
    refine wpAnyH_take (i := 40) (v := ?ve40) rfl (by kernel_rfl) (by kernel_rfl) (by kernel_rfl) (fun _ _ _ h => h) (Or.inl ⟨by rfl, ?ye40⟩) hHeld ?re40
    case ye40 => (intro W hW; obtain ⟨h1, h2⟩ := hW; go_simp; first | done | with_reducible rfl)
    try simp only [List.getElem_toArray, List.getElem_cons_succ, List.getElem_cons_zero, Act.put, List.setIfInBounds_toArray, List.set_cons_zero, List.set_cons_succ]
    refine wpAnyH_take (i := 41) (v := ?ve41) rfl (by kernel_rfl) (by kernel_rfl) (by kernel_rfl) (fun _ _ _ h => h) (Or.inl ⟨by rfl, ?ye41⟩) hHeld ?re41
    case ye41 => (intro W hW; obtain ⟨h1, h2⟩ := hW; go_simp; first | done | with_reducible rfl)
    try simp only [List.getElem_toArray, List.getElem_cons_succ, List.getElem_cons_zero, Act.put, List.setIfInBounds_toArray, List.set_cons_zero, List.set_cons_succ]
    refine wpAnyH_ready (rs := [42]) (by kernel_rfl) (by simp) ?_
    refine AllReadyH.cons rfl (fun K hK => ?_) (AllReadyH.nil)
    go_simp
    refine (HZ8.out _ b8.out).mono ?_
    rintro e u9 ⟨rfl, hb⟩
    have b9 := Lib.hid (b8.out.trans (hb.mono b8.out.size))
    have hh : u9.cell? ⟨gb, 0, none⟩ = some (.slice (some ⟨gc, 0, none⟩) 4 4) ∧ u9.cell? ⟨gb, 1, none⟩ = some (.int .i64 0) := ⟨(Keeps.of_below hb) _ _ hHeld.1, (Keeps.of_below hb) _ _ hHeld.2⟩
    have HHH := Lib.hid hh
    clear hb hh
    go_wp2_with fail
    refine hK.out _ _ (HHH.out) (fun hHeld => ?_)
    clear hK K
    try simp only [List.getElem_toArray, List.getElem_cons_succ, List.getElem_cons_zero, Act.put, List.setIfInBounds_toArray, List.set_cons_zero, List.set_cons_succ]
    refine wpAnyH_take (i := 43) (v := ?ve43) rfl (by kernel_rfl) (by kernel_rfl) (by kernel_rfl) (fun _ _ _ h => h) (Or.inl ⟨by rfl, ?ye43⟩) hHeld ?re43
    case ye43 => (intro W hW; obtain ⟨h1, h2⟩ := hW; go_simp; first | done | with_reducible rfl)
    try simp only [List.getElem_toArray, List.getElem_cons_succ, List.getElem_cons_zero, Act.put, List.setIfInBounds_toArray, List.set_cons_zero, List.set_cons_succ]
    refine wpAnyH_take (i := 44) (v := ?ve44) rfl (by kernel_rfl) (by kernel_rfl) (by kernel_rfl) (fun _ _ _ h => h) (Or.inl ⟨by rfl, ?ye44⟩) hHeld ?re44
    case ye44 => (intro W hW; obtain ⟨h1, h2⟩ := hW; go_simp; first | done | with_reducible rfl)
    try simp only [List.getElem_toArray, List.getElem_cons_succ, List.getElem_cons_zero, Act.put, List.setIfInBounds_toArray, List.set_cons_zero, List.set_cons_succ]
    refine wpAnyH_ready (rs := [46]) (by kernel_rfl) (by simp) ?_
    refine AllReadyH.cons rfl (fun K hK => ?_) (AllReadyH.nil)
    go_simp
    refine (HZ9.out _ b9.out).mono ?_
    rintro e u10 ⟨rfl, hb⟩
    have b10 := Lib.hid (b9.out.trans (hb.mono b9.out.size))
    have hh : u10.cell? ⟨gb, 0, none⟩ = some (.slice (some ⟨gc, 0, none⟩) 4 4) ∧ u10.cell? ⟨gb, 1, none⟩ = some (.int .i64 0) := ⟨(Keeps.of_below hb) _ _ hHeld.1, (Keeps.of_below hb) _ _ hHeld.2⟩
    have HHH := Lib.hid hh
    clear hb hh
    go_wp2_with fail
    refine hK.out _ _ (HHH.out) (fun hHeld => ?_)
    clear hK K
    try simp only [List.getElem_toArray, List.getElem_cons_succ, List.getElem_cons_zero, Act.put, List.setIfInBounds_toArray, List.set_cons_zero, List.set_cons_succ]
    refine wpAnyH_take (i := 47) (v := ?ve47) rfl (by kernel_rfl) (by kernel_rfl) (by kernel_rfl) (fun _ _ _ h => h) (Or.inl ⟨by rfl, ?ye47⟩) hHeld ?re47
    case ye47 => (intro W hW; obtain ⟨h1, h2⟩ := hW; go_simp; first | done | with_reducible rfl)
    try simp only [List.getElem_toArray, List.getElem_cons_succ, List.getElem_cons_zero, Act.put, List.setIfInBounds_toArray, List.set_cons_zero, List.set_cons_succ]
    refine wpAnyH_ready (rs := [48]) (by kernel_rfl) (by simp) ?_
    refine AllReadyH.cons rfl (fun K hK => ?_) (AllReadyH.nil)
    go_simp
    have hh : (u10.alloc (.cells #[.bool true, .bool true, .bool true, .bool true, .bool true, .bool true, .bool true, .bool true, .bool true, .bool true, .bool true] 4)).cell? ⟨gb, 0, none⟩ = some (.slice (some ⟨gc, 0, none⟩) 4 4) ∧ (u10.alloc (.cells #[.bool true, .bool true, .bool true, .bool true, .bool true, .bool true, .bool true, .bool true, .bool true, .bool true, .bool true] 4)).cell? ⟨gb, 1, none⟩ = some (.int .i64 0) := ⟨((Keeps.refl _).alloc _) _ _ hHeld.1, ((Keeps.refl _).alloc _) _ _ hHeld.2⟩
    have HH2 := Lib.hid hh
    clear hh
    refine hK.out _ _ (HH2.out) (fun hHeld => ?_)
    clear hK K
    try simp only [List.getElem_toArray, List.getElem_cons_succ, List.getElem_cons_zero, Act.put, List.setIfInBounds_toArray, List.set_cons_zero, List.set_cons_succ]
    refine wpAnyH_ready (rs := [49]) (by kernel_rfl) (by simp) ?_
    refine AllReadyH.cons rfl (fun K hK => ?_) (AllReadyH.nil)
    go_simp
    refine hK.out _ _ (HH2.out) (fun hHeld => ?_)
    clear hK K
    try simp only [List.getElem_toArray, List.getElem_cons_succ, List.getElem_cons_zero, Act.put, List.setIfInBounds_toArray, List.set_cons_zero, List.set_cons_succ]
    refine wpAnyH_done (by kernel_rfl) ?_ _
    have hcell : (u10.alloc (.cells #[.bool true, .bool true, .bool true, .bool true, .bool true, .bool true, .bool true, .bool true, .bool true, .bool true, .bool true] 4)).cell? ⟨u10.heap.size, wi, none⟩ = some (.bool true) := by
      rw [World.cell?_alloc_new]
      rcases (by omega : wi = 0 ∨ wi = 1 ∨ wi = 2 ∨ wi = 3 ∨ wi = 4 ∨ wi = 5 ∨ wi = 6 ∨ wi = 7 ∨ wi = 8 ∨ wi = 9 ∨ wi = 10) with rfl | rfl | rfl | rfl | rfl | rfl | rfl | rfl | rfl | rfl | rfl <;> rfl
    have hbz : Below W0.heap.size W0 (u10.alloc (.cells #[.bool true, .bool true, .bool true, .bool true, .bool true, .bool true, .bool true, .bool true, .bool true, .bool true, .bool true] 4)) := b10.out.alloc b10.out.size _
    generalize u10.alloc (.cells #[.bool true, .bool true, .bool true, .bool true, .bool true, .bool true, .bool true, .bool true, .bool true, .bool true, .bool true] 4) = Wz at hcell hbz ⊢
    have HBZ := Lib.hid hbz
    have i0 : (0 : Int) ≤ (wi : Int) := by omega
    have i1 : (wi : Int) < 11 := by omega
    clear hbz
    go_wp2_with fail
    refine (HWI.out _).mono ?_
    rintro e w' ⟨rfl, rfl⟩
    go_wp2
    go_ret
    exact ⟨rfl, HB0.out.trans (HBZ.out.mono HB0.out.size)⟩
end Go.Proofs.YtaopanclnaimpaaDoor
