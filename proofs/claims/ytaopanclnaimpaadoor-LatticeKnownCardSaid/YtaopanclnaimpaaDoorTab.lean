/- A region of a chain of steps, and of others that may come at any time ahead of one of them: of no seat in particular. -/
import Derived.Deep.RegionHeld
import Derived.Test.YtaopanclnaimpaaDoorBase2
namespace Go.Proofs.YtaopanclnaimpaaDoor
open Go.RowKit
def upL (X : Nat → Value) (i : Nat) (v : Value) : Nat → Value := fun j => if j = i then v else X j
theorem upL_same (X : Nat → Value) (i : Nat) (v : Value) : upL X i v i = v := by simp [upL]
theorem upL_ne (X : Nat → Value) {i j : Nat} (v : Value) (h : j ≠ i) : upL X i v j = X j := by simp [upL, h]
def pcL (n b : Nat) : Nat := ((List.range n).map fun k => if b.testBit k then 1 else 0).sum
theorem pcL_le (n b : Nat) : pcL n b ≤ n := by
  unfold pcL
  have h : ∀ l : List Nat, (l.map fun k => if b.testBit k then 1 else 0).sum ≤ l.length := fun l => by
    induction l with
    | nil => simp
    | cons a l ih => simp only [List.map_cons, List.sum_cons, List.length_cons]; split <;> omega
  simpa using h (List.range n)
def okF (nf : Nat) (dl : Nat → Nat) (m b : Nat) : Bool := (List.range nf).all fun j => !decide (dl j < m) || b.testBit j
def nxF (nf : Nat) (iL : Nat → Nat) (dl : Nat → Nat) (ls : Nat → Nat → Array Bool) (m b i : Nat) : Bool :=
  (List.range nf).any fun j => decide (iL j = i) && !b.testBit j && decide ((ls m b).setIfInBounds i true = ls m (b + 2 ^ j)) && decide (b + 2 ^ j < 2 ^ nf) && okF nf dl m (b + 2 ^ j) && decide (pcL nf (b + 2 ^ j) = pcL nf b + 1)
def nxC (nf : Nat) (iA : Nat → Nat) (dl : Nat → Nat) (ls : Nat → Nat → Array Bool) (m b i : Nat) : Bool :=
  decide (iA m = i) && decide ((ls m b).setIfInBounds i true = ls (m + 1) b) && okF nf dl (m + 1) b
def chkF (n nf : Nat) (iL iA dl : Nat → Nat) (ls : Nat → Nat → Array Bool) (ops : Array Oper) : Bool :=
  (List.range n).all fun m => (List.range (2 ^ nf)).all fun b => !okF nf dl m b || (!(Region.ready .any ops (ls m b)).isEmpty && (Region.ready .any ops (ls m b)).all fun i => nxF nf iL dl ls m b i || nxC nf iA dl ls m b i)
theorem any_tab {P : Program} {ops : Array Oper} {Q : Exit → Act → World → Prop} {S : World → Prop} (n nf fe : Nat) (iL iA dl : Nat → Nat) (ls : Nat → Nat → Array Bool) (F : (Nat → Value) → Act) (I : Nat → Nat → (Nat → Value) → World → Prop)
    (hS : ∀ m b X w, I m b X w → S w) (hchk : chkF n nf iL iA dl ls ops = true) (hfull : ∀ b, b < 2 ^ nf → okF nf dl n b = true → b = 2 ^ nf - 1) (hpc : pcL nf (2 ^ nf - 1) = nf)
    (hL : ∀ j, j < nf → ∀ m b X w K, b < 2 ^ nf → okF nf dl m b = true → b.testBit j = false → I m b X w → (∀ v w', I m (b + 2 ^ j) (upL X j v) w' → K (F (upL X j v)) w') → wpOp P ops Q (iL j) K (F X) w)
    (hA : ∀ k, k < n → ∀ b X w K, b < 2 ^ nf → okF nf dl (k + 1) b = true → I k b X w → (∀ v w', I (k + 1) b (upL X (nf + k) v) w' → K (F (upL X (nf + k) v)) w') → wpOp P ops Q (iA k) K (F X) w)
    (hend : ∀ X w, I n (2 ^ nf - 1) X w → wpAnyH P .any ops Q S fe (ls n (2 ^ nf - 1)) (F X) w) :
    ∀ r m b, m ≤ n → b < 2 ^ nf → okF nf dl m b = true → m + pcL nf b + r = n + nf → ∀ X w, I m b X w → wpAnyH P .any ops Q S (r + fe) (ls m b) (F X) w := by
  have fin : ∀ r m b, m = n → b < 2 ^ nf → okF nf dl m b = true → m + pcL nf b + r = n + nf → ∀ X w, I m b X w → wpAnyH P .any ops Q S (r + fe) (ls m b) (F X) w := by
    intro r m b hm hb hok hr X w hI
    subst hm
    obtain rfl := hfull b hb hok
    obtain rfl : r = 0 := by omega
    rw [Nat.zero_add]
    exact hend X w hI
  intro r
  induction r with
  | zero =>
    intro m b hm hb hok hr X w hI
    rcases Nat.lt_or_ge m n with h | h
    · exfalso
      have := pcL_le nf b
      omega
    · exact fin 0 m b (by omega) hb hok hr X w hI
  | succ r ih =>
    intro m b hm hb hok hr X w hI
    rcases Nat.lt_or_ge m n with hmn | h
    · have hrd : (Region.ready .any ops (ls m b)).isEmpty = false ∧ ∀ i ∈ Region.ready .any ops (ls m b), (nxF nf iL dl ls m b i || nxC nf iA dl ls m b i) = true := by
        simp only [chkF, List.all_eq_true, List.mem_range] at hchk
        have h := hchk m hmn b hb
        rw [hok] at h
        simpa using h
      rw [show r + 1 + fe = r + fe + 1 by omega]
      refine wpAnyH_ready (rs := Region.ready .any ops (ls m b)) rfl (fun h => by rw [h] at hrd; simp at hrd) ?_
      intro i hi
      rcases Bool.or_eq_true_iff.1 (hrd.2 i hi) with h | h
      · simp only [nxF, List.any_eq_true, List.mem_range, Bool.and_eq_true, decide_eq_true_eq, Bool.not_eq_true'] at h
        obtain ⟨j, hj, ⟨⟨⟨⟨⟨e1, e2⟩, e3⟩, e4⟩, e5⟩, e6⟩⟩ := h
        subst e1
        rw [e3]
        exact hL j hj m b X w _ hb hok e2 hI fun v w' h1 => ⟨hS _ _ _ w' h1, ih m (b + 2 ^ j) hm e4 e5 (by omega) _ _ h1⟩
      · simp only [nxC, Bool.and_eq_true, decide_eq_true_eq] at h
        obtain ⟨⟨e1, e2⟩, e3⟩ := h
        subst e1
        rw [e2]
        exact hA m hmn b X w _ hb e3 hI fun v w' h1 => ⟨hS _ _ _ w' h1, ih (m + 1) b hmn hb e3 (by omega) _ _ h1⟩
    · exact fin (r + 1) m b (by omega) hb hok hr X w hI
theorem any_tab0 {P : Program} {ops : Array Oper} {Q : Exit → Act → World → Prop} {S : World → Prop} (n nf fe : Nat) (iL iA dl : Nat → Nat) (ls : Nat → Nat → Array Bool) (F : (Nat → Value) → Act) (I : Nat → Nat → (Nat → Value) → World → Prop)
    (hS : ∀ m b X w, I m b X w → S w) (hchk : chkF n nf iL iA dl ls ops = true) (hfull : ∀ b, b < 2 ^ nf → okF nf dl n b = true → b = 2 ^ nf - 1) (hpc : pcL nf (2 ^ nf - 1) = nf) (hp0 : pcL nf 0 = 0)
    (hL : ∀ j, j < nf → ∀ m b X w K, b < 2 ^ nf → okF nf dl m b = true → b.testBit j = false → I m b X w → (∀ v w', I m (b + 2 ^ j) (upL X j v) w' → K (F (upL X j v)) w') → wpOp P ops Q (iL j) K (F X) w)
    (hA : ∀ k, k < n → ∀ b X w K, b < 2 ^ nf → okF nf dl (k + 1) b = true → I k b X w → (∀ v w', I (k + 1) b (upL X (nf + k) v) w' → K (F (upL X (nf + k) v)) w') → wpOp P ops Q (iA k) K (F X) w)
    (hend : ∀ X w, I n (2 ^ nf - 1) X w → wpAnyH P .any ops Q S fe (ls n (2 ^ nf - 1)) (F X) w)
    (fuel : Nat) (li : Array Bool) (hfu : fuel = n + nf + fe) (hli : li = ls 0 0) (X : Nat → Value) (w : World) (hI : I 0 0 X w) : wpAnyH P .any ops Q S fuel li (F X) w := by
  subst hfu hli
  exact any_tab n nf fe iL iA dl ls F I hS hchk hfull hpc hL hA hend (n + nf) 0 0 (Nat.zero_le _) (Nat.two_pow_pos nf) (by simp [okF]) (by omega) X w hI
/-- The same, over the act as it stands. -/
theorem any_tabA {P : Program} {ops : Array Oper} {Q : Exit → Act → World → Prop} {S : World → Prop} {a0 : Act} {fuel : Nat} {li : Array Bool} {w : World} (n nf fe : Nat) (iL iA dl : Nat → Nat) (ls : Nat → Nat → Array Bool) (F : Act → (Nat → Value) → Act) (sl : Nat → Nat) (I : Nat → Nat → (Nat → Value) → World → Prop)
    (hS : ∀ m b X w, I m b X w → S w) (hchk : chkF n nf iL iA dl ls ops = true) (hfull : ∀ b, b < 2 ^ nf → okF nf dl n b = true → b = 2 ^ nf - 1) (hpc : pcL nf (2 ^ nf - 1) = nf) (hp0 : pcL nf 0 = 0)
    (hfu : fuel = n + nf + fe) (hli : li = ls 0 0) (hF : F a0 (fun i => a0.tmps[sl i]!) = a0) (hI : I 0 0 (fun i => a0.tmps[sl i]!) w)
    (hL : ∀ j, j < nf → ∀ m b X w K, b < 2 ^ nf → okF nf dl m b = true → b.testBit j = false → I m b X w → (∀ v w', I m (b + 2 ^ j) (upL X j v) w' → K (F a0 (upL X j v)) w') → wpOp P ops Q (iL j) K (F a0 X) w)
    (hA : ∀ k, k < n → ∀ b X w K, b < 2 ^ nf → okF nf dl (k + 1) b = true → I k b X w → (∀ v w', I (k + 1) b (upL X (nf + k) v) w' → K (F a0 (upL X (nf + k) v)) w') → wpOp P ops Q (iA k) K (F a0 X) w)
    (hend : ∀ X w, I n (2 ^ nf - 1) X w → wpAnyH P .any ops Q S fe (ls n (2 ^ nf - 1)) (F a0 X) w) : wpAnyH P .any ops Q S fuel li a0 w := by
  have h := any_tab0 n nf fe iL iA dl ls (F a0) I hS hchk hfull hpc hp0 hL hA hend fuel li hfu hli (fun i => a0.tmps[sl i]!) w hI
  rwa [hF] at h
/-- The table's check, one step of the chain alone. -/
def chkM (nf : Nat) (iL iA dl : Nat → Nat) (ls : Nat → Nat → Array Bool) (ops : Array Oper) (m : Nat) : Bool :=
  (List.range (2 ^ nf)).all fun b => !okF nf dl m b || (!(Region.ready .any ops (ls m b)).isEmpty && (Region.ready .any ops (ls m b)).all fun i => nxF nf iL dl ls m b i || nxC nf iA dl ls m b i)
theorem chk_of {n nf : Nat} {iL iA dl : Nat → Nat} {ls : Nat → Nat → Array Bool} {ops : Array Oper} (h : ∀ m, m < n → chkM nf iL iA dl ls ops m = true) : chkF n nf iL iA dl ls ops = true := by
  unfold chkF
  simp only [List.all_eq_true (l := List.range n), List.mem_range]
  exact h
theorem put_self {a : Act} {i : Nat} (h : i < a.tmps.size) : a.put (some i) (a.tmps[i]!) = a := by
  cases a with
  | mk tmps defers =>
    replace h : i < tmps.size := h
    show Act.put ⟨tmps, defers⟩ (some i) (tmps[i]!) = _
    rw [getElem!_pos tmps i h]
    have e : tmps.setIfInBounds i tmps[i] = tmps := by
      apply Array.ext_getElem?
      intro k
      rw [Array.getElem?_setIfInBounds]
      split
      · rename_i e
        subst e
        simp [h]
      · rfl
    show (⟨tmps.setIfInBounds i tmps[i], defers⟩ : Act) = _
    rw [e]
theorem bits_fin4 : ∀ (b : Fin 16) (j k : Fin 4), b.val.testBit j.val = false → b.val + 2 ^ j.val < 16 ∧ (b.val + 2 ^ j.val).testBit k.val = (b.val.testBit k.val || decide (k = j)) := by decide +kernel
theorem bits_up4 {b j k : Nat} (hb : b < 16) (hj : j < 4) (hk : k < 4) (ht : b.testBit j = false) : (b + 2 ^ j).testBit k = (b.testBit k || decide (k = j)) := by
  have := (bits_fin4 ⟨b, hb⟩ ⟨j, hj⟩ ⟨k, hk⟩ ht).2
  simpa using this
end Go.Proofs.YtaopanclnaimpaaDoor
