/- A region that lays literals at any time, and goes on with each of them, one after the other. -/
import Derived.Test.YtbkcclmhgnplcaaDoorRof
import Derived.Deep.RegionHeld
namespace Go.Proofs.YtbkcclmhgnplcaaDoor
open Go.RowKit Go.Shelf
def upL (X : Nat → Value) (i : Nat) (v : Value) : Nat → Value := fun j => if j = i then v else X j
theorem upL_same (X : Nat → Value) (i : Nat) (v : Value) : upL X i v i = v := by simp [upL]
theorem upL_ne (X : Nat → Value) {i j : Nat} (v : Value) (h : j ≠ i) : upL X i v j = X j := by simp [upL, h]
def pcL (n b : Nat) : Nat := ((List.range n).map fun k => if b.testBit k then 1 else 0).sum
theorem pcL_le (n b : Nat) : pcL n b ≤ n := by
  unfold pcL
  have h : ∀ l : List Nat, (l.map fun k => if b.testBit k then 1 else 0).sum ≤ l.length := fun l => by
    induction l with
    | nil => simp
    | cons a l ih => simp only [List.map_cons, List.sum_cons, List.length_cons]; split <;> omega
  simpa using h (List.range n)
def okL (m b : Nat) : Bool := (List.range m).all fun k => b.testBit k
def nxL (n : Nat) (iL : Nat → Nat) (ls : Nat → Nat → Array Bool) (m b i : Nat) : Bool :=
  (List.range n).any fun k => decide (iL k = i) && decide (m ≤ k) && decide ((ls m b).setIfInBounds i true = ls m (b + 2 ^ k)) && decide (b + 2 ^ k < 2 ^ n) && okL m (b + 2 ^ k) && decide (pcL n (b + 2 ^ k) = pcL n b + 1) &&
    (List.range n).all fun j => (b + 2 ^ k).testBit j == (b.testBit j || decide (j = k))
def nxA (_n : Nat) (iA : Nat → Nat) (ls : Nat → Nat → Array Bool) (m b i : Nat) : Bool :=
  decide (iA m = i) && b.testBit m && decide ((ls m b).setIfInBounds i true = ls (m + 1) b) && okL (m + 1) b
def chkL (n : Nat) (iL iA : Nat → Nat) (ls : Nat → Nat → Array Bool) (ops : Array Oper) : Bool :=
  (List.range n).all fun m => (List.range (2 ^ n)).all fun b => !okL m b || (!(Region.ready .any ops (ls m b)).isEmpty && (Region.ready .any ops (ls m b)).all fun i => nxL n iL ls m b i || nxA n iA ls m b i)
/-- What stands on the way. -/
structure InvL (n : Nat) (LI AI : Nat → World → Value → Prop) (G : Nat → World → Prop) (m b : Nat) (X : Nat → Value) (w : World) : Prop where
  g : G m w
  lit : ∀ k, k < n → m ≤ k → b.testBit k = true → LI k w (X k)
  app : ∀ k, k < m → AI k w (X (n + k))
theorem any_lits {P : Program} {ops : Array Oper} {Q : Exit → Act → World → Prop} {S : World → Prop} (n fe : Nat) (iL iA : Nat → Nat) (ls : Nat → Nat → Array Bool) (F : (Nat → Value) → Act) (LI AI : Nat → World → Value → Prop) (G : Nat → World → Prop)
    (hS : ∀ m w, G m w → S w) (hchk : chkL n iL iA ls ops = true) (hfull : ∀ b, b < 2 ^ n → okL n b = true → b = 2 ^ n - 1) (hpc : pcL n (2 ^ n - 1) = n)
    (hL : ∀ k, k < n → ∀ m, m ≤ k → ∀ X w K, G m w → (∀ v w', LI k w' v → G m w' → (∀ j u, LI j w u → LI j w' u) → (∀ j u, AI j w u → AI j w' u) → K (F (upL X k v)) w') → wpOp P ops Q (iL k) K (F X) w)
    (hA : ∀ k, k < n → ∀ X w K, LI k w (X k) → G k w → (∀ v w', AI k w' v → G (k + 1) w' → (∀ j u, LI j w u → k < j → LI j w' u) → (∀ j u, AI j w u → AI j w' u) → K (F (upL X (n + k) v)) w') → wpOp P ops Q (iA k) K (F X) w)
    (hend : ∀ X w, G n w → (∀ k, k < n → AI k w (X (n + k))) → wpAnyH P .any ops Q S fe (ls n (2 ^ n - 1)) (F X) w) :
    ∀ r m b, m ≤ n → b < 2 ^ n → okL m b = true → m + pcL n b + r = 2 * n → ∀ X w, InvL n LI AI G m b X w → wpAnyH P .any ops Q S (r + fe) (ls m b) (F X) w := by
  have fin : ∀ r m b, m = n → b < 2 ^ n → okL m b = true → m + pcL n b + r = 2 * n → ∀ X w, InvL n LI AI G m b X w → wpAnyH P .any ops Q S (r + fe) (ls m b) (F X) w := by
    intro r m b hm hb hok hr X w hI
    subst hm
    obtain rfl := hfull b hb hok
    obtain rfl : r = 0 := by omega
    rw [Nat.zero_add]
    exact hend X w hI.g hI.app
  intro r
  induction r with
  | zero =>
    intro m b hm hb hok hr X w hI
    rcases Nat.lt_or_ge m n with h | h
    · exfalso
      have := pcL_le n b
      omega
    · exact fin 0 m b (by omega) hb hok hr X w hI
  | succ r ih =>
    intro m b hm hb hok hr X w hI
    rcases Nat.lt_or_ge m n with hmn | h
    · have hrd : (Region.ready .any ops (ls m b)).isEmpty = false ∧ ∀ i ∈ Region.ready .any ops (ls m b), (nxL n iL ls m b i || nxA n iA ls m b i) = true := by
        simp only [chkL, List.all_eq_true, List.mem_range] at hchk
        have h := hchk m hmn b hb
        rw [hok] at h
        simpa using h
      rw [show r + 1 + fe = r + fe + 1 by omega]
      refine wpAnyH_ready (rs := Region.ready .any ops (ls m b)) rfl (fun h => by rw [h] at hrd; simp at hrd) ?_
      intro i hi
      rcases Bool.or_eq_true_iff.1 (hrd.2 i hi) with h | h
      · simp only [nxL, List.any_eq_true, List.mem_range, Bool.and_eq_true, decide_eq_true_eq] at h
        obtain ⟨k, hk, ⟨⟨⟨⟨⟨⟨e1, e2⟩, e3⟩, e4⟩, e5⟩, e6⟩, e7⟩⟩ := h
        subst e1
        rw [e3]
        refine hL k hk m e2 X w _ hI.g fun v w' h1 h2 h3 h4 => ⟨hS m w' h2, ih m (b + 2 ^ k) hm e4 e5 (by omega) _ _ ⟨h2, fun j hj hmj hbj => ?_, fun j hj => ?_⟩⟩
        · by_cases hjk : j = k
          · subst hjk
            rw [upL_same]
            exact h1
          · rw [upL_ne X v hjk]
            refine h3 j _ (hI.lit j hj hmj ?_)
            have := List.all_eq_true.1 e7 j (List.mem_range.2 hj)
            rw [hbj] at this
            simpa [hjk] using this
        · rw [upL_ne X v (by omega)]
          exact h4 j _ (hI.app j hj)
      · simp only [nxA, Bool.and_eq_true, decide_eq_true_eq] at h
        obtain ⟨⟨⟨e1, e2⟩, e3⟩, e4⟩ := h
        subst e1
        rw [e3]
        refine hA m hmn X w _ (hI.lit m hmn (Nat.le_refl _) e2) hI.g fun v w' h1 h2 h3 h4 => ⟨hS _ w' h2, ih (m + 1) b hmn hb e4 (by omega) _ _ ⟨h2, fun j hj hmj hbj => ?_, fun j hj => ?_⟩⟩
        · rw [upL_ne X v (by omega)]
          exact h3 j _ (hI.lit j hj (by omega) hbj) (by omega)
        · by_cases hjm : j = m
          · subst hjm
            rw [upL_same]
            exact h1
          · rw [upL_ne X v (by omega)]
            exact h4 j _ (hI.app j (by omega))
    · exact fin (r + 1) m b (by omega) hb hok hr X w hI
/-- The same, from the start. -/
theorem any_lits0 {P : Program} {ops : Array Oper} {Q : Exit → Act → World → Prop} {S : World → Prop} (n fe : Nat) (iL iA : Nat → Nat) (ls : Nat → Nat → Array Bool) (F : (Nat → Value) → Act) (LI AI : Nat → World → Value → Prop) (G : Nat → World → Prop)
    (hS : ∀ m w, G m w → S w) (hchk : chkL n iL iA ls ops = true) (hfull : ∀ b, b < 2 ^ n → okL n b = true → b = 2 ^ n - 1) (hpc : pcL n (2 ^ n - 1) = n) (hp0 : pcL n 0 = 0)
    (hL : ∀ k, k < n → ∀ m, m ≤ k → ∀ X w K, G m w → (∀ v w', LI k w' v → G m w' → (∀ j u, LI j w u → LI j w' u) → (∀ j u, AI j w u → AI j w' u) → K (F (upL X k v)) w') → wpOp P ops Q (iL k) K (F X) w)
    (hA : ∀ k, k < n → ∀ X w K, LI k w (X k) → G k w → (∀ v w', AI k w' v → G (k + 1) w' → (∀ j u, LI j w u → k < j → LI j w' u) → (∀ j u, AI j w u → AI j w' u) → K (F (upL X (n + k) v)) w') → wpOp P ops Q (iA k) K (F X) w)
    (hend : ∀ X w, G n w → (∀ k, k < n → AI k w (X (n + k))) → wpAnyH P .any ops Q S fe (ls n (2 ^ n - 1)) (F X) w)
    (fuel : Nat) (li : Array Bool) (hfu : fuel = 2 * n + fe) (hli : li = ls 0 0) (X : Nat → Value) (w : World) (hG : G 0 w) : wpAnyH P .any ops Q S fuel li (F X) w := by
  subst hfu hli
  exact any_lits n fe iL iA ls F LI AI G hS hchk hfull hpc hL hA hend (2 * n) 0 0 (Nat.zero_le _) (Nat.two_pow_pos n) (by simp [okL]) (by omega) X w ⟨hG, fun k _ _ h => by simp at h, fun k h => by omega⟩
theorem oper_append {P : Program} {o : Oper} {a : Act} {w : World} {K : Act → World → Prop} {Q : Exit → Act → World → Prop} (s x : Operand) (t : TypeId)
    (ho : o.op = .call { callee := .builtin .append, args := #[s, x], argTypes := #[t, t] }) (v u v' : Value) (w' : World) (hs : a.eval s = v) (hx : a.eval x = u)
    (hrun : (Builtin.append_ #[t, t] o.type #[v, u]).run P w = .ok v' w') (h : K (a.put o.dst v') w') : Oper.wp P o a w K Q := by
  unfold Oper.wp execOp
  simp only [ho, resolve, invoke, builtin, Sem.run_bind, Sem.run_pure, Result.andThen_ok, List.map_toArray, List.map_cons, List.map_nil, hs, hx, hrun]
  exact h
end Go.Proofs.YtbkcclmhgnplcaaDoor
