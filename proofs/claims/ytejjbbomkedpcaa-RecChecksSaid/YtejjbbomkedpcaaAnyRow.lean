/- A row of two slices, each a copy, laid by one statement in whatever order its steps come. -/
import Derived.Test.YtejjbbomkedpcaaBagI
import Derived.Deep.RegionHeld
namespace Go.Proofs.Ytejjbbomkedpcaa
open Go.RowKit
def ls5 (c d e : Nat) : Array Bool := #[decide (1 ≤ c), true, true, true, true, decide (2 ≤ c), decide (1 ≤ d), true, true, true, true, decide (3 ≤ c), decide (4 ≤ c), decide (1 ≤ e), false]
def ok5 (c d e : Nat) : Bool := decide (c ≤ 4) && decide (d ≤ 1) && decide (e ≤ 1) && (decide (c < 3) || decide (d = 1))
def nx5 (c d e i : Nat) : Option (Nat × Nat × Nat) :=
  if i = 0 ∧ c = 0 then some (1, d, e) else if i = 5 ∧ c = 1 then some (2, d, e) else if i = 6 ∧ d = 0 then some (c, 1, e) else if i = 11 ∧ c = 2 ∧ d = 1 then some (3, d, e) else if i = 12 ∧ c = 3 then some (4, d, e) else if i = 13 ∧ e = 0 then some (c, d, 1) else none
def rdy5 (ops : Array Oper) : Bool :=
  (List.range 5).all fun c => (List.range 2).all fun d => (List.range 2).all fun e => !ok5 c d e || (decide (c = 4) && decide (e = 1)) ||
    (!(Region.ready .any ops (ls5 c d e)).isEmpty && (Region.ready .any ops (ls5 c d e)).all fun i => (nx5 c d e i).isSome)
theorem ls5_nx : ∀ c, c < 5 → ∀ d, d < 2 → ∀ e, e < 2 → ok5 c d e = true → ∀ i, i < 15 → ∀ s, nx5 c d e i = some s → (ls5 c d e).setIfInBounds i true = ls5 s.1 s.2.1 s.2.2 ∧ ok5 s.1 s.2.1 s.2.2 = true ∧ s.1 + s.2.1 + s.2.2 = c + d + e + 1 := by
  have h : ((List.range 5).all fun c => (List.range 2).all fun d => (List.range 2).all fun e => !ok5 c d e || (List.range 15).all fun i => match nx5 c d e i with
      | none => true
      | some s => decide ((ls5 c d e).setIfInBounds i true = ls5 s.1 s.2.1 s.2.2) && ok5 s.1 s.2.1 s.2.2 && decide (s.1 + s.2.1 + s.2.2 = c + d + e + 1)) = true := by decide +kernel
  intro c hc d hd e he hok i hi s hs
  simp only [List.all_eq_true, List.mem_range] at h
  have h1 := h c hc d hd e he
  rw [hok] at h1
  simp only [Bool.not_true, Bool.false_or, List.all_eq_true, List.mem_range] at h1
  have h2 := h1 i hi
  rw [hs] at h2
  simp only [Bool.and_eq_true, decide_eq_true_eq] at h2
  exact ⟨h2.1.1, h2.1.2, h2.2⟩
def up5 (X : Nat → Value) (i : Nat) (v : Value) : Nat → Value := fun j => if j = i then v else X j
def fr5 (F : Value → Value → Value → Value → Value → Value → Act) (X : Nat → Value) : Act := F (X 1) (X 2) (X 3) (X 4) (X 5) (X 6)
def b1 (c : Nat) (X : Nat → Value) : List Value := if c = 0 then [] else if c = 1 then [X 1] else [X 2]
def b2 (c d : Nat) (X : Nat → Value) : List Value := if d = 0 then [] else if c < 3 then [X 3] else [X 4]
/-- What is known on the way. -/
structure Inv5 (B q mm : Nat) (w0 : World) (c d e : Nat) (X : Nat → Value) (w : World) : Prop where
  bag : BagI B (100 * 2 ^ (c + d + e)) w0 w (b1 c X ++ b2 c d X)
  l1 : c = 1 → slen (X 1) = 0
  l2 : 2 ≤ c → slen (X 2) = q
  l3 : d = 1 → c < 3 → slen (X 3) = 0
  l4 : 3 ≤ c → slen (X 4) = mm
  l5 : c = 4 → X 6 = .agg #[X 2, X 4]
  box : e = 1 → ∃ R, X 5 = .pointer (some ⟨R, 0, none⟩) ∧ B ≤ R ∧ Box2 33 w R (.slice none 0 0) (.slice none 0 0)
theorem box_grown {T : TypeId} {B N : Nat} {w w' : World} {R : Nat} {a b v : Value} (h : Box2 T w R a b) (hg : w.grownBy w' v.ownBlock) (hv : GsI B N w v) (hT : T ≠ 3) : Box2 T w' R a b := by
  have hne : some R ≠ v.ownBlock := by
    obtain ⟨g, n, cap, cur, fz, rfl, _, h3, _⟩ := hv
    intro e
    simp only [Value.ownBlock, Option.some.injEq] at e
    subst e
    unfold Box2 at h
    rw [h3] at h
    injection h with h
    injection h with _ h2
    exact hT h2.symm
  exact (hg.block R h.lt hne).trans h
theorem p5 {n : Nat} (h : n ≤ 6) : 2 * (100 * 2 ^ n) ≤ 1000000000000 := by
  have : 2 ^ n ≤ 2 ^ 6 := Nat.pow_le_pow_right (by omega) h
  omega
theorem p5s (n : Nat) : 2 * (100 * 2 ^ n) = 100 * 2 ^ (n + 1) := by rw [Nat.pow_succ]; omega
theorem p5p (n : Nat) : 100 ≤ 100 * 2 ^ n := by
  have : 1 ≤ 2 ^ n := Nat.one_le_two_pow
  omega
set_option maxHeartbeats 2000000 in
theorem anyRow {ops : Array Oper} {Q : Exit → Act → World → Prop} {S : World → Prop} (F : Value → Value → Value → Value → Value → Value → Act) (B q mm : Nat) (w0 : World) (hB : B = w0.heap.size) (s1 s2 : Value)
    (e1 : ∃ A m c us, s1 = .slice A m c ∧ Nums .i64 w0 A m us ∧ m = q) (e2 : ∃ A m c us, s2 = .slice A m c ∧ Nums .i64 w0 A m us ∧ m = mm) (hq : q ≤ 100) (hmm : mm ≤ 100) (hS : ∀ w, Below B w0 w → S w) (hr : rdy5 ops = true)
    (h0 : ∀ X w K, K (fr5 F (up5 X 1 (.slice (some ⟨w.heap.size, 0, none⟩) 0 0))) (w.alloc (.cells (ints []).toArray 3)) → wpOp Try.prog ops Q 0 K (fr5 F X) w)
    (h5 : ∀ X w K v' w', (Builtin.append_ #[22, 22] 22 #[X 1, s1]).run Try.prog w = .ok v' w' → K (fr5 F (up5 X 2 v')) w' → wpOp Try.prog ops Q 5 K (fr5 F X) w)
    (h6 : ∀ X w K, K (fr5 F (up5 X 3 (.slice (some ⟨w.heap.size, 0, none⟩) 0 0))) (w.alloc (.cells (ints []).toArray 3)) → wpOp Try.prog ops Q 6 K (fr5 F X) w)
    (h11 : ∀ X w K v' w', (Builtin.append_ #[22, 22] 22 #[X 3, s2]).run Try.prog w = .ok v' w' → K (fr5 F (up5 X 4 v')) w' → wpOp Try.prog ops Q 11 K (fr5 F X) w)
    (h13 : ∀ X w K, K (fr5 F (up5 X 5 (.pointer (some ⟨w.heap.size, 0, none⟩)))) (w.alloc (.cells #[.slice none 0 0, .slice none 0 0] 33)) → wpOp Try.prog ops Q 13 K (fr5 F X) w)
    (h12 : ∀ X w K, (∃ g n c, X 2 = .slice (some ⟨g, 0, none⟩) n c) → (∃ g n c, X 4 = .slice (some ⟨g, 0, none⟩) n c) → K (fr5 F (up5 X 6 (.agg #[X 2, X 4]))) w → wpOp Try.prog ops Q 12 K (fr5 F X) w)
    (hend : ∀ X w R, BagI B 6400 w0 w [X 2, X 4] → slen (X 2) = q → slen (X 4) = mm → X 6 = .agg #[X 2, X 4] → X 5 = .pointer (some ⟨R, 0, none⟩) → B ≤ R → Box2 33 w R (.slice none 0 0) (.slice none 0 0) → wpAnyH Try.prog .any ops Q S 1 (ls5 4 1 1) (fr5 F X) w) :
    ∀ r c d e, ok5 c d e = true → c + d + e + r = 6 → ∀ X w, Inv5 B q mm w0 c d e X w → wpAnyH Try.prog .any ops Q S (r + 1) (ls5 c d e) (fr5 F X) w := by
  intro r
  induction r with
  | zero =>
    intro c d e hok hs X w hI
    simp only [ok5, Bool.and_eq_true, decide_eq_true_eq] at hok
    obtain ⟨⟨⟨k1, k2⟩, k3⟩, _⟩ := hok
    obtain ⟨rfl, rfl, rfl⟩ : c = 4 ∧ d = 1 ∧ e = 1 := by omega
    obtain ⟨R, hR, hBR, hx⟩ := hI.box rfl
    exact hend X w R hI.bag (hI.l2 (by omega)) (hI.l4 (by omega)) (hI.l5 rfl) hR hBR hx
  | succ r ih =>
    intro c d e hok hs X w hI
    have hok' := hok
    simp only [ok5, Bool.and_eq_true, Bool.or_eq_true, decide_eq_true_eq] at hok'
    obtain ⟨⟨⟨k1, k2⟩, k3⟩, g1⟩ := hok'
    have hrd : (Region.ready .any ops (ls5 c d e)).isEmpty = false ∧ ∀ i ∈ Region.ready .any ops (ls5 c d e), (nx5 c d e i).isSome = true := by
      simp only [rdy5, List.all_eq_true, List.mem_range] at hr
      have h := hr c (by omega) d (by omega) e (by omega)
      rw [hok] at h
      have hne : (decide (c = 4) && decide (e = 1)) = false := by
        rw [Bool.and_eq_false_iff, decide_eq_false_iff_not, decide_eq_false_iff_not]; omega
      rw [hne] at h
      simpa using h
    refine wpAnyH_ready (rs := Region.ready .any ops (ls5 c d e)) rfl (fun h => by rw [h] at hrd; simp at hrd) ?_
    intro i hi
    obtain ⟨s, hnx⟩ := Option.isSome_iff_exists.1 (hrd.2 i hi)
    have hi15 : i < 15 := by
      unfold nx5 at hnx
      repeat' split at hnx
      all_goals first | omega | simp at hnx
    obtain ⟨hl1, hl2, hl3⟩ := ls5_nx c (by omega) d (by omega) e (by omega) hok i hi15 s hnx
    have ihs := ih s.1 s.2.1 s.2.2 hl2 (by omega)
    rw [hl1]
    have hN := p5 (n := c + d + e) (by omega)
    have hp := p5p (c + d + e)
    have hqs := p5s (c + d + e)
    obtain ⟨hbag, j1, j2, j3, j4, j5, hbox⟩ := hI
    have hlow := hbag.low
    have hsrc : ∀ {s n}, (∃ A m cc us, s = .slice A m cc ∧ Nums .i64 w0 A m us ∧ m = n) → n ≤ 100 → (∃ A m cc us, s = .slice A m cc ∧ Nums .i64 w A m us ∧ m ≤ 100 * 2 ^ (c + d + e) ∧ slen s = m) ∧ slen s = n := by
      intro s n ⟨A, m, c', us, h1, h2, h3⟩ hn
      exact ⟨⟨A, m, c', us, h1, h2.keep (Keeps.of_below (hB ▸ hbag.bel)), by omega, by rw [h1]; rfl⟩, by rw [h1]; exact h3⟩
    unfold nx5 at hnx
    repeat' split at hnx
    · obtain ⟨rfl, rfl⟩ := ‹_ ∧ _›
      injection hnx with hnx
      subst hnx
      have hb1 := (show BagI _ _ _ _ (b2 0 d X) from hbag.perm (List.Perm.of_eq (by simp [b1]))).add [] (by intro x hx; cases hx) (by simp) (by simp)
      refine h0 X w _ ⟨hS _ hb1.1.bel, ihs _ _ ⟨?_, fun _ => rfl, fun h => absurd h (by show ¬ 2 ≤ 1; omega), fun h1 h2 => j3 h1 (by omega), fun h => absurd (show 3 ≤ 1 from h) (by decide), fun h => absurd (show 1 = 4 from h) (by decide), fun h => ?_⟩⟩
      · rw [show 1 + d + e = 0 + d + e + 1 by omega, ← hqs]
        exact hb1.1.perm (List.Perm.of_eq (by simp [b1, b2, up5]))
      · obtain ⟨R, hR, hBR, hx⟩ := hbox h
        exact ⟨R, hR, hBR, hx.alloc _⟩
    · obtain ⟨rfl, rfl⟩ := ‹_ ∧ _›
      injection hnx with hnx
      subst hnx
      have hb0 : BagI _ _ _ _ (X 1 :: b2 1 d X) := hbag.perm (List.Perm.of_eq (by simp [b1]))
      obtain ⟨v', w', hrun, hb1, hgr, hsl⟩ := hb0.app (hsrc e1 hq).1 hN
      refine h5 X w _ _ _ hrun ⟨hS _ hb1.bel, ihs _ _ ⟨?_, fun h => absurd (show 2 = 1 from h) (by decide), fun _ => ?_, fun h1 h2 => j3 h1 (by omega), fun h => absurd (show 3 ≤ 2 from h) (by decide), fun h => absurd (show 2 = 4 from h) (by decide), fun h => ?_⟩⟩
      · rw [show 2 + d + e = 1 + d + e + 1 by omega, ← hqs]
        exact hb1.perm (List.Perm.of_eq (by simp [b1, b2, up5]))
      · show slen v' = q
        rw [hsl, j1 rfl, (hsrc e1 hq).2, Nat.zero_add]
      · obtain ⟨R, hR, hBR, hx⟩ := hbox h
        exact ⟨R, hR, hBR, box_grown hx hgr (hb0.all _ (by simp)) (by decide)⟩
    · obtain ⟨rfl, rfl⟩ := ‹_ ∧ _›
      injection hnx with hnx
      subst hnx
      have hc3 : c < 3 := by omega
      have hb1 := (show BagI _ _ _ _ (b1 c X) from hbag.perm (List.Perm.of_eq (by simp [b2]))).add [] (by intro x hx; cases hx) (by simp) (by simp)
      refine h6 X w _ ⟨hS _ hb1.1.bel, ihs _ _ ⟨?_, j1, j2, fun _ _ => rfl, fun h => absurd (show 3 ≤ c from h) (by omega), fun h => absurd (show c = 4 from h) (by omega), fun h => ?_⟩⟩
      · rw [show c + 1 + e = c + 0 + e + 1 by omega, ← hqs]
        rw [show b1 c (up5 X 3 (.slice (some ⟨w.heap.size, 0, none⟩) 0 0)) ++ b2 c 1 (up5 X 3 (.slice (some ⟨w.heap.size, 0, none⟩) 0 0)) = b1 c X ++ [.slice (some ⟨w.heap.size, 0, none⟩) 0 0] by simp [b1, b2, up5, hc3]]
        exact hb1.1.perm (List.perm_append_singleton _ _).symm
      · obtain ⟨R, hR, hBR, hx⟩ := hbox h
        exact ⟨R, hR, hBR, hx.alloc _⟩
    · obtain ⟨rfl, rfl, rfl⟩ := ‹_ ∧ _›
      injection hnx with hnx
      subst hnx
      have hb0 : BagI _ _ _ _ [X 3, X 2] := hbag.perm (show [X 2, X 3].Perm [X 3, X 2] from List.Perm.swap _ _ _)
      obtain ⟨v', w', hrun, hb1, hgr, hsl⟩ := hb0.app (hsrc e2 hmm).1 hN
      refine h11 X w _ _ _ hrun ⟨hS _ hb1.bel, ihs _ _ ⟨?_, fun h => absurd (show 3 = 1 from h) (by decide), fun _ => j2 (by omega), fun _ h => absurd (show 3 < 3 from h) (by decide), fun _ => ?_, fun h => absurd (show 3 = 4 from h) (by decide), fun h => ?_⟩⟩
      · rw [show 3 + 1 + e = 2 + 1 + e + 1 by omega, ← hqs]
        exact hb1.perm (show [v', X 2].Perm [X 2, v'] from List.Perm.swap _ _ _)
      · show slen v' = mm
        rw [hsl, j3 rfl (by omega), (hsrc e2 hmm).2, Nat.zero_add]
      · obtain ⟨R, hR, hBR, hx⟩ := hbox h
        exact ⟨R, hR, hBR, box_grown hx hgr (hb0.all _ (by simp)) (by decide)⟩
    · obtain ⟨rfl, rfl⟩ := ‹_ ∧ _›
      injection hnx with hnx
      subst hnx
      obtain rfl : d = 1 := by omega
      have sh : ∀ v, v ∈ (b1 3 X ++ b2 3 1 X) → ∃ g n c, v = .slice (some ⟨g, 0, none⟩) n c := fun v hv => by
        obtain ⟨g, c, h⟩ := (hbag.all v hv).shape
        exact ⟨g, _, c, h⟩
      refine h12 X w _ (sh _ (by simp [b1])) (sh _ (by simp [b2])) ⟨hS _ hbag.bel, ihs _ _ ⟨?_, fun h => absurd (show 4 = 1 from h) (by decide), fun _ => j2 (by omega), fun _ h => absurd (show 4 < 3 from h) (by decide), fun _ => j4 (by omega), fun _ => rfl, hbox⟩⟩
      rw [show 4 + 1 + e = 3 + 1 + e + 1 by omega, ← hqs]
      exact (hbag.mono (by omega)).perm (List.Perm.of_eq (by simp [b1, b2, up5]))
    · obtain ⟨rfl, rfl⟩ := ‹_ ∧ _›
      injection hnx with hnx
      subst hnx
      have hb1 := hbag.kept (World.grownBy_alloc w (.cells #[.slice none 0 0, .slice none 0 0] 33) none) (fun v hv => by obtain ⟨k, hk, _⟩ := (hbag.all v hv).lt; rw [hk]; simp) ((Below.refl B w).alloc hlow _)
      refine h13 X w _ ⟨hS _ hb1.bel, ihs _ _ ⟨?_, j1, j2, j3, j4, j5, fun _ => ⟨w.heap.size, rfl, hlow, Box2.new w _ _ _⟩⟩⟩
      rw [show c + d + 1 = c + d + 0 + 1 by omega, ← hqs]
      exact (hb1.mono (by omega)).perm (List.Perm.of_eq (by simp [b1, b2, up5]))
    · cases hnx
/-- The same, for the law's walk. -/
theorem anyRow' {ops : Array Oper} {Q : Exit → Act → World → Prop} {S : World → Prop} (F : Value → Value → Value → Value → Value → Value → Act) (B q mm : Nat) (w0 : World) (hB : B = w0.heap.size) (s1 s2 : Value)
    (e1 : ∃ A m c us, s1 = .slice A m c ∧ Nums .i64 w0 A m us ∧ m = q) (e2 : ∃ A m c us, s2 = .slice A m c ∧ Nums .i64 w0 A m us ∧ m = mm) (hq : q ≤ 100) (hmm : mm ≤ 100) (hS : ∀ w, Below B w0 w → S w) (hr : rdy5 ops = true)
    (h0 : ∀ X w K, K (fr5 F (up5 X 1 (.slice (some ⟨w.heap.size, 0, none⟩) 0 0))) (w.alloc (.cells (ints []).toArray 3)) → wpOp Try.prog ops Q 0 K (fr5 F X) w)
    (h5 : ∀ X w K v' w', (Builtin.append_ #[22, 22] 22 #[X 1, s1]).run Try.prog w = .ok v' w' → K (fr5 F (up5 X 2 v')) w' → wpOp Try.prog ops Q 5 K (fr5 F X) w)
    (h6 : ∀ X w K, K (fr5 F (up5 X 3 (.slice (some ⟨w.heap.size, 0, none⟩) 0 0))) (w.alloc (.cells (ints []).toArray 3)) → wpOp Try.prog ops Q 6 K (fr5 F X) w)
    (h11 : ∀ X w K v' w', (Builtin.append_ #[22, 22] 22 #[X 3, s2]).run Try.prog w = .ok v' w' → K (fr5 F (up5 X 4 v')) w' → wpOp Try.prog ops Q 11 K (fr5 F X) w)
    (h13 : ∀ X w K, K (fr5 F (up5 X 5 (.pointer (some ⟨w.heap.size, 0, none⟩)))) (w.alloc (.cells #[.slice none 0 0, .slice none 0 0] 33)) → wpOp Try.prog ops Q 13 K (fr5 F X) w)
    (h12 : ∀ X w K, (∃ g n c, X 2 = .slice (some ⟨g, 0, none⟩) n c) → (∃ g n c, X 4 = .slice (some ⟨g, 0, none⟩) n c) → K (fr5 F (up5 X 6 (.agg #[X 2, X 4]))) w → wpOp Try.prog ops Q 12 K (fr5 F X) w)
    (hend : ∀ X w R, BagI B 6400 w0 w [X 2, X 4] → slen (X 2) = q → slen (X 4) = mm → X 6 = .agg #[X 2, X 4] → X 5 = .pointer (some ⟨R, 0, none⟩) → B ≤ R → Box2 33 w R (.slice none 0 0) (.slice none 0 0) → wpAnyH Try.prog .any ops Q S 1 (ls5 4 1 1) (fr5 F X) w)
    (fuel : Nat) (li : Array Bool) (hfu : fuel = 7) (hli : li = ls5 0 0 0) : ∀ x5 x1 x2 x3 x4 x6 : Value, wpAnyH Try.prog .any ops Q S fuel li (F x1 x2 x3 x4 x5 x6) w0 := by
  subst hfu hli
  intro x5 x1 x2 x3 x4 x6
  exact anyRow F B q mm w0 hB s1 s2 e1 e2 hq hmm hS hr h0 h5 h6 h11 h13 h12 hend 6 0 0 0 (by decide) rfl
    (fun i => if i = 1 then x1 else if i = 2 then x2 else if i = 3 then x3 else if i = 4 then x4 else if i = 5 then x5 else x6) w0
    ⟨⟨Below.refl _ _, Nat.le_of_eq hB, (by intro v hv; simp [b1, b2] at hv), (by simp [b1, b2])⟩, (fun h => by cases h), (fun h => by omega), (fun h => by cases h), (fun h => by omega), (fun h => by cases h), (fun h => by cases h)⟩
end Go.Proofs.Ytejjbbomkedpcaa
