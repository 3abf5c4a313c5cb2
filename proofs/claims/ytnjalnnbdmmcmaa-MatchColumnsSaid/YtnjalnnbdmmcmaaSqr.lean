/- Three squares of the call's own, made between one another. -/
import Derived.Test.YtnjalnnbdmmcmaaMatQ
import Derived.Test.YtnjalnnbdmmcmaaOwn
namespace Go.Proofs.Ytnjalnnbdmmcmaa
open Go.RowKit Go.Shelf
def outL (k n : Nat) (B : Nat → Nat) : List Value := (List.range k).map fun q => if q < n then .slice (some ⟨B q, 0, none⟩) k k else .slice none 0 0
theorem outL_len (k n : Nat) (B : Nat → Nat) : (outL k n B).length = k := by simp [outL]
theorem outL_at {k n q : Nat} (B : Nat → Nat) (h : q < n) (hk : n ≤ k) : (outL k n B)[q]? = some (.slice (some ⟨B q, 0, none⟩) k k) := by
  unfold outL
  rw [List.getElem?_map, List.getElem?_range (by omega)]
  simp [h]
theorem outL_set {k n : Nat} (B : Nat → Nat) (b : Nat) : (outL k n B).set n (.slice (some ⟨b, 0, none⟩) k k) = outL k (n + 1) (fun q => if q = n then b else B q) := by
  apply List.ext_getElem
  · simp [outL]
  · intro q h1 h2
    simp only [outL, List.getElem_set, List.getElem_map, List.getElem_range]
    by_cases h : n = q
    · subst h; simp
    · rw [if_neg h]
      by_cases h3 : q < n
      · rw [if_pos h3, if_pos (by omega), if_neg (fun e => h e.symm)]
      · rw [if_neg h3, if_neg (by omega)]
structure Sq (lo : Nat) (w : World) (k n : Nat) (G : Nat → Nat) (B : Nat → Nat → Nat) (F : Nat → Nat → Nat → Int) : Prop where
  g : ∀ s, s < 3 → lo ≤ G s ∧ Own 22 w (G s) (outL k n (B s))
  r : ∀ s q, s < 3 → q < n → lo ≤ B s q ∧ Own 3 w (B s q) (ints (rowF k (F s q)))
  gi : ∀ s s', s < 3 → s' < 3 → G s = G s' → s = s'
  ri : ∀ s q s' q', s < 3 → q < n → s' < 3 → q' < n → B s q = B s' q' → s = s' ∧ q = q'
theorem own_ty {T T' : TypeId} {w : World} {g : Nat} {xs ys : List Value} (h : Own T w g xs) (h' : Own T' w g ys) : T = T' := by
  unfold Own at h h'
  rw [h] at h'
  injection h' with h'
  injection h' with _ h' _
section
variable {lo k n : Nat} {w : World} {G : Nat → Nat} {B : Nat → Nat → Nat} {F : Nat → Nat → Nat → Int}
theorem Sq.below (h : Sq lo w k n G B F) {w' : World} (hb : Below w.heap.size w w') : Sq lo w' k n G B F :=
  ⟨fun s hs => ⟨(h.g s hs).1, (h.g s hs).2.below hb (h.g s hs).2.lt⟩, fun s q hs hq => ⟨(h.r s q hs hq).1, (h.r s q hs hq).2.below hb (h.r s q hs hq).2.lt⟩, h.gi, h.ri⟩
theorem Sq.apart (h : Sq lo w k n G B F) {s s' q : Nat} (hs : s < 3) (hs' : s' < 3) (hq : q < n) : G s ≠ B s' q := fun e => by
  have h1 := (h.g s hs).2
  have h2 := (h.r s' q hs' hq).2
  rw [e] at h1
  exact absurd (own_ty h1 h2) (by decide)
theorem Sq.mat (h : Sq lo w k k G B F) {s : Nat} (hs : s < 3) (hF : ∀ a b, inK .i64 (F s a b)) : Mat w (some ⟨G s, 0, none⟩) k (matF k (F s)) := by
  refine ⟨matF_len k _, fun _ => ⟨_, rfl, fun j r hr => ?_⟩⟩
  have hj : j < k := by have := (List.getElem?_eq_some_iff.1 hr).1; rwa [matF_len] at this
  rw [matF_at _ hj] at hr
  injection hr with hr
  subst hr
  rw [add0, rowF_len]
  refine ⟨some ⟨B s j, 0, none⟩, k, (h.g s hs).2.cell (outL_at (B s) hj (Nat.le_refl _)), rowF_len _ _, fun x hx => ?_, fun _ => ⟨_, rfl, fun q x hx => ?_⟩⟩
  · unfold rowF at hx
    obtain ⟨q, -, rfl⟩ := List.mem_map.1 hx
    exact hF j q
  · rw [add0]
    exact (h.r s j hs hj).2.cell (by unfold ints; rw [List.getElem?_map, hx]; rfl)
theorem Sq.put (h : Sq lo w k n G B F) {s i j : Nat} (hs : s < 3) (hi : i < n) (y : Int) : Sq lo (w.setCell ⟨B s i, j, none⟩ (.int .i64 y)) k n G B (fun s' => if s' = s then updF (F s) i j y else F s') := by
  refine ⟨fun s' hs' => ⟨(h.g s' hs').1, (h.g s' hs').2.only (only_setCell _ _ _ _) (h.apart hs' hs hi)⟩, fun s' q hs' hq => ⟨(h.r s' q hs' hq).1, ?_⟩, h.gi, h.ri⟩
  by_cases e : s' = s ∧ q = i
  · obtain ⟨rfl, rfl⟩ := e
    have := (h.r s' q hs' hq).2.set_ j (.int .i64 y)
    rw [if_pos rfl, ← updF_row, ← rowF_set]
    unfold ints at this ⊢
    rw [List.map_set]
    exact this
  · have hne : B s' q ≠ B s i := fun eb => e (h.ri s' q s i hs' hq hs hi eb)
    have h2 := (h.r s' q hs' hq).2.only (only_setCell (B s i) w j (.int .i64 y)) hne
    by_cases e1 : s' = s
    · subst e1
      rw [if_pos rfl, updF_else _ _ (fun e2 => e ⟨rfl, e2⟩)]
      exact h2
    · rw [if_neg e1]
      exact h2
end
/-- While one row of each is made: bs says which row blocks are laid, m how many are stored. -/
structure RM (lo : Nat) (w : World) (k n : Nat) (G : Nat → Nat) (B : Nat → Nat → Nat) (F : Nat → Nat → Nat → Int) (bs : Nat → Option Nat) (m : Nat) (W : World) : Prop where
  sq : Sq lo w k n G B F
  tch : Tch (fun j => ∃ s, s < 3 ∧ j = G s) w W
  out : ∀ s, s < 3 → Own 22 W (G s) (if s < m then outL k (n + 1) (fun q => if q = n then (bs s).getD 0 else B s q) else outL k n (B s))
  new : ∀ s b, s < 3 → bs s = some b → w.heap.size ≤ b ∧ Own 3 W b (ints (rowF k fun _ => 0))
  inj : ∀ s s' b, s < 3 → s' < 3 → bs s = some b → bs s' = some b → s = s'
  had : ∀ s, s < m → s < 3 → ∃ b, bs s = some b
def upB (bs : Nat → Option Nat) (s b : Nat) : Nat → Option Nat := fun j => if j = s then some b else bs j
section
variable {lo k n m : Nat} {w W : World} {G : Nat → Nat} {B : Nat → Nat → Nat} {F : Nat → Nat → Nat → Int} {bs : Nat → Option Nat}
theorem Sq.rm (h : Sq lo w k n G B F) : RM lo w k n G B F (fun _ => none) 0 w.drew :=
  ⟨h, (Tch.refl _ _).drewN 1, fun s hs => (h.g s hs).2, fun s b _ e => (by cases e), fun s s' b _ _ e => (by cases e), fun s hs => (by omega)⟩
theorem RM.alloc (h : RM lo w k n G B F bs m W) {s : Nat} (hs : m ≤ s) : RM lo w k n G B F (upB bs s W.heap.size) m (W.alloc (.cells (madeCells #[.int .i64 0] k) 3)) := by
  have ho : Own 3 (W.alloc (.cells (madeCells #[.int .i64 0] k) 3)) W.heap.size (ints (rowF k fun _ => 0)) := by
    unfold Own
    rw [heap_alloc_new]
    congr 2
    apply Array.ext'
    rw [toList_madeCells_one, List.toList_toArray]
    unfold ints rowF
    rw [List.map_map]
    apply List.ext_getElem
    · simp
    · intro i h1 h2; simp
  refine ⟨h.sq, h.tch.trans (Tch.alloc (fun j => ∃ s, s < 3 ∧ j = G s) W _) (fun _ _ hm => hm), fun s' hs' => ?_, fun s' b hs' e => ?_, fun s1 s2 b h1 h2 e1 e2 => ?_, fun s' hm h3 => ?_⟩
  · have h1 := (h.out s' hs').alloc (.cells (madeCells #[.int .i64 0] k) 3)
    by_cases hm : s' < m
    · rw [if_pos hm] at h1 ⊢
      have : upB bs s W.heap.size s' = bs s' := by unfold upB; rw [if_neg (by omega)]
      rw [this]; exact h1
    · rw [if_neg hm] at h1 ⊢
      exact h1
  · unfold upB at e
    split at e
    · injection e with e
      subst e
      exact ⟨h.tch.size, ho⟩
    · exact ⟨(h.new s' b hs' e).1, (h.new s' b hs' e).2.alloc _⟩
  · unfold upB at e1 e2
    split at e1 <;> split at e2
    · omega
    · injection e1 with e1; have := (h.new s2 b h2 e2).2.lt; omega
    · injection e2 with e2; have := (h.new s1 b h1 e1).2.lt; omega
    · exact h.inj s1 s2 b h1 h2 e1 e2
  · obtain ⟨b, hb⟩ := h.had s' hm h3
    exact ⟨b, by unfold upB; rw [if_neg (by omega)]; exact hb⟩
theorem RM.store (h : RM lo w k n G B F bs m W) {b : Nat} (hm : m < 3) (hb : bs m = some b) : RM lo w k n G B F bs (m + 1) (W.setCell ⟨G m, n, none⟩ (.slice (some ⟨b, 0, none⟩) k k)) := by
  have ow : ∀ s q b, s < 3 → bs q = some b → q < 3 → b ≠ G s := fun s q b hs hq h3 e => by
    have h1 := (h.new q b h3 hq).2
    have h2 := h.out s hs
    rw [e] at h1
    exact absurd (own_ty h1 h2) (by decide)
  refine ⟨h.sq, h.tch.trans (Tch.setCell (M := fun j => ∃ s, s < 3 ∧ j = G s) ⟨m, hm, rfl⟩ W n _) (fun _ _ hm => hm), fun s' hs' => ?_, fun s' b' hs' e => ⟨(h.new s' b' hs' e).1, (h.new s' b' hs' e).2.only (only_setCell _ _ _ _) (ow m s' b' hm e hs')⟩, h.inj, fun s' h1 h2 => ?_⟩
  · by_cases e : s' = m
    · subst e
      have h1 := (h.out s' hs').set_ n (.slice (some ⟨b, 0, none⟩) k k)
      rw [if_neg (Nat.lt_irrefl _), outL_set] at h1
      rw [if_pos (Nat.lt_succ_self _), hb]
      exact h1
    · have h1 := (h.out s' hs').only (only_setCell (G m) W n (.slice (some ⟨b, 0, none⟩) k k)) (fun eg => e (h.sq.gi s' m hs' hm eg))
      by_cases hlt : s' < m
      · rw [if_pos hlt] at h1
        rw [if_pos (by omega)]
        exact h1
      · rw [if_neg hlt] at h1
        rw [if_neg (by omega)]
        exact h1
  · by_cases e : s' = m
    · subst e; exact ⟨b, hb⟩
    · exact h.had s' (by omega) h2
theorem RM.done (h : RM lo w k n G B F bs 3 W) (hlo : lo ≤ w.heap.size) {F' : Nat → Nat → Nat → Int} (hF : ∀ s q, q < n → F' s q = F s q) (h0 : ∀ s, F' s n = fun _ => 0) : ∃ B', Sq lo W k (n + 1) G B' F' := by
  refine ⟨fun s q => if q = n then (bs s).getD 0 else B s q, fun s hs => ⟨(h.sq.g s hs).1, ?_⟩, fun s q hs hq => ?_, h.sq.gi, fun s q s' q' hs hq hs' hq' e => ?_⟩
  · have := h.out s hs
    rw [if_pos hs] at this
    exact this
  · by_cases e : q = n
    · subst e
      obtain ⟨b, hb⟩ := h.had s hs hs
      obtain ⟨n1, n2⟩ := h.new s b hs hb
      rw [h0]
      simp only [if_pos, hb, Option.getD_some]
      exact ⟨by omega, n2⟩
    · rw [hF s q (by omega)]
      simp only [if_neg e]
      obtain ⟨r1, r2⟩ := h.sq.r s q hs (by omega)
      exact ⟨r1, (h.tch.block _ r2.lt (fun ⟨s', h1, h2⟩ => h.sq.apart h1 hs (by omega) h2.symm)).trans r2⟩
  · obtain ⟨b, hb⟩ := h.had s hs hs
    obtain ⟨b', hb'⟩ := h.had s' hs' hs'
    have hn := h.new s b hs hb
    have hn' := h.new s' b' hs' hb'
    simp only [hb, hb', Option.getD_some] at e
    by_cases e1 : q = n <;> by_cases e2 : q' = n
    · rw [if_pos e1, if_pos e2] at e
      subst e
      exact ⟨h.inj s s' b hs hs' hb hb', by omega⟩
    · rw [if_pos e1, if_neg e2] at e
      have := (h.sq.r s' q' hs' (by omega)).2.lt
      omega
    · rw [if_neg e1, if_pos e2] at e
      have := (h.sq.r s q hs (by omega)).2.lt
      omega
    · rw [if_neg e1, if_neg e2] at e
      exact h.sq.ri s q s' q' hs (by omega) hs' (by omega) e
theorem RM.bel (h : RM lo w k n G B F bs m W) (hlo : lo ≤ w.heap.size) : Below lo w W := h.tch.below (fun j ⟨s, hs, e⟩ => by rw [e]; exact (h.sq.g s hs).1) hlo
theorem RM.cell (h : RM lo w k n G B F bs m W) (hm : m < 3) (hn : n < k) : W.cell? ⟨G m, n, none⟩ = some (.slice none 0 0) ∧ W.frozen? ⟨G m, n, none⟩ = false := by
  have h1 := h.out m hm
  rw [if_neg (Nat.lt_irrefl _)] at h1
  refine ⟨h1.cell ?_, h1.frozen n⟩
  unfold outL
  rw [List.getElem?_map, List.getElem?_range hn]
  simp
end
theorem outL_zero (k : Nat) (B : Nat → Nat) : outL k 0 B = List.replicate k (.slice none 0 0) := by
  apply List.ext_getElem
  · simp [outL]
  · intro i h1 h2; simp [outL]
theorem made_out (w : World) (k : Nat) : Own 22 (w.alloc (.cells (madeCells #[.slice none 0 0] k) 22)) w.heap.size (outL k 0 fun _ => 0) := by
  unfold Own
  rw [made_slices', outL_zero]
theorem sq_of {lo k : Nat} {w : World} {b0 b1 b2 : Nat} (o0 : Own 22 w b0 (outL k 0 fun _ => 0)) (o1 : Own 22 w b1 (outL k 0 fun _ => 0)) (o2 : Own 22 w b2 (outL k 0 fun _ => 0)) (l0 : lo ≤ b0) (l1 : lo ≤ b1) (l2 : lo ≤ b2) (d0 : b0 ≠ b1) (d1 : b0 ≠ b2) (d2 : b1 ≠ b2) :
    Sq lo w k 0 (fun s => if s = 0 then b0 else if s = 1 then b1 else b2) (fun _ _ => 0) (fun _ _ _ => 0) := by
  refine ⟨fun s hs => ?_, fun s q _ hq => absurd hq (Nat.not_lt_zero _), fun s s' hs hs' e => ?_, fun s q s' q' _ hq => absurd hq (Nat.not_lt_zero _)⟩
  · rcases (by omega : s = 0 ∨ s = 1 ∨ s = 2) with rfl | rfl | rfl
    · exact ⟨l0, o0⟩
    · exact ⟨l1, o1⟩
    · exact ⟨l2, o2⟩
  · rcases (by omega : s = 0 ∨ s = 1 ∨ s = 2) with rfl | rfl | rfl <;> rcases (by omega : s' = 0 ∨ s' = 1 ∨ s' = 2) with rfl | rfl | rfl <;> simp at e <;> omega
theorem make_ints9 (n : Nat) (hn : n ≤ 1000) (w : World) : (Instr.makeSlice 22 (.int .i64 (n : Int)) (.int .i64 (n : Int))).run Try.prog w = .ok (.slice (some ⟨w.heap.size, 0, none⟩) n n) (w.alloc (.cells (madeCells #[.int .i64 0] n) 3)) := by
  obtain ⟨i, hi, hz, hs, hb⟩ := info_parts infoI
  exact make_ints 22 3 i Try.underlying22 hi hz hs hb n (by omega) w
/-- One number, three times: at (n, m), at (n, t), at (m, n). -/
def put3 (F : Nat → Nat → Nat → Int) (n m t : Nat) (y : Int) : Nat → Nat → Nat → Int := fun s => if s = 0 then updF (F 0) n m y else if s = 1 then updF (F 1) n t y else if s = 2 then updF (F 2) m n y else F s
theorem Sq.put3 {lo k n m t : Nat} {w : World} {G : Nat → Nat} {B : Nat → Nat → Nat} {F : Nat → Nat → Nat → Int} (h : Sq lo w k k G B F) (hn : n < k) (hm : m < k) (y : Int) :
    Sq lo (((w.setCell ⟨B 0 n, m, none⟩ (.int .i64 y)).setCell ⟨B 1 n, t, none⟩ (.int .i64 y)).setCell ⟨B 2 m, n, none⟩ (.int .i64 y)) k k G B (Go.Proofs.Ytnjalnnbdmmcmaa.put3 F n m t y) := by
  have h3 := ((h.put (s := 0) (i := n) (j := m) (by omega) hn y).put (s := 1) (i := n) (j := t) (by omega) hn y).put (s := 2) (i := m) (j := n) (by omega) hm y
  have e : (fun s' => if s' = 2 then updF ((fun s' => if s' = 1 then updF ((fun s' => if s' = 0 then updF (F 0) n m y else F s') 1) n t y else (fun s' => if s' = 0 then updF (F 0) n m y else F s') s') 2) m n y else (fun s' => if s' = 1 then updF ((fun s' => if s' = 0 then updF (F 0) n m y else F s') 1) n t y else (fun s' => if s' = 0 then updF (F 0) n m y else F s') s') s') = Go.Proofs.Ytnjalnnbdmmcmaa.put3 F n m t y := by
    funext s'
    unfold Go.Proofs.Ytnjalnnbdmmcmaa.put3
    by_cases h0 : s' = 0
    · subst h0; simp
    · by_cases h1 : s' = 1
      · subst h1; simp
      · by_cases h2 : s' = 2
        · subst h2; simp
        · simp [h0, h1, h2]
  rw [← e]
  exact h3
/-- What is written so far. -/
def Dn (k : Nat) (T : List Nat) (ent : Nat → Nat → Int) (F : Nat → Nat → Nat → Int) (n m : Nat) : Prop :=
  ∀ a b, a < k → b < k → (a < n ∨ a = n ∧ b < m) → F 0 a b = ent a b ∧ F 1 a (T[b]?.getD 0) = ent a b ∧ F 2 b a = ent a b
theorem Dn.step {k n m : Nat} {T : List Nat} {ent : Nat → Nat → Int} {F : Nat → Nat → Nat → Int} (h : Dn k T ent F n m) (hT : Okd k T) (hm : m < k) : Dn k T ent (put3 F n m (T[m]?.getD 0) (ent n m)) n (m + 1) := by
  have ti : ∀ i j, i < k → j < k → T[i]?.getD 0 = T[j]?.getD 0 → i = j := fun i j hi hj e => by
    have l1 : i < T.length := by rw [hT.1]; exact hi
    have l2 : j < T.length := by rw [hT.1]; exact hj
    rw [List.getElem?_eq_getElem l1, List.getElem?_eq_getElem l2] at e
    have e2 : T[i] = T[j] := e
    rcases Nat.lt_trichotomy i j with h | h | h
    · exact absurd e2 (List.pairwise_iff_getElem.1 hT.2.1 i j l1 l2 h)
    · exact h
    · exact absurd e2.symm (List.pairwise_iff_getElem.1 hT.2.1 j i l2 l1 h)
  intro a b ha hb hab
  show updF (F 0) n m (ent n m) a b = _ ∧ updF (F 1) n (T[m]?.getD 0) (ent n m) a (T[b]?.getD 0) = _ ∧ updF (F 2) m n (ent n m) b a = _
  unfold updF
  by_cases e : a = n ∧ b = m
  · obtain ⟨rfl, rfl⟩ := e
    simp
  · have h1 := h a b ha hb (by omega)
    rw [if_neg e, if_neg (fun q => e ⟨q.1, ti b m hb hm q.2⟩), if_neg (fun q => e ⟨q.2, q.1⟩)]
    exact h1
theorem put3_in {F : Nat → Nat → Nat → Int} {n m t : Nat} {y : Int} (hF : ∀ s a b, 0 ≤ F s a b ∧ F s a b ≤ 1000000) (hy : 0 ≤ y ∧ y ≤ 1000000) : ∀ s a b, 0 ≤ put3 F n m t y s a b ∧ put3 F n m t y s a b ≤ 1000000 := by
  intro s a b
  have u : ∀ (f : Nat → Nat → Int) i j, (∀ a b, 0 ≤ f a b ∧ f a b ≤ 1000000) → 0 ≤ updF f i j y a b ∧ updF f i j y a b ≤ 1000000 := fun f i j hf => by
    unfold updF
    split
    · exact hy
    · exact hf a b
  unfold put3
  split
  · exact u _ _ _ (hF 0)
  · split
    · exact u _ _ _ (hF 1)
    · split
      · exact u _ _ _ (hF 2)
      · exact hF s a b
/-- All three come to the same. -/
theorem Dn.all {k : Nat} {T : List Nat} {ent : Nat → Nat → Int} {F : Nat → Nat → Nat → Int} (h : Dn k T ent F k 0) (hT : Okd k T) (hk : k ≤ 12) (hF : ∀ s a b, 0 ≤ F s a b ∧ F s a b ≤ 1000000) :
    okM (matF k (F 0)) = true ∧ okM (matF k (F 1)) = true ∧ okM (matF k (F 2)) = true ∧ totL (matF k (F 1)) = totL (matF k (F 0)) ∧ totL (matF k (F 2)) = totL (matF k (F 0)) := by
  have o0 := matF_ok hk (hF 0)
  have o1 := matF_ok hk (hF 1)
  have o2 := matF_ok hk (hF 2)
  refine ⟨o0, o1, o2, ?_, ?_⟩
  · rw [totL_ok o1, totL_ok o0]
    exact cols_eq hT (fun i j hi hj => by obtain ⟨h1, h2, -⟩ := h i j hi hj (.inl hi); rw [h2, h1])
  · rw [totL_ok o2, totL_ok o0]
    have e : matF k (F 2) = matF k (fun i j => F 0 j i) := by
      unfold matF rowF
      apply List.map_congr_left
      intro i hi
      apply List.map_congr_left
      intro j hj
      have hi := List.mem_range.1 hi
      have hj := List.mem_range.1 hj
      obtain ⟨h1, -, h3⟩ := h j i hj hi (.inl hj)
      exact h3.trans h1.symm
    rw [e, turn_eq]
end Go.Proofs.Ytnjalnnbdmmcmaa
