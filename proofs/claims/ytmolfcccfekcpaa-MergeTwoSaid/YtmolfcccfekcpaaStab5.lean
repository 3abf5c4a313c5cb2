/- The merging of two sorted stretches in place, as mathematics. -/
import Derived.Sort.LotA
import Derived.Shelf.SlSortCmp.KitK
import Derived.Sort.WalkB2
import Derived.Sort.WalkB12
import Derived.Deep.LoopGhost
import Derived.Lib.Hide
import Derived.Deep.CutBlock
import Derived.Deep.CutRange
import Derived.Deep.DeepCutAuto
import Derived.Test.YtmolfcccfekcpaaChecked
namespace Go.Proofs.Ytmolfcccfekcpaa.Stab
open Go.Sort
variable {α : Type} [Inhabited α]
/-- i places from a on, and from b on, have changed places. -/
def Exch (a b i : Nat) (d dk : Array α) : Prop := dk.size = d.size ∧ ∀ x, dk[x]! = if a ≤ x ∧ x < a + i then d[x - a + b]! else if b ≤ x ∧ x < b + i then d[x - b + a]! else d[x]!
theorem Exch.zero (a b : Nat) (d : Array α) : Exch a b 0 d d := ⟨rfl, fun x => by rw [if_neg (by omega), if_neg (by omega)]⟩
theorem Exch.step {a b i : Nat} {d dk : Array α} (h : Exch a b i d dk) (h1 : a + i < b) (h2 : b + i < d.size) : Exch a b (i + 1) d (swp dk (a + i) (b + i)) := by
  obtain ⟨hs, he⟩ := h
  refine ⟨by rw [size_swp]; exact hs, fun x => ?_⟩
  rw [swp_get _ (by omega) (by omega)]
  by_cases c1 : x = b + i
  · subst c1
    rw [if_pos rfl, he, if_neg (by omega), if_neg (by omega), if_neg (by omega), if_pos (by omega)]
    congr 1
    omega
  · rw [if_neg c1]
    by_cases c2 : x = a + i
    · subst c2
      rw [if_pos rfl, he, if_neg (by omega), if_neg (by omega), if_pos (by omega)]
      congr 1
      omega
    · rw [if_neg c2, he]
      by_cases c3 : a ≤ x ∧ x < a + i
      · rw [if_pos c3, if_pos (by omega)]
      · rw [if_neg c3, if_neg (show ¬ (a ≤ x ∧ x < a + (i + 1)) by omega)]
        by_cases c4 : b ≤ x ∧ x < b + i
        · rw [if_pos c4, if_pos (by omega)]
        · rw [if_neg c4, if_neg (by omega)]
theorem PermIn.swp {lo hi i j : Nat} {d dk : Array α} (h : PermIn lo hi d dk) (h1 : lo ≤ i) (h2 : i < hi) (h3 : lo ≤ j) (h4 : j < hi) (h5 : hi ≤ d.size) : PermIn lo hi d (swp dk i j) :=
  permIn_trans _ _ _ _ _ h (swp_permIn _ _ _ _ _ h1 h2 h3 h4 (by rw [h.1]; exact h5))
/-- What a rotation makes of dk, where i and j places are left about m. -/
def rotV (m i j : Nat) (dk : Array α) (x : Nat) : α := if m - i ≤ x ∧ x < m - i + j then dk[x + i]! else if m - i + j ≤ x ∧ x < m + j then dk[x - j]! else dk[x]!
theorem rot_left {m i j : Nat} {dk d2 : Array α} (hi : i ≤ m) (h : j < i) (h2 : Exch (m - i) m j dk d2) (x : Nat) : rotV m (i - j) j d2 x = rotV m i j dk x := by
  obtain ⟨_, he⟩ := h2
  unfold rotV
  rw [he, he, he]
  repeat' split
  all_goals first | (exfalso; omega) | (congr 1; omega) | rfl
theorem rot_right {m i j : Nat} {dk d2 : Array α} (hi : i ≤ m) (h : i < j) (h2 : Exch (m - i) (m + j - i) i dk d2) (x : Nat) : rotV m i (j - i) d2 x = rotV m i j dk x := by
  obtain ⟨_, he⟩ := h2
  unfold rotV
  rw [he, he, he]
  repeat' split
  all_goals first | (exfalso; omega) | (congr 1; omega) | rfl
theorem rot_end {m i : Nat} {dk d2 : Array α} (hi : i ≤ m) (h2 : Exch (m - i) m i dk d2) (x : Nat) : d2[x]! = rotV m i i dk x := by
  obtain ⟨_, he⟩ := h2
  unfold rotV
  rw [he]
  repeat' split
  all_goals first | (exfalso; omega) | (congr 1; omega) | rfl
section
variable {lt : α → α → Bool}
omit [Inhabited α] in
theorem lt_le (hS : SWO lt) {x y z : α} (h1 : lt x y = true) (h2 : lt x z = false) : lt z y = true := by
  cases h : lt z y with
  | true => rfl
  | false => rw [hS.ntrans _ _ _ h2 h] at h1; cases h1
omit [Inhabited α] in
theorem le_lt (hS : SWO lt) {x y z : α} (h1 : lt x y = true) (h2 : lt z y = false) : lt x z = true := by
  cases h : lt x z with
  | true => rfl
  | false => rw [hS.ntrans _ _ _ h h2] at h1; cases h1
/-- One element to the left of a sorted stretch is laid into it. -/
theorem one_left (hS : SWO lt) {a b i : Nat} {d d' : Array α} (hab : a + 1 ≤ i) (hib : i ≤ b) (hs : SortedIn lt (a + 1) b d) (h1 : ∀ x, a + 1 ≤ x → x < i → lt d[x]! d[a]! = true) (h2 : ∀ x, i ≤ x → x < b → lt d[x]! d[a]! = false)
    (he : ∀ x, d'[x]! = if a ≤ x ∧ x < i - 1 then d[x + 1]! else if x = i - 1 then d[a]! else d[x]!) : SortedIn lt a b d' := by
  intro p q hp hpq hq
  rw [he, he]
  by_cases c1 : q < i - 1
  · rw [if_pos (by omega), if_pos (by omega)]; exact hs _ _ (by omega) (by omega) (by omega)
  · rw [if_neg (show ¬ (a ≤ q ∧ q < i - 1) by omega)]
    by_cases c2 : q = i - 1
    · rw [if_pos c2, if_pos (by omega)]; exact hS.asymmA (h1 _ (by omega) (by omega))
    · rw [if_neg c2]
      by_cases c3 : p < i - 1
      · rw [if_pos (by omega)]; exact hs _ _ (by omega) (by omega) (by omega)
      · rw [if_neg (by omega)]
        by_cases c4 : p = i - 1
        · rw [if_pos c4]; exact h2 _ (by omega) hq
        · rw [if_neg c4]; exact hs _ _ (by omega) (by omega) hq
/-- One element to the right. -/
theorem one_right (hS : SWO lt) {a m i : Nat} {d d' : Array α} (hai : a ≤ i) (him : i ≤ m) (hs : SortedIn lt a m d) (h1 : ∀ x, a ≤ x → x < i → lt d[m]! d[x]! = false) (h2 : ∀ x, i ≤ x → x < m → lt d[m]! d[x]! = true)
    (he : ∀ x, d'[x]! = if x = i then d[m]! else if i < x ∧ x ≤ m then d[x - 1]! else d[x]!) : SortedIn lt a (m + 1) d' := by
  intro p q hp hpq hq
  rw [he, he]
  by_cases c1 : q = i
  · rw [if_pos c1, if_neg (by omega), if_neg (by omega)]; exact h1 _ hp (by omega)
  · rw [if_neg c1]
    by_cases c2 : q < i
    · rw [if_neg (by omega), if_neg (by omega), if_neg (by omega)]; exact hs _ _ hp hpq (by omega)
    · rw [if_pos (by omega)]
      by_cases c3 : p = i
      · rw [if_pos c3]; exact hS.asymmA (h2 _ (by omega) (by omega))
      · rw [if_neg c3]
        by_cases c4 : p < i
        · rw [if_neg (by omega)]; exact hs _ _ hp (by omega) (by omega)
        · rw [if_pos (by omega)]; exact hs _ _ (by omega) (by omega) (by omega)
/-- The walk of an element to the right; to the left. -/
theorem bub_right {a k : Nat} {d dk : Array α} (hak : a ≤ k) (hk : k + 1 < d.size) (hs : dk.size = d.size) (he : ∀ x, dk[x]! = if a ≤ x ∧ x < k then d[x + 1]! else if x = k then d[a]! else d[x]!) (x : Nat) :
    (swp dk k (k + 1))[x]! = if a ≤ x ∧ x < k + 1 then d[x + 1]! else if x = k + 1 then d[a]! else d[x]! := by
  rw [swp_get _ (by omega) (by omega), he, he, he]
  repeat' split
  all_goals first | (exfalso; omega) | (congr 1; omega) | rfl
theorem bub_left {m k : Nat} {d dk : Array α} (hkm : k ≤ m) (h0 : 0 < k) (hk : m < d.size) (hs : dk.size = d.size) (he : ∀ x, dk[x]! = if x = k then d[m]! else if k < x ∧ x ≤ m then d[x - 1]! else d[x]!) (x : Nat) :
    (swp dk k (k - 1))[x]! = if x = k - 1 then d[m]! else if k - 1 < x ∧ x ≤ m then d[x - 1]! else d[x]! := by
  rw [swp_get _ (by omega) (by omega), he, he, he]
  repeat' split
  all_goals first | (exfalso; omega) | (congr 1; omega) | rfl
/-- What the search among both stretches is over: it turns once. -/
theorem search_up (hS : SWO lt) {a m b p c c' : Nat} {d : Array α} (hs1 : SortedIn lt a m d) (hs2 : SortedIn lt m b d) (h1 : a ≤ c) (h2 : c ≤ c') (h3 : c' < m) (h4 : m ≤ p - c') (h5 : p - c < b) (h6 : c' ≤ p) (hG : lt d[p - c]! d[c]! = true) : lt d[p - c']! d[c']! = true := by
  rcases Nat.lt_or_eq_of_le h2 with h | rfl
  · have e1 := hs1 c c' h1 h h3
    have e2 := hs2 (p - c') (p - c) h4 (by omega) h5
    cases h0 : lt d[p - c']! d[c']! with
    | true => rfl
    | false =>
      have := hS.ntrans _ _ _ (hS.ntrans _ _ _ e2 h0) e1
      rw [this] at hG; cases hG
  · exact hG
/-- Behind the rotation: both halves consist of two sorted stretches, and nothing in the second is less than what is in the first. -/
theorem halves (hS : SWO lt) {a m b s mid e : Nat} {d d' : Array α} (ham : a < m) (hmb : m < b) (has : a ≤ s) (hsm : s ≤ m) (he : e = mid + m - s) (hme : m ≤ e) (heb : e ≤ b) (hmid : mid = (a + b) / 2) (hs1 : SortedIn lt a m d) (hs2 : SortedIn lt m b d)
    (hc1 : s = a ∨ e = b ∨ (lt d[e]! d[s - 1]! = false)) (hc2 : s = m ∨ e = m ∨ lt d[e - 1]! d[s]! = true)
    (hr : ∀ x, d'[x]! = rotV m (m - s) (e - m) d x) : SortedIn lt a s d' ∧ SortedIn lt s mid d' ∧ SortedIn lt mid e d' ∧ SortedIn lt e b d' ∧ ∀ x y, a ≤ x → x < mid → mid ≤ y → y < b → lt d'[y]! d'[x]! = false := by
  have r1 : ∀ x, x < s → d'[x]! = d[x]! := fun x hx => by rw [hr]; unfold rotV; rw [if_neg (by omega), if_neg (by omega)]
  have r2 : ∀ x, s ≤ x → x < mid → d'[x]! = d[x + (m - s)]! := fun x h1 h2 => by rw [hr]; unfold rotV; rw [if_pos (by omega)]
  have r3 : ∀ x, mid ≤ x → x < e → d'[x]! = d[x - (e - m)]! := fun x h1 h2 => by rw [hr]; unfold rotV; rw [if_neg (by omega), if_pos (by omega)]
  have r4 : ∀ x, e ≤ x → d'[x]! = d[x]! := fun x hx => by rw [hr]; unfold rotV; rw [if_neg (by omega), if_neg (by omega)]
  have L : ∀ x y, a ≤ x → x ≤ y → y < m → lt d[y]! d[x]! = false := fun x y h1 h2 h3 => by
    rcases Nat.lt_or_eq_of_le h2 with h | rfl
    · exact hs1 _ _ h1 h h3
    · exact hS.irrefl _
  have R : ∀ x y, m ≤ x → x ≤ y → y < b → lt d[y]! d[x]! = false := fun x y h1 h2 h3 => by
    rcases Nat.lt_or_eq_of_le h2 with h | rfl
    · exact hs2 _ _ h1 h h3
    · exact hS.irrefl _
  have c1 : ∀ x y, a ≤ x → x < s → e ≤ y → y < b → lt d[y]! d[x]! = false := fun x y h1 h2 h3 h4 => by
    rcases hc1 with h | h | h
    · omega
    · omega
    · exact hS.ntrans _ _ _ (hS.ntrans _ _ _ (R e y hme h3 h4) h) (L x (s - 1) h1 (by omega) (by omega))
  have c2 : ∀ x y, m ≤ x → x < e → s ≤ y → y < m → lt d[y]! d[x]! = false := fun x y h1 h2 h3 h4 => by
    rcases hc2 with h | h | h
    · omega
    · omega
    · have h0 := hS.asymmA h
      exact hS.ntrans _ _ _ (hS.ntrans _ _ _ (L s y has h3 h4) h0) (R x (e - 1) h1 (by omega) (by omega))
  refine ⟨fun p q h1 h2 h3 => ?_, fun p q h1 h2 h3 => ?_, fun p q h1 h2 h3 => ?_, fun p q h1 h2 h3 => ?_, fun x y h1 h2 h3 h4 => ?_⟩
  · rw [r1 _ h3, r1 _ (by omega)]; exact hs1 _ _ h1 h2 (by omega)
  · rw [r2 _ h1 (by omega), r2 _ (by omega) h3]; exact hs2 _ _ (by omega) (by omega) (by omega)
  · rw [r3 _ h1 (by omega), r3 _ (by omega) h3]; exact hs1 _ _ (by omega) (by omega) (by omega)
  · rw [r4 _ h1, r4 _ (by omega)]; exact hs2 _ _ (by omega) (by omega) h3
  · rcases Nat.lt_or_ge x s with k1 | k1
    · rw [r1 _ k1]
      rcases Nat.lt_or_ge y e with k2 | k2
      · rw [r3 _ h3 k2]; exact L _ _ h1 (by omega) (by omega)
      · rw [r4 _ k2]; exact c1 _ _ h1 k1 k2 h4
    · rw [r2 _ k1 h2]
      rcases Nat.lt_or_ge y e with k2 | k2
      · rw [r3 _ h3 k2]; exact c2 _ _ (by omega) (by omega) (by omega) (by omega)
      · rw [r4 _ k2]; exact R _ _ (by omega) (by omega) h4
/-- Both halves sorted: all is. -/
theorem both (lo mid hi : Nat) {d1 d2 d3 : Array α} (hsz : hi ≤ d1.size) (hx : ∀ x y, lo ≤ x → x < mid → mid ≤ y → y < hi → lt d1[y]! d1[x]! = false)
    (p1 : PermIn lo mid d1 d2) (p2 : PermIn mid hi d2 d3) (s1 : SortedIn lt lo mid d2) (s2 : SortedIn lt mid hi d3) : SortedIn lt lo hi d3 := by
  have e1 : ∀ x, x < mid → d3[x]! = d2[x]! := fun x hx => p2.2.1 x (.inl hx)
  have e2 : ∀ y, mid ≤ y → d2[y]! = d1[y]! := fun y hy => p1.2.1 y (.inr hy)
  have cr : ∀ x, lo ≤ x → x < mid → ∀ y, mid ≤ y → y < hi → lt d3[y]! d3[x]! = false := by
    have a1 : ∀ x, lo ≤ x → x < mid → ∀ y, mid ≤ y → y < hi → lt d2[y]! d2[x]! = false := fun x k1 k2 y k3 k4 => by
      rw [e2 y k3]
      exact permIn_all d1 d2 lo mid (fun v => lt d1[y]! v = false) (by omega) p1 (fun i i1 i2 => hx i y i1 i2 k3 k4) x k1 k2
    intro x k1 k2 y k3 k4
    rw [e1 x k2]
    exact permIn_all d2 d3 mid hi (fun v => lt v d2[x]! = false) (by rw [p1.1]; exact hsz) p2 (fun i i1 i2 => a1 x k1 k2 i i1 i2) y k3 k4
  intro p q k1 k2 k3
  rcases Nat.lt_or_ge q mid with c | c
  · rw [e1 q c, e1 p (by omega)]; exact s1 _ _ k1 k2 c
  · rcases Nat.lt_or_ge p mid with c' | c'
    · exact cr p k1 c' q c k3
    · exact s2 _ _ c' k2 k3
end
end Go.Proofs.Ytmolfcccfekcpaa.Stab
/- What the walks of the merging ask of a program. -/
namespace Go.Proofs.Ytmolfcccfekcpaa.Stab
open Go.Shelf Go.RowKit Go.Lib Go.Sort
end Go.Proofs.Ytmolfcccfekcpaa.Stab
/- Stretches of a row of cells change places; a row turns about a place. -/
namespace Go.Proofs.Ytmolfcccfekcpaa.Stab
open Go.Shelf Go.RowKit Go.Lib Go.Sort
variable {P : Program} {α : Type} [Inhabited α]
end Go.Proofs.Ytmolfcccfekcpaa.Stab
/- The merging of two sorted stretches in place: where one of them is of one cell. -/
namespace Go.Proofs.Ytmolfcccfekcpaa.Stab
open Go.Shelf Go.RowKit Go.Lib Go.Sort
variable {P : Program} {α : Type} [Inhabited α]
end Go.Proofs.Ytmolfcccfekcpaa.Stab
/- The merging of two sorted stretches in place: where the other is of one cell. -/
namespace Go.Proofs.Ytmolfcccfekcpaa.Stab
open Go.Shelf Go.RowKit Go.Lib Go.Sort
variable {P : Program} {α : Type} [Inhabited α]
end Go.Proofs.Ytmolfcccfekcpaa.Stab
/- The merging of two sorted stretches in place. -/
namespace Go.Proofs.Ytmolfcccfekcpaa.Stab
open Go.Shelf Go.RowKit Go.Lib Go.Sort
variable {P : Program} {α : Type} [Inhabited α]
end Go.Proofs.Ytmolfcccfekcpaa.Stab
/- slices.SortStableFunc of cells, 60 at most. -/
namespace Go.Proofs.Ytmolfcccfekcpaa.Stab
open Go.Shelf Go.RowKit Go.Lib Go.Sort
variable {P : Program} {α : Type} [Inhabited α]
/-- 'cmp' by its contract, asked at a later world. -/
theorem cmpLays_at {g : Nat} {cb : Array Value} {enc : α → List Value} {k : Nat} {cf : α → α → Int} {blk off size : Nat} {w0 w : World} {d : Array α} (h : CmpLays P g cb enc k cf blk off size w0) (hS : SWK enc k w0 blk off d w) (hblk : blk < w0.heap.size) (hs : d.size = size) : CmpLays P g cb enc k cf blk off size w := fun m os dk hd x y => by
  obtain ⟨n, os', e⟩ := hS.on hblk m dk os (hd.trans hs.symm)
  rw [e]
  exact h n os' dk hd x y
end Go.Proofs.Ytmolfcccfekcpaa.Stab
