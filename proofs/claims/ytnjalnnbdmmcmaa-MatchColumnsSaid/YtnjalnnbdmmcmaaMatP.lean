/- Who goes with whom, as mathematics: what is left to pay, the first of the least choices. -/
import Derived.Test.YtnjalnnbdmmcmaaBase
namespace Go.Proofs.Ytnjalnnbdmmcmaa
theorem snoc_ind {α : Type} {P : List α → Prop} (h0 : P []) (h1 : ∀ l x, P l → P (l ++ [x])) (l : List α) : P l := by
  have h : ∀ t : List α, P t.reverse := by
    intro t
    induction t with
    | nil => exact h0
    | cons a t ih => rw [List.reverse_cons]; exact h1 _ _ ih
  have := h l.reverse
  rwa [List.reverse_reverse] at this
/-- What column k of a row costs. -/
def cst (row : List Int) (k : Nat) : Int := row[k]?.getD 0
/-- The free columns, rising. -/
def free (m s : Nat) : List Nat := (List.range m).filter fun k => !s.testBit k
/-- The first of the least numbers; 0 of none. -/
def leastI : List Int → Int
  | [] => 0
  | x :: t => t.foldl (fun a b => if b < a then b else a) x
theorem leastI_snoc (l : List Int) (x : Int) : leastI (l ++ [x]) = if l = [] then x else if x < leastI l then x else leastI l := by
  cases l with
  | nil => simp [leastI]
  | cons a t => simp [leastI, List.foldl_append]; rfl
theorem leastI_mem (l : List Int) : l ≠ [] → leastI l ∈ l := by
  induction l using snoc_ind with
  | h0 => intro h; exact absurd rfl h
  | h1 l x ih =>
    intro _
    rw [leastI_snoc]
    split
    · simp
    · rename_i h
      split
      · simp
      · exact List.mem_append_left _ (ih h)
theorem leastI_le (l : List Int) : ∀ x ∈ l, leastI l ≤ x := by
  induction l using snoc_ind with
  | h0 => intro x h; cases h
  | h1 l y ih =>
    intro x hx
    rw [leastI_snoc]
    rcases List.mem_append.1 hx with h | h
    · have := ih x h
      have hne : l ≠ [] := fun e => by rw [e] at h; cases h
      rw [if_neg hne]
      split <;> omega
    · rw [List.mem_singleton.1 h]
      split
      · omega
      · split <;> omega
/-- What the rows that are left come to at least, where columns are taken. -/
def restR : List (List Int) → Nat → Int
  | [], _ => 0
  | row :: rows, s => leastI ((free row.length s).map fun k => cst row k + restR rows (s ||| 2 ^ k))
theorem restR_cons (row : List Int) (rows : List (List Int)) (s : Nat) : restR (row :: rows) s = leastI ((free row.length s).map fun k => cst row k + restR rows (s ||| 2 ^ k)) := rfl
/-- The first of the least choices. -/
def fst1 : List (List Int) → Nat → List Nat
  | [], _ => []
  | row :: rows, s => match (free row.length s).find? (fun k => decide (cst row k + restR rows (s ||| 2 ^ k) = restR (row :: rows) s)) with
    | some k => k :: fst1 rows (s ||| 2 ^ k)
    | none => fst1 rows s
/-- A choice that may be: of free columns, each once. -/
def Ok : List (List Int) → Nat → List Nat → Prop
  | [], _, [] => True
  | row :: rows, s, k :: ks => k < row.length ∧ s.testBit k = false ∧ Ok rows (s ||| 2 ^ k) ks
  | _, _, _ => False
/-- What a choice costs. -/
def sumC : List (List Int) → List Nat → Int
  | row :: rows, k :: ks => cst row k + sumC rows ks
  | _, _ => 0
theorem mem_free {m s k : Nat} : k ∈ free m s ↔ k < m ∧ s.testBit k = false := by
  unfold free
  rw [List.mem_filter, List.mem_range]
  simp
theorem free_sorted (m s : Nat) : (free m s).Pairwise (· < ·) := List.Pairwise.filter _ List.pairwise_lt_range
theorem or_bit (s k j : Nat) : (s ||| 2 ^ k).testBit j = (s.testBit j || decide (k = j)) := by
  rw [Nat.testBit_or, Nat.testBit_two_pow]
theorem free_nodup (m s : Nat) : (free m s).Nodup := (free_sorted m s).imp fun h => by omega
theorem free_or {m s k : Nat} (h : k ∈ free m s) : (free m (s ||| 2 ^ k)).length + 1 = (free m s).length := by
  have e : free m (s ||| 2 ^ k) = (free m s).erase k := by
    rw [(free_nodup m s).erase_eq_filter]
    unfold free
    rw [List.filter_filter]
    apply List.filter_congr
    intro j _
    rw [or_bit]
    by_cases hj : k = j
    · subst hj; simp
    · have : (j == k) = false := by simpa using fun e => hj e.symm
      simp [hj, bne, this]
  rw [e, List.length_erase_of_mem h]
  have := List.length_pos_of_mem h
  omega
theorem restR_le : ∀ (M : List (List Int)) (s : Nat) (c : List Nat), Ok M s c → restR M s ≤ sumC M c
  | [], _, [], _ => Int.le_refl _
  | [], _, _ :: _, h => h.elim
  | _ :: _, _, [], h => h.elim
  | row :: rows, s, k :: ks, ⟨h1, h2, h3⟩ => by
    have ih := restR_le rows _ ks h3
    have : restR (row :: rows) s ≤ cst row k + restR rows (s ||| 2 ^ k) := leastI_le _ _ (List.mem_map.2 ⟨k, mem_free.2 ⟨h1, h2⟩, rfl⟩)
    unfold sumC
    omega
/-- Rows of one length, no more of them than free columns. -/
def Room (M : List (List Int)) (m s : Nat) : Prop := (∀ r ∈ M, r.length = m) ∧ M.length ≤ (free m s).length
theorem Room.step {row : List Int} {rows : List (List Int)} {m s k : Nat} (h : Room (row :: rows) m s) (hk : k ∈ free m s) : Room rows m (s ||| 2 ^ k) := by
  refine ⟨fun r hr => h.1 r (List.mem_cons_of_mem _ hr), ?_⟩
  have := free_or hk
  have h2 := h.2
  simp only [List.length_cons] at h2
  omega
theorem restR_mem {row : List Int} {rows : List (List Int)} {m s : Nat} (h : Room (row :: rows) m s) : ∃ k ∈ free m s, restR (row :: rows) s = cst row k + restR rows (s ||| 2 ^ k) := by
  have hl := h.1 row (List.mem_cons_self ..)
  have h2 := h.2
  simp only [List.length_cons] at h2
  have hne : (free row.length s).map (fun k => cst row k + restR rows (s ||| 2 ^ k)) ≠ [] := by
    rw [hl]
    intro e
    have := congrArg List.length e
    rw [List.length_map] at this
    simp at this
    rw [this] at h2
    simp at h2
  obtain ⟨k, hk, e⟩ := List.mem_map.1 (leastI_mem _ hne)
  exact ⟨k, hl ▸ hk, e.symm⟩
theorem fst1_cons {row : List Int} {rows : List (List Int)} {m s : Nat} (h : Room (row :: rows) m s) :
    ∃ k, k ∈ free m s ∧ cst row k + restR rows (s ||| 2 ^ k) = restR (row :: rows) s ∧ (∀ j ∈ free m s, j < k → cst row j + restR rows (s ||| 2 ^ j) ≠ restR (row :: rows) s) ∧ fst1 (row :: rows) s = k :: fst1 rows (s ||| 2 ^ k) := by
  have hl := h.1 row (List.mem_cons_self ..)
  obtain ⟨k0, hk0, e0⟩ := restR_mem h
  cases hf : (free row.length s).find? (fun k => decide (cst row k + restR rows (s ||| 2 ^ k) = restR (row :: rows) s)) with
  | none =>
    rw [hl, List.find?_eq_none] at hf
    exact absurd (by simpa using e0.symm) (hf k0 hk0)
  | some k =>
    have h1 := List.find?_some hf
    have h2 := List.mem_of_find?_eq_some hf
    obtain ⟨_, as, bs, h3, h4⟩ := List.find?_eq_some_iff_append.1 hf
    rw [hl] at h2 h3
    have hs := free_sorted m s
    refine ⟨k, h2, by simpa using h1, fun j hj hlt => ?_, by rw [fst1, hf]⟩
    rw [h3] at hj hs
    rcases List.mem_append.1 hj with hj | hj
    · simpa using h4 j hj
    · rcases List.mem_cons.1 hj with rfl | hj
      · omega
      · have := (List.pairwise_cons.1 (List.pairwise_append.1 hs).2.1).1 j hj
        omega
theorem fst1_ok : ∀ (M : List (List Int)) (m s : Nat), Room M m s → Ok M s (fst1 M s) ∧ sumC M (fst1 M s) = restR M s
  | [], _, _, _ => ⟨trivial, rfl⟩
  | row :: rows, m, s, h => by
    obtain ⟨k, hk, e, -, hf⟩ := fst1_cons h
    obtain ⟨h1, h2⟩ := fst1_ok rows m (s ||| 2 ^ k) (h.step hk)
    rw [hf]
    have hl := h.1 row (List.mem_cons_self ..)
    obtain ⟨a, b⟩ := mem_free.1 hk
    refine ⟨⟨by rw [hl]; exact a, b, h1⟩, ?_⟩
    unfold sumC
    rw [h2, e]
/-- One choice is ahead of another. -/
def lexlt : List Nat → List Nat → Prop
  | a :: s, b :: t => a < b ∨ (a = b ∧ lexlt s t)
  | _, _ => False
theorem fst1_first : ∀ (M : List (List Int)) (m s : Nat) (c : List Nat), Room M m s → Ok M s c → sumC M c = restR M s → ¬ lexlt c (fst1 M s)
  | [], _, _, [], _, _, _ => fun h => h
  | [], _, _, _ :: _, _, h, _ => h.elim
  | _ :: _, _, _, [], _, h, _ => h.elim
  | row :: rows, m, s, k :: ks, h, ⟨h1, h2, h3⟩, he => by
    obtain ⟨k0, hk0, e, hfirst, hf⟩ := fst1_cons h
    rw [hf]
    have hl := h.1 row (List.mem_cons_self ..)
    have hk : k ∈ free m s := mem_free.2 ⟨hl ▸ h1, h2⟩
    have a := restR_le rows _ ks h3
    have b : restR (row :: rows) s ≤ cst row k + restR rows (s ||| 2 ^ k) := leastI_le _ _ (List.mem_map.2 ⟨k, by rw [hl]; exact hk, rfl⟩)
    have he' : cst row k + sumC rows ks = restR (row :: rows) s := he
    have ih := fst1_first rows m (s ||| 2 ^ k) ks (h.step hk) h3 (by omega)
    rintro (hlt | ⟨rfl, hlt⟩)
    · exact hfirst k hk hlt (by omega)
    · exact ih hlt
theorem Ok.len : ∀ {M : List (List Int)} {s : Nat} {c : List Nat}, Ok M s c → c.length = M.length
  | [], _, [], _ => rfl
  | [], _, _ :: _, h => h.elim
  | _ :: _, _, [], h => h.elim
  | _ :: rows, _, _ :: ks, ⟨_, _, h3⟩ => by simp [h3.len]
theorem lex_total : ∀ (c d : List Nat), c.length = d.length → lexlt c d ∨ c = d ∨ lexlt d c
  | [], [], _ => .inr (.inl rfl)
  | [], _ :: _, h => by simp at h
  | _ :: _, [], h => by simp at h
  | a :: c, b :: d, h => by
    rcases Nat.lt_trichotomy a b with h1 | rfl | h1
    · exact .inl (.inl h1)
    · rcases lex_total c d (by simpa using h) with h2 | rfl | h2
      · exact .inl (.inr ⟨rfl, h2⟩)
      · exact .inr (.inl rfl)
      · exact .inr (.inr (.inr ⟨rfl, h2⟩))
    · exact .inr (.inr (.inl h1))
/-- What is the least of all. -/
theorem restR_eq {M : List (List Int)} {m s : Nat} {c : List Nat} (h : Room M m s) (hc : Ok M s c) (hle : ∀ d, Ok M s d → sumC M c ≤ sumC M d) : restR M s = sumC M c := by
  have a := restR_le M s c hc
  obtain ⟨b, e⟩ := fst1_ok M m s h
  have := hle _ b
  omega
theorem fst1_eq {M : List (List Int)} {m s : Nat} {c : List Nat} (h : Room M m s) (hc : Ok M s c) (he : sumC M c = restR M s) (hf : ∀ d, Ok M s d → sumC M d = restR M s → ¬ lexlt d c) : fst1 M s = c := by
  obtain ⟨b, e⟩ := fst1_ok M m s h
  rcases lex_total (fst1 M s) c (by rw [b.len, hc.len]) with h1 | h1 | h1
  · exact absurd h1 (hf _ b e)
  · exact h1
  · exact absurd h1 (fst1_first M m s c h hc he)
/-- A choice that may be, told by its columns. -/
theorem Ok_iff : ∀ (M : List (List Int)) (m s : Nat) (c : List Nat), (∀ r ∈ M, r.length = m) → (Ok M s c ↔ c.length = M.length ∧ c.Nodup ∧ ∀ k ∈ c, k < m ∧ s.testBit k = false)
  | [], _, _, [], _ => by simp [Ok]
  | [], _, _, _ :: _, _ => by simp [Ok]
  | _ :: _, _, _, [], _ => by simp [Ok]
  | row :: rows, m, s, k :: ks, h => by
    have ih := Ok_iff rows m (s ||| 2 ^ k) ks (fun r hr => h r (List.mem_cons_of_mem _ hr))
    have hl := h row (List.mem_cons_self ..)
    unfold Ok
    rw [ih, hl]
    simp only [List.length_cons, List.nodup_cons, List.mem_cons, or_bit]
    constructor
    · rintro ⟨a, b, c, d, e⟩
      refine ⟨by omega, ⟨fun hm => ?_, d⟩, ?_⟩
      · have := (e k hm).2; simp at this
      · rintro j (rfl | hj)
        · exact ⟨a, b⟩
        · have := e j hj
          simp only [Bool.or_eq_false_iff] at this
          exact ⟨this.1, this.2.1⟩
    · rintro ⟨a, ⟨b, c⟩, d⟩
      refine ⟨(d k (.inl rfl)).1, (d k (.inl rfl)).2, by omega, c, fun j hj => ⟨(d j (.inr hj)).1, ?_⟩⟩
      simp only [Bool.or_eq_false_iff]
      refine ⟨(d j (.inr hj)).2, ?_⟩
      simp only [decide_eq_false_iff_not]
      rintro rfl
      exact b hj
/-! ### The reference's way: -1 where no choice may be -/
def stepT (row : List Int) (x : Nat → Int) (s : Nat) (b : Int) (k : Nat) : Int :=
  if s.testBit k then b else if 0 ≤ x (s ||| 2 ^ k) ∧ (b < 0 ∨ x (s ||| 2 ^ k) + cst row k < b) then x (s ||| 2 ^ k) + cst row k else b
def restT : List (List Int) → Nat → Int
  | [], _ => 0
  | row :: rows, s => (List.range row.length).foldl (stepT row (restT rows) s) (-1)
theorem cst_mem {row : List Int} {k : Nat} (h : k < row.length) : cst row k ∈ row := by
  unfold cst
  rw [List.getElem?_eq_getElem h]
  exact List.getElem_mem h
theorem fold_free (row : List Int) (x v : Nat → Int) (s : Nat) : ∀ m, (∀ k, k ∈ free m s → 0 ≤ x (s ||| 2 ^ k) ∧ x (s ||| 2 ^ k) + cst row k = v k ∧ 0 ≤ v k) →
    (List.range m).foldl (stepT row x s) (-1) = if free m s = [] then -1 else leastI ((free m s).map v)
  | 0, _ => rfl
  | m + 1, h => by
    have ih := fold_free row x v s m (fun k hk => h k (mem_free.2 ⟨by have := (mem_free.1 hk).1; omega, (mem_free.1 hk).2⟩))
    rw [List.range_succ, List.foldl_append, ih]
    have hf : free (m + 1) s = if s.testBit m then free m s else free m s ++ [m] := by
      unfold free
      rw [List.range_succ, List.filter_append, List.filter_cons, List.filter_nil]
      cases s.testBit m <;> simp
    rw [hf]
    show stepT row x s _ m = _
    unfold stepT
    by_cases hb : s.testBit m = true
    · rw [if_pos hb, if_pos hb]
    · rw [if_neg hb, if_neg hb]
      have hb' : s.testBit m = false := by simpa using hb
      obtain ⟨h1, h2, h3⟩ := h m (mem_free.2 ⟨by omega, hb'⟩)
      rw [List.map_append, List.map_cons, List.map_nil, leastI_snoc, if_neg (by simp : ¬ (free m s ++ [m] = [])), h2]
      by_cases he : free m s = []
      · rw [if_pos he, if_pos (show List.map v (free m s) = [] by rw [he]; rfl), if_pos ⟨h1, .inl (by omega)⟩]
      · rw [if_neg he, if_neg (show ¬ List.map v (free m s) = [] by simpa using he)]
        have hm := leastI_mem ((free m s).map v) (by simpa using he)
        obtain ⟨j, hj, e⟩ := List.mem_map.1 hm
        have hj3 := (h j (mem_free.2 ⟨by have := (mem_free.1 hj).1; omega, (mem_free.1 hj).2⟩)).2.2
        by_cases hlt : v m < leastI ((free m s).map v)
        · rw [if_pos ⟨h1, .inr hlt⟩, if_pos hlt]
        · rw [if_neg hlt, if_neg (fun hh => by have := hh.2; omega)]
theorem restT_eq : ∀ (M : List (List Int)) (m s : Nat), Room M m s → (∀ r ∈ M, ∀ x ∈ r, 0 ≤ x) → restT M s = restR M s ∧ 0 ≤ restR M s
  | [], _, _, _, _ => ⟨rfl, Int.le_refl _⟩
  | row :: rows, m, s, h, hp => by
    have hl := h.1 row (List.mem_cons_self ..)
    have ih := fun k (hk : k ∈ free m s) => restT_eq rows m (s ||| 2 ^ k) (h.step hk) (fun r hr => hp r (List.mem_cons_of_mem _ hr))
    have hc := fun k (hk : k ∈ free m s) => hp row (List.mem_cons_self ..) _ (cst_mem (row := row) (k := k) (by rw [hl]; exact (mem_free.1 hk).1))
    obtain ⟨k0, hk0, e0⟩ := restR_mem h
    have hne : free m s ≠ [] := fun e => by rw [e] at hk0; cases hk0
    refine ⟨?_, ?_⟩
    · unfold restT
      rw [hl, fold_free row (restT rows) (fun k => cst row k + restR rows (s ||| 2 ^ k)) s m (fun k hk => ?_), if_neg hne]
      · show _ = leastI _
        rw [hl]
      · have := ih k hk
        have := hc k hk
        refine ⟨by omega, ?_, ?_⟩
        · show _ = cst row k + restR rows (s ||| 2 ^ k)
          omega
        · show 0 ≤ cst row k + restR rows (s ||| 2 ^ k)
          omega
    · rw [e0]
      have := ih k0 hk0
      have := hc k0 hk0
      omega
/-! ### How far the sums go -/
theorem leastI_in {l : List Int} {a b : Int} (h0 : a ≤ 0) (h1 : 0 ≤ b) (h : ∀ x ∈ l, a ≤ x ∧ x ≤ b) : a ≤ leastI l ∧ leastI l ≤ b := by
  by_cases e : l = []
  · subst e; exact ⟨h0, h1⟩
  · exact h _ (leastI_mem l e)
theorem restR_in : ∀ (M : List (List Int)) (s : Nat), (∀ r ∈ M, ∀ x ∈ r, 0 ≤ x ∧ x ≤ 1000000) → 0 ≤ restR M s ∧ restR M s ≤ 1000000 * M.length
  | [], _, _ => by simp [restR]
  | row :: rows, s, h => by
    unfold restR
    refine leastI_in (Int.le_refl _) (by simp only [List.length_cons]; omega) ?_
    intro x hx
    obtain ⟨k, hk, rfl⟩ := List.mem_map.1 hx
    have a := restR_in rows (s ||| 2 ^ k) (fun r hr => h r (List.mem_cons_of_mem _ hr))
    have b := h row (List.mem_cons_self ..) _ (cst_mem (mem_free.1 hk).1)
    simp only [List.length_cons]
    omega
/-! ### How many are taken -/
def pcN (s : Nat) : Nat := (List.range 12).countP s.testBit
theorem pcN_or {s k : Nat} (h : s.testBit k = false) (hk : k < 12) : pcN (s ||| 2 ^ k) = pcN s + 1 := by
  have a : (free 12 s).length + pcN s = 12 := by
    unfold free pcN
    have := List.length_eq_countP_add_countP (s.testBit) (l := List.range 12)
    rw [List.length_range] at this
    rw [← List.countP_eq_length_filter]
    have e : List.countP (fun k => !s.testBit k) (List.range 12) = List.countP (fun a => decide ¬ (s.testBit a = true)) (List.range 12) := by
      apply List.countP_congr; intro x _; simp
    omega
  have b : (free 12 (s ||| 2 ^ k)).length + pcN (s ||| 2 ^ k) = 12 := by
    unfold free pcN
    have := List.length_eq_countP_add_countP ((s ||| 2 ^ k).testBit) (l := List.range 12)
    rw [List.length_range] at this
    rw [← List.countP_eq_length_filter]
    have e : List.countP (fun j => !(s ||| 2 ^ k).testBit j) (List.range 12) = List.countP (fun a => decide ¬ ((s ||| 2 ^ k).testBit a = true)) (List.range 12) := by
      apply List.countP_congr; intro x _; simp
    omega
  have c := free_or (m := 12) (mem_free.2 ⟨hk, h⟩)
  omega
/-- What the program lays down for each set of taken columns. -/
def restV (M : List (List Int)) (s : Nat) : Int := restR (M.drop (pcN s)) s
theorem restV_row {M : List (List Int)} {s : Nat} {row : List Int} (h : M[pcN s]? = some row) (hm : row.length ≤ 12) : restV M s = leastI ((free row.length s).map fun k => cst row k + restV M (s ||| 2 ^ k)) := by
  obtain ⟨hlt, rfl⟩ := List.getElem?_eq_some_iff.1 h
  unfold restV
  rw [List.drop_eq_getElem_cons hlt, restR_cons]
  congr 1
  apply List.map_congr_left
  intro k hk
  obtain ⟨a, b⟩ := mem_free.1 hk
  rw [pcN_or b (by omega)]
theorem restV_none {M : List (List Int)} {s : Nat} (h : M.length ≤ pcN s) : restV M s = 0 := by
  unfold restV
  rw [List.drop_eq_nil_of_le h]
  rfl
theorem restV_in (M : List (List Int)) (s : Nat) (h : ∀ r ∈ M, ∀ x ∈ r, 0 ≤ x ∧ x ≤ 1000000) (hl : M.length ≤ 12) : 0 ≤ restV M s ∧ restV M s ≤ 12000000 := by
  have := restR_in (M.drop (pcN s)) s (fun r hr => h r (List.mem_of_mem_drop hr))
  unfold restV
  rw [List.length_drop] at this
  omega
end Go.Proofs.Ytnjalnnbdmmcmaa
