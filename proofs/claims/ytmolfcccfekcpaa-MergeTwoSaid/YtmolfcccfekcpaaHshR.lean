/- Package hash, as mathematics: parts told by runs of sorted cells. -/
import Derived.Test.YtmolfcccfekcpaaDeal
namespace Go.Proofs.Ytmolfcccfekcpaa
open Go.RowKit
theorem byV_same {l l' : List Cel} (h : l.Perm l') (a v : Nat) : (byV l a v).Perm (byV l' a v) := h.filter _
theorem Fit.perm {d a : Nat} {l l' : List Cel} (h : Fit d a l) (hp : l.Perm l') : Fit d a l' :=
  ⟨fun c hc => h.len c (hp.mem_iff.2 hc), fun c hc => h.val c (hp.mem_iff.2 hc), fun c hc c' hc' => h.same c (hp.mem_iff.2 hc) c' (hp.mem_iff.2 hc')⟩
/-- In any order of cells the parts are the same. -/
theorem parts_perm (slots : Nat) : ∀ (f a : Nat) (l l' : List Cel), l.Perm l' → partsP slots f a l = partsP slots f a l'
  | 0, a, l, l', h => by unfold partsP; rw [grpR_perm h]
  | f + 1, a, l, l', h => by
    unfold partsP
    rw [grpR_perm h]
    split
    · rfl
    · congr 1
      funext v
      have hb := byV_same h a v
      rw [parts_perm slots f (a + 1) _ _ hb]
      by_cases e : byV l a v = []
      · rw [if_pos e, if_pos (by rw [e] at hb; exact hb.symm.eq_nil)]
      · rw [if_neg e, if_neg (fun e2 => e (by rw [e2] at hb; exact hb.eq_nil))]
/-- Cells that rise by a position's value. -/
def RiseV (a : Nat) (l : List Cel) : Prop := l.Pairwise fun x y => valK x a ≤ valK y a
/-- Runs of cells alike at a position. -/
def runsK (a : Nat) : Nat → List Cel → List (List Cel)
  | 0, _ => []
  | _ + 1, [] => []
  | f + 1, c :: t => (c :: t.takeWhile fun x => valK x a == valK c a) :: runsK a f (t.dropWhile fun x => valK x a == valK c a)
theorem take_eq {a : Nat} {v : Int} : ∀ {t : List Cel}, RiseV a t → (∀ x ∈ t, v ≤ valK x a) → t.takeWhile (fun x => valK x a == v) = t.filter (fun x => valK x a == v) ∧ t.dropWhile (fun x => valK x a == v) = t.filter (fun x => decide (v < valK x a))
  | [], _, _ => ⟨rfl, rfl⟩
  | x :: t, h, hv => by
    obtain ⟨h1, h2⟩ := List.pairwise_cons.1 h
    by_cases e : valK x a = v
    · obtain ⟨i1, i2⟩ := take_eq h2 fun y hy => hv y (by simp [hy])
      rw [List.takeWhile_cons_of_pos (by simp [e]), List.dropWhile_cons_of_pos (by simp [e]), List.filter_cons_of_pos (by simp [e]), List.filter_cons_of_neg (by simp; omega), i1, i2]
      exact ⟨rfl, rfl⟩
    · have hx := hv x (by simp)
      have ha : ∀ y ∈ t, v < valK y a := fun y hy => by have := h1 y hy; omega
      rw [List.takeWhile_cons_of_neg (by simp [e]), List.dropWhile_cons_of_neg (by simp [e]), List.filter_cons_of_neg (by simp [e]), List.filter_cons_of_pos (by simp; omega)]
      refine ⟨(List.filter_eq_nil_iff.2 fun y hy => by have := ha y hy; simp; omega).symm, ?_⟩
      rw [List.filter_eq_self.2 fun y hy => by simpa using ha y hy]
theorem RiseV.filter {a : Nat} {l : List Cel} (h : RiseV a l) (p : Cel → Bool) : RiseV a (l.filter p) := List.Pairwise.sublist List.filter_sublist h
/-- Runs of cells that rise, value by value. -/
theorem runs_by (a : Nat) : ∀ (n f u : Nat) (l : List Cel), l.length ≤ f → u + n = 16 → RiseV a l → (∀ x ∈ l, (u : Int) ≤ valK x a ∧ valK x a ≤ 15) → runsK a f l = ((List.range' u n).map (byV l a)).filter fun p => !p.isEmpty
  | 0, f, u, l, _, hu, _, hv => by
    have : l = [] := by
      cases l with
      | nil => rfl
      | cons x t => have := hv x (by simp); omega
    subst this
    cases f <;> rfl
  | n + 1, f, u, [], hf, hu, h, hv => by
    have hb : ∀ v, byV [] a v = [] := fun v => rfl
    have : ((List.range' u (n + 1)).map (byV [] a)).filter (fun p => !p.isEmpty) = [] := List.filter_eq_nil_iff.2 fun p hp => by
      obtain ⟨v, _, rfl⟩ := List.mem_map.1 hp
      simp [hb]
    rw [this]
    cases f <;> rfl
  | n + 1, f + 1, u, c :: t, hf, hu, h, hv => by
    obtain ⟨h1, h2⟩ := List.pairwise_cons.1 h
    have hc := hv c (by simp)
    by_cases e : valK c a = (u : Int)
    · have ht : ∀ x ∈ t, valK c a ≤ valK x a := h1
      obtain ⟨e1, e2⟩ := take_eq h2 ht
      have hb : byV (c :: t) a u = c :: t.filter (fun x => valK x a == valK c a) := by
        unfold byV
        rw [List.filter_cons_of_pos (by simp [e]), e]
      have hrest : ∀ v, u < v → byV (c :: t) a v = byV (t.filter (fun x => decide (valK c a < valK x a))) a v := fun v hvu => by
        unfold byV
        rw [List.filter_cons_of_neg (by simp [e]; omega), List.filter_filter]
        apply List.filter_congr
        intro x hx
        by_cases e3 : valK x a = (v : Int)
        · simp [e3, e]; omega
        · simp [e3]
      rw [List.range'_succ, List.map_cons, List.filter_cons_of_pos (by rw [hb]; rfl), hb]
      unfold runsK
      rw [e1, e2]
      congr 1
      rw [runs_by a n f (u + 1) _ (by
        have := List.length_filter_le (fun x => decide (valK c a < valK x a)) t
        simp only [List.length_cons] at hf
        omega) (by omega) (h2.filter _) (fun x hx => by
        obtain ⟨hx1, hx2⟩ := List.mem_filter.1 hx
        have := hv x (by simp [hx1])
        simp only [decide_eq_true_eq] at hx2
        omega)]
      congr 1
      apply List.map_congr_left
      intro v hv2
      have := List.mem_range'_1.1 hv2
      exact (hrest v (by omega)).symm
    · have hb : byV (c :: t) a u = [] := List.filter_eq_nil_iff.2 fun x hx => by
        rcases List.mem_cons.1 hx with rfl | hx2
        · simp [e]
        · have := h1 x hx2; simp; omega
      rw [List.range'_succ, List.map_cons, hb, List.filter_cons_of_neg (by simp)]
      exact runs_by a n (f + 1) (u + 1) (c :: t) hf (by omega) h fun x hx => by
        have := hv x hx
        rcases List.mem_cons.1 hx with rfl | hx2
        · omega
        · have := h1 x hx2; omega
theorem flat_filter (g : List Cel → List (List Cel)) : ∀ ps : List (List Cel), (ps.filter fun p => !p.isEmpty).flatMap g = ps.flatMap fun p => if p = [] then [] else g p
  | [] => rfl
  | [] :: ps => by rw [List.filter_cons_of_neg (by simp), List.flatMap_cons, if_pos rfl, flat_filter g ps]; rfl
  | (c :: p) :: ps => by rw [List.filter_cons_of_pos (by simp), List.flatMap_cons, List.flatMap_cons, if_neg (by simp), flat_filter g ps]
/-- Parts of cells that don't fit, told run by run. -/
theorem parts_runs {slots d f a : Nat} {l : List Cel} (hd : a + (f + 1) = d) (h : Fit d a l) (hr : RiseV a l) (hn : ¬ (grpR l).length ≤ slots) : partsP slots (f + 1) a l = (runsK a l.length l).flatMap (partsP slots f (a + 1)) := by
  rw [runs_by a 16 l.length 0 l (Nat.le_refl _) rfl hr (fun x hx => by have := valK_in h (by omega) hx; omega), flat_filter, List.flatMap_map]
  conv => lhs; unfold partsP
  rw [if_neg hn, ← List.range_eq_range']
/-- Where keys differ there is a position left. -/
theorem fit_lt {slots d a : Nat} {l : List Cel} (hs : 1 ≤ slots) (ha : a ≤ d) (h : Fit d a l) (hn : ¬ (grpR l).length ≤ slots) : a < d := by
  rcases Nat.lt_or_ge a d with h1 | h1
  · exact h1
  · obtain rfl : a = d := by omega
    have := fit_end h
    omega
theorem Fit.next {d a : Nat} {l : List Cel} (h : Fit d a l) (hb : a < d) (hs : ∀ c ∈ l, ∀ c' ∈ l, valK c a = valK c' a) : Fit d (a + 1) l :=
  ⟨h.len, h.val, fun c hc c' hc' => by rw [List.take_add_one, List.take_add_one, h.same c hc c' hc', key_at h hb hc, key_at h hb hc', hs c hc c' hc']⟩
/-- With no slot free a new key finds none. -/
theorem all_taken {ts : List (Option Cel)} (h : (cellsT ts).length = ts.length) : ∀ k, k < ts.length → ∃ c, ts[k]? = some (some c) := by
  induction ts with
  | nil => intro k hk; simp at hk
  | cons t ts ih =>
    unfold cellsT at h
    cases t with
    | none =>
      rw [List.filterMap_cons] at h
      simp only [id] at h
      have := List.length_filterMap_le id ts
      simp only [List.length_cons] at h
      omega
    | some c =>
      rw [List.filterMap_cons] at h
      simp only [id, List.length_cons] at h
      intro k hk
      cases k with
      | zero => exact ⟨c, rfl⟩
      | succ k =>
        obtain ⟨d, hd⟩ := ih (by unfold cellsT; omega) k (by simp at hk; omega)
        exact ⟨d, by simpa using hd⟩
/-- A cell finds a place, just if its key is there, or a slot is free. -/
theorem put_iff {ts : List (Option Cel)} (c : Cel) : (∃ ts', putT ts c = some ts') ↔ (∃ x ∈ cellsT ts, x.key = c.key) ∨ (cellsT ts).length < ts.length := by
  have hle := cells_le ts
  constructor
  · rintro ⟨ts', h⟩
    by_cases hl : (cellsT ts).length < ts.length
    · exact .inr hl
    · left
      have hall := all_taken (ts := ts) (by omega)
      unfold putT at h
      cases hs : seekT ts c.key with
      | none => rw [hs] at h; cases h
      | some k =>
        rcases seekF_has hs with h2 | ⟨x, h2, e⟩
        · obtain ⟨d, hd⟩ := hall k (List.getElem?_eq_some_iff.1 h2).1
          rw [hd] at h2; cases h2
        · exact ⟨x, mem_cells.2 ⟨k, h2⟩, e⟩
  · intro h
    cases hp : putT ts c with
    | some ts' => exact ⟨ts', rfl⟩
    | none =>
      obtain ⟨h1, h2⟩ := put_none hp
      rcases h with ⟨x, hx, e⟩ | h
      · exact absurd e (h2 x hx)
      · omega
theorem put_len {ts ts' : List (Option Cel)} {c : Cel} (hI : InvT ts) (h : putT ts c = some ts') : (cellsT ts').length = if (∃ x ∈ cellsT ts, x.key = c.key) then (cellsT ts).length else (cellsT ts).length + 1 := by
  obtain ⟨h1, h2, h3⟩ := put_grp hI h
  rw [← inv_len h1, h2, ← inv_len hI]
  split
  · rename_i he
    exact putC_len_old c _ (grpR_rise _) ((grp_mem_key _ c.key).2 he)
  · rename_i he
    exact putC_len_new c _ fun x hx e => he ((grp_mem_key _ c.key).1 ⟨x, hx, e⟩)
/-- The search, step by step from a key's place. -/
theorem seek_step (ts : List (Option Cel)) (key : List Int) (i : Nat) (hi : i < ts.length) : ∃ t, ts[(plcN key ts.length + i) % ts.length]? = some t ∧ seekF ts key ((plcN key ts.length + i) % ts.length) (ts.length - i) = match t with
    | none => some ((plcN key ts.length + i) % ts.length)
    | some c => if c.key = key then some ((plcN key ts.length + i) % ts.length) else seekF ts key ((plcN key ts.length + (i + 1)) % ts.length) (ts.length - (i + 1)) := by
  have hl : (plcN key ts.length + i) % ts.length < ts.length := Nat.mod_lt _ (by omega)
  refine ⟨ts[(plcN key ts.length + i) % ts.length], List.getElem?_eq_getElem hl, ?_⟩
  rw [show ts.length - i = (ts.length - (i + 1)) + 1 by omega]
  conv => lhs; unfold seekF
  rw [List.getElem?_eq_getElem hl]
  cases ts[(plcN key ts.length + i) % ts.length] with
  | none => rfl
  | some c =>
    simp only
    rw [Nat.mod_add_mod, Nat.add_assoc]
theorem seek_start (ts : List (Option Cel)) (key : List Int) (h : 0 < ts.length) : seekF ts key ((plcN key ts.length + 0) % ts.length) (ts.length - 0) = seekT ts key := by
  rw [Nat.add_zero, Nat.mod_eq_of_lt (plcN_lt key h), Nat.sub_zero]; rfl
theorem round_ne {a n i : Nat} (ha : a < n) (h1 : 0 < i) (h2 : i < n) : (a + i) % n ≠ a := by
  rcases Nat.lt_or_ge (a + i) n with h | h
  · rw [Nat.mod_eq_of_lt h]; omega
  · rw [Nat.mod_eq_sub_mod h, Nat.mod_eq_of_lt (by omega)]; omega
theorem round_eq {a n : Nat} (ha : a < n) : (a + n) % n = a := by rw [Nat.add_mod_right, Nat.mod_eq_of_lt ha]
theorem round_next (a i n : Nat) : ((a + i) % n + 1) % n = (a + (i + 1)) % n := by rw [Nat.mod_add_mod, Nat.add_assoc]
end Go.Proofs.Ytmolfcccfekcpaa
