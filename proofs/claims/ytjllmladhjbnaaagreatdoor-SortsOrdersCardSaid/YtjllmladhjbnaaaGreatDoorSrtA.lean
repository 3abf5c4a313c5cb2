/- Plans by sorting, as mathematics: levels, costs, edges; they are right. -/
import Derived.Test.YtjllmladhjbnaaaGreatDoorSize
import Derived.Test.YtjllmladhjbnaaaGreatDoorMatUA
namespace Go.Proofs.YtjllmladhjbnaaaGreatDoor
open Go.RowKit
/-- How a set's cuboid is made. -/
structure Ed where
  s : Int
  p : Int
  sc : Bool
/-- The sets of one level, in order. -/
def levL (d l : Nat) : List Int := (setsL d).filter fun s => lvl s == (l : Int)
/-- The first of the least. -/
def cheapL (f : Int → Int) : List Int → Int
  | [] => 0
  | x :: t => t.foldl (fun b p => if f p < f b then p else b) x
theorem cheapL_snoc (f : Int → Int) (l : List Int) (x : Int) (h : l ≠ []) : cheapL f (l ++ [x]) = if f x < f (cheapL f l) then x else cheapL f l := by
  cases l with
  | nil => exact absurd rfl h
  | cons a t => simp [cheapL, List.foldl_append]; rfl
theorem cheapL_spec (f : Int → Int) (l : List Int) : l ≠ [] → cheapL f l ∈ l ∧ ∀ x ∈ l, f (cheapL f l) ≤ f x := by
  induction l using snoc_ind with
  | h0 => intro h; exact absurd rfl h
  | h1 l x ih =>
    intro _
    by_cases h : l = []
    · subst h
      exact ⟨by simp [cheapL], fun y hy => by simp at hy; subst hy; exact Int.le_refl _⟩
    · obtain ⟨a, b⟩ := ih h
      rw [cheapL_snoc f l x h]
      split
      · refine ⟨by simp, fun y hy => ?_⟩
        rcases List.mem_append.1 hy with g | g
        · have := b y g; omega
        · simp at g; subst g; exact Int.le_refl _
      · refine ⟨List.mem_append_left _ a, fun y hy => ?_⟩
        rcases List.mem_append.1 hy with g | g
        · exact b y g
        · simp at g; subst g; omega
/-- What a set is made of where it must be sorted for. -/
def own (cs : List Int) (n s : Int) : Int := cheapL (sortB cs n) (parL s cs.length)
def scanC (cs : List Int) (n s p : Int) : Int := if p ∈ parL s cs.length then sizeB cs n p else 1000000
def rowM (cs : List Int) (n : Int) (l i : Nat) (s : Int) : List Int :=
  (levL cs.length (l + 1)).map (scanC cs n s) ++ (List.range (levL cs.length l).length).map fun k => if k = i then sortB cs n (own cs n s) else 1000000
def costM (cs : List Int) (n : Int) (l : Nat) : List (List Int) := (levL cs.length l).mapIdx (rowM cs n l)
def edM (cs : List Int) (n : Int) (l : Nat) (s : Int) (k : Nat) : Ed :=
  if k < (levL cs.length (l + 1)).length then ⟨s, (levL cs.length (l + 1)).getD k 0, true⟩ else ⟨s, own cs n s, false⟩
def edsM (cs : List Int) (n : Int) (l : Nat) : List Ed := List.zipWith (edM cs n l) (levL cs.length l) (fst1 (costM cs n l) 0)
def topE (d : Nat) : Ed := ⟨fullB d, -1, false⟩
def planM (cs : List Int) (n : Int) : List Ed := topE cs.length :: (List.range cs.length).flatMap fun t => edsM cs n (cs.length - 1 - t)
/-! ### Levels -/
theorem lev_par : ∀ d, 1 ≤ d → d ≤ 4 → ∀ l, l < d → ∀ s ∈ levL d l, parL s d ≠ [] ∧ ∀ p ∈ parL s d, p ∈ levL d (l + 1) := by
  intro d h1 h2
  rcases (by omega : d = 1 ∨ d = 2 ∨ d = 3 ∨ d = 4) with rfl | rfl | rfl | rfl <;> decide +kernel
theorem lev_len : ∀ d, 1 ≤ d → d ≤ 4 → ∀ l, l < d → 1 ≤ (levL d l).length ∧ (levL d l).length ≤ 6 ∧ (levL d (l + 1)).length + (levL d l).length ≤ 12 := by
  intro d h1 h2
  rcases (by omega : d = 1 ∨ d = 2 ∨ d = 3 ∨ d = 4) with rfl | rfl | rfl | rfl <;> decide +kernel
theorem sets_nodup : ∀ d, 1 ≤ d → d ≤ 4 → (setsL d).Nodup := by
  intro d h1 h2
  rcases (by omega : d = 1 ∨ d = 2 ∨ d = 3 ∨ d = 4) with rfl | rfl | rfl | rfl <;> decide +kernel
theorem sets_bd : ∀ d, 1 ≤ d → d ≤ 4 → ∀ s ∈ setsL d, 0 ≤ s ∧ s ≤ fullB d := by
  intro d h1 h2
  rcases (by omega : d = 1 ∨ d = 2 ∨ d = 3 ∨ d = 4) with rfl | rfl | rfl | rfl <;> decide +kernel
theorem sets_split : ∀ d, 1 ≤ d → d ≤ 4 → setsL d = fullB d :: (List.range d).flatMap fun t => levL d (d - 1 - t) := by
  intro d h1 h2
  rcases (by omega : d = 1 ∨ d = 2 ∨ d = 3 ∨ d = 4) with rfl | rfl | rfl | rfl <;> decide +kernel
theorem mem_lev {d l : Nat} {s : Int} : s ∈ levL d l ↔ s ∈ setsL d ∧ lvl s = (l : Int) := by
  unfold levL
  rw [List.mem_filter]
  simp
theorem lev_bd {d l : Nat} (h1 : 1 ≤ d) (h2 : d ≤ 4) {s : Int} (h : s ∈ levL d l) : 0 ≤ s ∧ s ≤ fullB d := sets_bd d h1 h2 s (mem_lev.1 h).1
theorem lev_nodup {d : Nat} (l : Nat) (h1 : 1 ≤ d) (h2 : d ≤ 4) : (levL d l).Nodup := (sets_nodup d h1 h2).filter _
/-! ### Costs that may be -/
theorem sortB_bd {cs : List Int} {rows k : Int} (hc : ∀ x ∈ cs, 1 ≤ x ∧ x ≤ 16) (h1 : 0 ≤ k) (h2 : k ≤ fullB cs.length) (h4 : cs.length ≤ 4) (r1 : 0 ≤ rows) (r2 : rows ≤ 300) : 0 ≤ sortB cs rows k ∧ sortB cs rows k ≤ 3000 ∧ sizeB cs rows k ≤ sortB cs rows k := by
  obtain ⟨a, b⟩ := sizeB_bd hc h1 h2 h4 r1 r2
  have hl := bitLen_300 ⟨(sizeB cs rows k).toNat, by omega⟩
  dsimp only at hl
  unfold sortB
  generalize Lib.bitLen (sizeB cs rows k).toNat = q at hl ⊢
  generalize sizeB cs rows k = z at a b ⊢
  have m1 : 0 ≤ z * (q : Int) := Int.mul_nonneg a (by omega)
  have m2 : z * (q : Int) ≤ 300 * 9 := Int.mul_le_mul b (by omega) (by omega) (by omega)
  omega
/-- With rows a sort costs more than a scan. -/
theorem sortB_gt {cs : List Int} {rows k : Int} (hc : ∀ x ∈ cs, 1 ≤ x ∧ x ≤ 16) (h1 : 0 ≤ k) (h2 : k ≤ fullB cs.length) (h4 : cs.length ≤ 4) (r1 : 1 ≤ rows) (r2 : rows ≤ 300) : sizeB cs rows k < sortB cs rows k := by
  obtain ⟨a, b⟩ := sizeB_bd hc h1 h2 h4 (by omega) r2
  have hk := keysN_bd hc h1 h2 h4
  have z1 : 1 ≤ sizeB cs rows k := by unfold sizeB; omega
  have hl : ∀ n : Fin 301, 1 ≤ n.val → 1 ≤ Lib.bitLen n.val := by decide +kernel
  have hl := hl ⟨(sizeB cs rows k).toNat, by omega⟩ (by dsimp only; omega)
  dsimp only at hl
  unfold sortB
  generalize Lib.bitLen (sizeB cs rows k).toNat = q at hl ⊢
  generalize sizeB cs rows k = z at a b z1 ⊢
  have m1 : 1 * 1 ≤ z * (q : Int) := Int.mul_le_mul z1 (by omega) (by omega) (by omega)
  omega
structure Good (cs : List Int) (n : Int) : Prop where
  c : ∀ x ∈ cs, 1 ≤ x ∧ x ≤ 16
  d1 : 1 ≤ cs.length
  d4 : cs.length ≤ 4
  n0 : 0 ≤ n
  n3 : n ≤ 300
section
variable {cs : List Int} {n : Int}
theorem own_spec (g : Good cs n) {l : Nat} (hl : l < cs.length) {s : Int} (hs : s ∈ levL cs.length l) : own cs n s ∈ parL s cs.length ∧ ∀ p ∈ parL s cs.length, sortB cs n (own cs n s) ≤ sortB cs n p :=
  cheapL_spec _ _ (lev_par _ g.d1 g.d4 l hl s hs).1
theorem par_bd (g : Good cs n) {l : Nat} (hl : l < cs.length) {s p : Int} (hs : s ∈ levL cs.length l) (hp : p ∈ parL s cs.length) : 0 ≤ p ∧ p ≤ fullB cs.length :=
  lev_bd g.d1 g.d4 ((lev_par _ g.d1 g.d4 l hl s hs).2 p hp)
theorem rowM_len (l i : Nat) (s : Int) : (rowM cs n l i s).length = (levL cs.length (l + 1)).length + (levL cs.length l).length := by simp [rowM]
theorem costM_len (l : Nat) : (costM cs n l).length = (levL cs.length l).length := by simp [costM]
theorem costM_at {l i : Nat} {row : List Int} (h : (costM cs n l)[i]? = some row) : ∃ s, (levL cs.length l)[i]? = some s ∧ row = rowM cs n l i s := by
  unfold costM at h
  rw [List.getElem?_mapIdx] at h
  cases hs : (levL cs.length l)[i]? with
  | none => rw [hs] at h; simp at h
  | some s => rw [hs] at h; simp at h; exact ⟨s, rfl, h.symm⟩
theorem costM_of {l i : Nat} {s : Int} (h : (levL cs.length l)[i]? = some s) : (costM cs n l)[i]? = some (rowM cs n l i s) := by
  unfold costM
  rw [List.getElem?_mapIdx, h]; rfl
theorem rowM_scan {l i k : Nat} {s : Int} (h : k < (levL cs.length (l + 1)).length) : cst (rowM cs n l i s) k = scanC cs n s ((levL cs.length (l + 1)).getD k 0) := by
  unfold cst rowM
  rw [List.getElem?_append_left (by simpa using h), List.getElem?_map, List.getElem?_eq_getElem h, List.getD_eq_getElem?_getD, List.getElem?_eq_getElem h]
  rfl
theorem rowM_sort {l i k : Nat} {s : Int} (h : k < (levL cs.length l).length) : cst (rowM cs n l i s) ((levL cs.length (l + 1)).length + k) = if k = i then sortB cs n (own cs n s) else 1000000 := by
  unfold cst rowM
  rw [List.getElem?_append_right (by simp), List.getElem?_map, List.length_map, Nat.add_sub_cancel_left, List.getElem?_range h]
  rfl
theorem scanC_bd (g : Good cs n) {l : Nat} (hl : l < cs.length) {s : Int} (hs : s ∈ levL cs.length l) (p : Int) : 0 ≤ scanC cs n s p ∧ scanC cs n s p ≤ 1000000 := by
  unfold scanC
  split
  · rename_i h
    obtain ⟨a, b⟩ := par_bd g hl hs h
    have := sizeB_bd g.c a b g.d4 g.n0 g.n3
    omega
  · omega
theorem rowM_bd (g : Good cs n) {l i : Nat} (hl : l < cs.length) {s : Int} (hs : s ∈ levL cs.length l) : ∀ x ∈ rowM cs n l i s, 0 ≤ x ∧ x ≤ 1000000 := by
  intro x hx
  unfold rowM at hx
  rcases List.mem_append.1 hx with h | h
  · obtain ⟨p, -, rfl⟩ := List.mem_map.1 h
    exact scanC_bd g hl hs p
  · obtain ⟨k, -, rfl⟩ := List.mem_map.1 h
    split
    · obtain ⟨a, b⟩ := par_bd g hl hs (own_spec g hl hs).1
      have := sortB_bd g.c a b g.d4 g.n0 g.n3
      omega
    · omega
theorem costM_row {l : Nat} {row : List Int} (h : row ∈ costM cs n l) : ∃ i s, s ∈ levL cs.length l ∧ row = rowM cs n l i s := by
  obtain ⟨i, hi⟩ := List.mem_iff_getElem?.1 h
  obtain ⟨s, hs, e⟩ := costM_at hi
  exact ⟨i, s, List.mem_of_getElem? hs, e⟩
theorem costM_ok (g : Good cs n) {l : Nat} (hl : l < cs.length) : okM (costM cs n l) = true := by
  obtain ⟨a, b, c⟩ := lev_len _ g.d1 g.d4 l hl
  refine okM_of c (by rw [costM_len]; omega) fun r hr => ?_
  obtain ⟨i, s, hs, rfl⟩ := costM_row hr
  exact ⟨rowM_len l i s, rowM_bd g hl hs⟩
theorem costM_wid (g : Good cs n) {l : Nat} (hl : l < cs.length) : wid (costM cs n l) = (levL cs.length (l + 1)).length + (levL cs.length l).length := by
  obtain ⟨a, b, c⟩ := lev_len _ g.d1 g.d4 l hl
  unfold wid
  rw [costM_of (i := 0) (List.getElem?_eq_getElem (by omega))]
  exact rowM_len _ _ _
end
/-! ### What a choice costs, row by row -/
theorem sumC_zip : ∀ (M : List (List Int)) (c : List Nat), sumC M c = (List.zipWith cst M c).sum
  | [], _ => by cases ‹List Nat› <;> rfl
  | _ :: _, [] => rfl
  | r :: M, k :: c => by simp [sumC, sumC_zip M c]
theorem sumC_le {B : Int} : ∀ (M : List (List Int)) (c : List Nat), c.length = M.length → (∀ (i : Nat) row k, M[i]? = some row → c[i]? = some k → cst row k ≤ B) → sumC M c ≤ B * (M.length : Int)
  | [], [], _, _ => by simp [sumC]
  | [], _ :: _, h, _ => by simp at h
  | _ :: _, [], h, _ => by simp at h
  | r :: M, k :: c, h, hh => by
    have ih := sumC_le M c (by simpa using h) fun i row k a b => hh (i + 1) row k (by simpa using a) (by simpa using b)
    have h0 := hh 0 r k rfl rfl
    simp only [sumC, List.length_cons]
    have : B * ((M.length + 1 : Nat) : Int) = B * (M.length : Int) + B := by rw [Int.natCast_add, Int.mul_add]; simp
    omega
theorem cst_bd {row : List Int} (h : ∀ x ∈ row, 0 ≤ x) (k : Nat) : 0 ≤ cst row k := by
  unfold cst
  cases hk : row[k]? with
  | none => simp
  | some x => exact h x (List.mem_of_getElem? hk)
theorem sumC_nn : ∀ (M : List (List Int)) (c : List Nat), (∀ r ∈ M, ∀ x ∈ r, 0 ≤ x) → 0 ≤ sumC M c
  | [], _, _ => by simp [sumC]
  | _ :: _, [], _ => by simp [sumC]
  | r :: M, k :: c, h => by
    have ih := sumC_nn M c fun r hr => h r (List.mem_cons_of_mem _ hr)
    have := cst_bd (h r (List.mem_cons_self ..)) k
    simp only [sumC]
    omega
theorem sumC_ge : ∀ (M : List (List Int)) (c : List Nat) (i : Nat) (row : List Int) (k : Nat), (∀ r ∈ M, ∀ x ∈ r, 0 ≤ x) → M[i]? = some row → c[i]? = some k → cst row k ≤ sumC M c
  | [], _, _, _, _, _, h, _ => by simp at h
  | _ :: _, [], _, _, _, _, _, h => by simp at h
  | r :: M, k :: c, 0, row, k', h, h1, h2 => by
    simp at h1 h2
    subst h1 h2
    have := sumC_nn M c fun r hr => h r (List.mem_cons_of_mem _ hr)
    simp only [sumC]
    omega
  | r :: M, k :: c, i + 1, row, k', h, h1, h2 => by
    have ih := sumC_ge M c i row k' (fun r hr => h r (List.mem_cons_of_mem _ hr)) (by simpa using h1) (by simpa using h2)
    have := cst_bd (h r (List.mem_cons_self ..)) k
    simp only [sumC]
    omega
theorem sumC_set : ∀ (M : List (List Int)) (c : List Nat) (i : Nat) (row : List Int) (k k' : Nat), M[i]? = some row → c[i]? = some k → sumC M (c.set i k') = sumC M c - cst row k + cst row k'
  | [], _, _, _, _, _, h, _ => by simp at h
  | _ :: _, [], _, _, _, _, _, h => by simp at h
  | r :: M, k0 :: c, 0, row, k, k', h1, h2 => by
    simp at h1 h2
    subst h1 h2
    simp only [List.set_cons_zero, sumC]
    omega
  | r :: M, k0 :: c, i + 1, row, k, k', h1, h2 => by
    have ih := sumC_set M c i row k k' (by simpa using h1) (by simpa using h2)
    simp only [List.set_cons_succ, sumC]
    omega
/-! ### The choice -/
section
variable {cs : List Int} {n : Int}
theorem costM_nn (g : Good cs n) {l : Nat} (hl : l < cs.length) : ∀ r ∈ costM cs n l, ∀ x ∈ r, 0 ≤ x := by
  intro r hr x hx
  obtain ⟨i, s, hs, rfl⟩ := costM_row hr
  exact (rowM_bd g hl hs x hx).1
theorem costM_rows {l : Nat} : ∀ r ∈ costM cs n l, r.length = (levL cs.length (l + 1)).length + (levL cs.length l).length := by
  intro r hr
  obtain ⟨i, s, hs, rfl⟩ := costM_row hr
  exact rowM_len l i s
/-- The least that a level costs. -/
theorem rest_le (g : Good cs n) {l : Nat} (hl : l < cs.length) : restR (costM cs n l) 0 ≤ 18000 := by
  obtain ⟨a, b, c⟩ := lev_len _ g.d1 g.d4 l hl
  have hok : Ok (costM cs n l) 0 ((List.range (levL cs.length l).length).map fun i => (levL cs.length (l + 1)).length + i) := by
    refine Ok_of costM_rows (by simp [costM_len]) ?_ ?_
    · refine List.pairwise_map.2 (List.nodup_range.imp fun {x y} h e => h ?_)
      simpa using e
    · intro k hk
      obtain ⟨i, hi, rfl⟩ := List.mem_map.1 hk
      have := List.mem_range.1 hi
      omega
  have h1 := restR_le _ _ _ hok
  have h2 := sumC_le (B := 3000) (costM cs n l) ((List.range (levL cs.length l).length).map fun i => (levL cs.length (l + 1)).length + i) (by simp [costM_len]) (fun i row k hr hk => by
    obtain ⟨s, hs, rfl⟩ := costM_at hr
    have hi := (List.getElem?_eq_some_iff.1 hs).1
    rw [List.getElem?_map, List.getElem?_range hi] at hk
    simp at hk
    subst hk
    rw [rowM_sort hi, if_pos rfl]
    have hs' := List.mem_of_getElem? hs
    obtain ⟨p, q⟩ := par_bd g hl hs' (own_spec g hl hs').1
    exact (sortB_bd g.c p q g.d4 g.n0 g.n3).2.1)
  rw [costM_len] at h2
  omega
/-- Each row's column may be. -/
def fits (cs : List Int) (l i : Nat) (s : Int) (k : Nat) : Prop := (k < (levL cs.length (l + 1)).length ∧ (levL cs.length (l + 1)).getD k 0 ∈ parL s cs.length) ∨ k = (levL cs.length (l + 1)).length + i
theorem cst_small {l i k : Nat} {s : Int} (hk : k < (levL cs.length (l + 1)).length + (levL cs.length l).length) (h : cst (rowM cs n l i s) k < 1000000) : fits cs l i s k := by
  by_cases h1 : k < (levL cs.length (l + 1)).length
  · rw [rowM_scan h1] at h
    unfold scanC at h
    split at h
    · rename_i hp
      exact .inl ⟨h1, hp⟩
    · omega
  · have e : k = (levL cs.length (l + 1)).length + (k - (levL cs.length (l + 1)).length) := by omega
    rw [e, rowM_sort (by omega)] at h
    split at h
    · exact .inr (by omega)
    · omega
theorem pick_fits (g : Good cs n) {l : Nat} (hl : l < cs.length) {i k : Nat} {s : Int} (hs : (levL cs.length l)[i]? = some s) (hk : (fst1 (costM cs n l) 0)[i]? = some k) : fits cs l i s k := by
  have hok := costM_ok g hl
  obtain ⟨a, b, c⟩ := fst1_spec hok
  have h1 := fst1_ok _ _ 0 (room_ok hok)
  have h2 := sumC_ge _ _ i _ k (costM_nn g hl) (costM_of (n := n) hs) hk
  have h3 := rest_le g hl
  have h4 := c k (List.mem_of_getElem? hk)
  rw [costM_wid g hl] at h4
  exact cst_small (n := n) h4 (by rw [h1.2] at h2; omega)
/-- What an edge costs. -/
def costE (cs : List Int) (n : Int) (e : Ed) : Int := if e.p < 0 then 0 else if e.sc then sizeB cs n e.p else sortB cs n e.p
theorem edM_cost (g : Good cs n) {l : Nat} (hl : l < cs.length) {i k : Nat} {s : Int} (hs : (levL cs.length l)[i]? = some s) (hk : fits cs l i s k) : costE cs n (edM cs n l s k) = cst (rowM cs n l i s) k := by
  have hs' := List.mem_of_getElem? hs
  have hi := (List.getElem?_eq_some_iff.1 hs).1
  unfold costE edM
  rcases hk with ⟨h1, h2⟩ | h
  · obtain ⟨p, q⟩ := par_bd g hl hs' h2
    rw [if_pos h1, rowM_scan h1]
    unfold scanC
    dsimp only
    rw [if_neg (by omega), if_pos rfl, if_pos h2]
  · obtain ⟨p, q⟩ := par_bd g hl hs' (own_spec g hl hs').1
    subst h
    rw [if_neg (show ¬ (levL cs.length (l + 1)).length + i < (levL cs.length (l + 1)).length by omega), rowM_sort hi, if_pos rfl]
    dsimp only
    rw [if_neg (by omega)]
    simp
theorem pick_len (g : Good cs n) {l : Nat} (hl : l < cs.length) : (fst1 (costM cs n l) 0).length = (levL cs.length l).length := by
  rw [(fst1_spec (costM_ok g hl)).1, costM_len]
theorem edsM_at {l i : Nat} {e : Ed} (h : (edsM cs n l)[i]? = some e) : ∃ s k, (levL cs.length l)[i]? = some s ∧ (fst1 (costM cs n l) 0)[i]? = some k ∧ e = edM cs n l s k := by
  unfold edsM at h
  rw [List.getElem?_zipWith] at h
  cases hs : (levL cs.length l)[i]? with
  | none => rw [hs] at h; simp at h
  | some s =>
    cases hk : (fst1 (costM cs n l) 0)[i]? with
    | none => rw [hs, hk] at h; simp at h
    | some k => rw [hs, hk] at h; simp at h; exact ⟨s, k, rfl, rfl, h.symm⟩
theorem edsM_of {l i k : Nat} {s : Int} (hs : (levL cs.length l)[i]? = some s) (hk : (fst1 (costM cs n l) 0)[i]? = some k) : (edsM cs n l)[i]? = some (edM cs n l s k) := by
  unfold edsM
  rw [List.getElem?_zipWith, hs, hk]
theorem edsM_len (g : Good cs n) {l : Nat} (hl : l < cs.length) : (edsM cs n l).length = (levL cs.length l).length := by
  unfold edsM
  rw [List.length_zipWith, pick_len g hl]
  omega
theorem edM_s (l : Nat) (s : Int) (k : Nat) : (edM cs n l s k).s = s := by unfold edM; split <;> rfl
theorem edsM_sets (g : Good cs n) {l : Nat} (hl : l < cs.length) : (edsM cs n l).map (·.s) = levL cs.length l := by
  apply List.ext_getElem?
  intro i
  rw [List.getElem?_map]
  cases he : (edsM cs n l)[i]? with
  | none =>
    have := List.getElem?_eq_none_iff.1 he
    rw [edsM_len g hl] at this
    rw [List.getElem?_eq_none this]; rfl
  | some e =>
    obtain ⟨s, k, hs, -, rfl⟩ := edsM_at he
    rw [hs, Option.map_some, edM_s]
theorem edM_par (g : Good cs n) {l : Nat} (hl : l < cs.length) {i k : Nat} {s : Int} (hs : (levL cs.length l)[i]? = some s) (hk : fits cs l i s k) : (edM cs n l s k).p ∈ parL s cs.length := by
  unfold edM
  rcases hk with ⟨h1, h2⟩ | h
  · rw [if_pos h1]; exact h2
  · rw [if_neg (by omega)]; exact (own_spec g hl (List.mem_of_getElem? hs)).1
/-- What a level costs in all is the least. -/
theorem edsM_cost (g : Good cs n) {l : Nat} (hl : l < cs.length) : ((edsM cs n l).map (costE cs n)).sum = restR (costM cs n l) 0 := by
  rw [← (fst1_ok _ _ 0 (room_ok (costM_ok g hl))).2, sumC_zip]
  congr 1
  apply List.ext_getElem?
  intro i
  rw [List.getElem?_map, List.getElem?_zipWith]
  cases he : (edsM cs n l)[i]? with
  | none =>
    have := List.getElem?_eq_none_iff.1 he
    rw [edsM_len g hl] at this
    rw [List.getElem?_eq_none (l := costM cs n l) (by rw [costM_len]; exact this)]; rfl
  | some e =>
    obtain ⟨s, k, hs, hk, rfl⟩ := edsM_at he
    rw [costM_of hs, hk, Option.map_some, edM_cost g hl hs (pick_fits g hl hs hk)]
theorem edsM_mem (g : Good cs n) {l : Nat} (hl : l < cs.length) {e : Ed} (h : e ∈ edsM cs n l) : e.s ∈ levL cs.length l ∧ e.p ∈ parL e.s cs.length ∧ e.p ∈ levL cs.length (l + 1) ∧ (e.sc = false → e.p = own cs n e.s) := by
  obtain ⟨i, hi⟩ := List.mem_iff_getElem?.1 h
  obtain ⟨s, k, hs, hk, rfl⟩ := edsM_at hi
  have hp := edM_par g hl hs (pick_fits g hl hs hk)
  rw [edM_s]
  refine ⟨List.mem_of_getElem? hs, hp, (lev_par _ g.d1 g.d4 l hl s (List.mem_of_getElem? hs)).2 _ hp, fun h => ?_⟩
  unfold edM at h ⊢
  split at h
  · cases h
  · rename_i h1
    rw [if_neg h1]
theorem edsM_once (g : Good cs n) {l : Nat} (hl : l < cs.length) : (edsM cs n l).Pairwise fun a b => a.sc = true → b.sc = true → a.p ≠ b.p := by
  rw [List.pairwise_iff_getElem]
  intro i j hi hj hij ha hb e
  obtain ⟨s, k, hs, hk, e1⟩ := edsM_at (List.getElem?_eq_getElem hi)
  obtain ⟨s', k', hs', hk', e2⟩ := edsM_at (List.getElem?_eq_getElem hj)
  rw [e1] at ha e
  rw [e2] at hb e
  unfold edM at ha hb e
  by_cases h1 : k < (levL cs.length (l + 1)).length
  · by_cases h2 : k' < (levL cs.length (l + 1)).length
    · rw [if_pos h1, if_pos h2] at e
      dsimp only at e
      rw [List.getD_eq_getElem?_getD, List.getD_eq_getElem?_getD, List.getElem?_eq_getElem h1, List.getElem?_eq_getElem h2] at e
      have hkk := (List.getElem_inj (lev_nodup (l + 1) g.d1 g.d4)).1 e
      obtain ⟨x1, y1⟩ := List.getElem?_eq_some_iff.1 hk
      obtain ⟨x2, y2⟩ := List.getElem?_eq_some_iff.1 hk'
      have := (List.getElem_inj (fst1_spec (costM_ok g hl)).2.1).1 (y1.trans (hkk.trans y2.symm))
      omega
    · rw [if_neg h2] at hb; cases hb
  · rw [if_neg h1] at ha; cases ha
end
/-! ### Plans that are right -/
structure RightP (d : Nat) (es : List Ed) : Prop where
  sets : es.map (·.s) = setsL d
  head : es.head? = some (topE d)
  par : ∀ e ∈ es.tail, e.p ∈ parL e.s d
  once : es.Pairwise fun a b => a.sc = true → b.sc = true → a.p ≠ b.p
theorem lev_diff {d l l' : Nat} {s : Int} (h : s ∈ levL d l) (h' : s ∈ levL d l') : l = l' := by
  have a := (mem_lev.1 h).2
  have b := (mem_lev.1 h').2
  omega
theorem flat_congr {α β : Type} {f h : α → List β} : ∀ {l : List α}, (∀ x ∈ l, f x = h x) → l.flatMap f = l.flatMap h
  | [], _ => rfl
  | a :: l, hh => by
    rw [List.flatMap_cons, List.flatMap_cons, hh a (List.mem_cons_self ..), flat_congr fun x hx => hh x (List.mem_cons_of_mem _ hx)]
theorem plan_right {cs : List Int} {n : Int} (g : Good cs n) : RightP cs.length (planM cs n) := by
  have hlt : ∀ t ∈ List.range cs.length, cs.length - 1 - t < cs.length := fun t ht => by have := List.mem_range.1 ht; omega
  refine ⟨?_, rfl, fun e he => ?_, ?_⟩
  · unfold planM
    rw [List.map_cons, List.map_flatMap, sets_split _ g.d1 g.d4]
    congr 1
    exact flat_congr fun t ht => edsM_sets g (hlt t ht)
  · obtain ⟨t, ht, h⟩ := List.mem_flatMap.1 (show e ∈ (List.range cs.length).flatMap fun t => edsM cs n (cs.length - 1 - t) from he)
    exact (edsM_mem g (hlt t ht) h).2.1
  · unfold planM
    refine List.pairwise_cons.2 ⟨fun e _ h => absurd h (by simp [topE]), ?_⟩
    rw [List.pairwise_flatMap]
    refine ⟨fun t ht => edsM_once g (hlt t ht), ?_⟩
    refine List.Pairwise.imp_of_mem ?_ List.pairwise_lt_range
    intro t t' ht ht' hlt' e he e' he' _ _ hp
    have a := (edsM_mem g (hlt t ht) he).2.2.1
    have b := (edsM_mem g (hlt t' ht') he').2.2.1
    rw [← hp] at b
    have := lev_diff a b
    have := List.mem_range.1 ht'
    omega
end Go.Proofs.YtjllmladhjbnaaaGreatDoor
/- Plans by sorting, as mathematics: whether a plan is right; no right plan costs less; no parent is left free. -/
namespace Go.Proofs.YtjllmladhjbnaaaGreatDoor
open Go.RowKit
/-- Whether an edge may stand behind others. -/
def edOk (d : Nat) (pre : List Ed) (e : Ed) : Bool := decide (e.p ∈ parL e.s d) && !(e.sc && pre.any fun x => x.sc && x.p == e.p)
def okAt (d : Nat) (es : List Ed) (i : Nat) : Bool :=
  match es[i]?, (setsL d)[i]? with
  | some e, some s => decide (e.s = s) && (if i = 0 then decide (e.p = -1) && !e.sc else edOk d (es.take i) e)
  | _, _ => false
def okTo (d : Nat) (es : List Ed) (k : Nat) : Bool := (List.range k).all (okAt d es)
def planB (es : List Ed) (d : Nat) : Bool := decide (es.length = (setsL d).length) && okTo d es es.length
theorem okTo_succ (d : Nat) (es : List Ed) (k : Nat) : okTo d es (k + 1) = (okTo d es k && okAt d es k) := by simp [okTo, List.range_succ]
theorem okTo_false {d : Nat} {es : List Ed} {k m : Nat} (h : okAt d es k = false) (hk : k < m) : okTo d es m = false := by
  unfold okTo
  rw [List.all_eq_false]
  exact ⟨k, List.mem_range.2 hk, by simp [h]⟩
theorem okAt_spec {d : Nat} {es : List Ed} {i : Nat} {e : Ed} {s : Int} (he : es[i]? = some e) (hs : (setsL d)[i]? = some s) : okAt d es i = (decide (e.s = s) && (if i = 0 then decide (e.p = -1) && !e.sc else edOk d (es.take i) e)) := by
  unfold okAt
  rw [he, hs]
theorem sets_head (d : Nat) (h1 : 1 ≤ d) (h2 : d ≤ 4) : (setsL d)[0]? = some (fullB d) := by
  rw [sets_split d h1 h2]; rfl
theorem edOk_spec {d : Nat} {pre : List Ed} {e : Ed} (h : edOk d pre e = true) : e.p ∈ parL e.s d ∧ ∀ x ∈ pre, x.sc = true → e.sc = true → x.p ≠ e.p := by
  unfold edOk at h
  simp only [Bool.and_eq_true, decide_eq_true_eq, Bool.not_eq_true', Bool.and_eq_false_iff, List.any_eq_false] at h
  obtain ⟨a, b⟩ := h
  refine ⟨a, fun x hx h1 h2 h3 => ?_⟩
  rcases b with b | b
  · rw [h2] at b; cases b
  · exact b x hx (by simp [h1, h3])
theorem edOk_of {d : Nat} {pre : List Ed} {e : Ed} (a : e.p ∈ parL e.s d) (b : ∀ x ∈ pre, x.sc = true → e.sc = true → x.p ≠ e.p) : edOk d pre e = true := by
  unfold edOk
  simp only [Bool.and_eq_true, decide_eq_true_eq, Bool.not_eq_true', Bool.and_eq_false_iff, List.any_eq_false]
  refine ⟨a, ?_⟩
  cases hs : e.sc with
  | false => exact .inl rfl
  | true => exact .inr fun x hx h => by simp at h; exact b x hx h.1 hs h.2
theorem plan_iff {d : Nat} (h1 : 1 ≤ d) (h2 : d ≤ 4) (es : List Ed) : planB es d = true ↔ RightP d es := by
  constructor
  · intro h
    unfold planB okTo at h
    simp only [Bool.and_eq_true, decide_eq_true_eq, List.all_eq_true, List.mem_range] at h
    obtain ⟨hl, hall⟩ := h
    have hat : ∀ (i : Nat) (e : Ed), es[i]? = some e → ∃ s, (setsL d)[i]? = some s ∧ e.s = s ∧ (if i = 0 then decide (e.p = -1) && !e.sc else edOk d (es.take i) e) = true := fun i e he => by
      have hi := (List.getElem?_eq_some_iff.1 he).1
      have hs : (setsL d)[i]? = some (setsL d)[i] := List.getElem?_eq_getElem (by omega)
      have := hall i hi
      rw [okAt_spec he hs] at this
      simp only [Bool.and_eq_true, decide_eq_true_eq] at this
      exact ⟨_, hs, this.1, this.2⟩
    refine ⟨?_, ?_, fun e he => ?_, ?_⟩
    · apply List.ext_getElem?
      intro i
      rw [List.getElem?_map]
      cases he : es[i]? with
      | none =>
        have := List.getElem?_eq_none_iff.1 he
        rw [List.getElem?_eq_none (by omega)]; rfl
      | some e =>
        obtain ⟨s, hs, e1, -⟩ := hat i e he
        rw [hs, Option.map_some, e1]
    · cases es with
      | nil => rw [setsL_len d h1 h2] at hl; have := Nat.two_pow_pos d; simp at hl; omega
      | cons e t =>
        obtain ⟨s, hs, e1, e2⟩ := hat 0 e rfl
        rw [sets_head d h1 h2] at hs
        injection hs with hs
        rw [if_pos rfl] at e2
        simp only [Bool.and_eq_true, decide_eq_true_eq, Bool.not_eq_true'] at e2
        obtain ⟨a, b, c⟩ := e
        simp only at e1 e2
        rw [List.head?_cons, topE, e1, e2.1, e2.2, ← hs]
    · cases es with
      | nil => cases he
      | cons e0 t =>
        obtain ⟨i, hi⟩ := List.mem_iff_getElem?.1 (show e ∈ t from he)
        obtain ⟨s, hs, e1, e2⟩ := hat (i + 1) e (by simpa using hi)
        rw [if_neg (by omega)] at e2
        exact (edOk_spec e2).1
    · rw [List.pairwise_iff_getElem]
      intro i j hi hj hij ha hb
      obtain ⟨s, hs, e1, e2⟩ := hat j _ (List.getElem?_eq_getElem hj)
      rw [if_neg (by omega)] at e2
      exact (edOk_spec e2).2 _ (List.mem_iff_getElem?.2 ⟨i, by rw [List.getElem?_take, if_pos hij]; exact List.getElem?_eq_getElem hi⟩) ha hb
  · intro h
    have hl : es.length = (setsL d).length := by rw [← h.sets, List.length_map]
    unfold planB okTo
    simp only [Bool.and_eq_true, decide_eq_true_eq, List.all_eq_true, List.mem_range]
    refine ⟨hl, fun i hi => ?_⟩
    have he : es[i]? = some es[i] := List.getElem?_eq_getElem hi
    have hs : (setsL d)[i]? = some es[i].s := by rw [← h.sets, List.getElem?_map, he]; rfl
    rw [okAt_spec he hs]
    simp only [decide_true, Bool.true_and]
    cases i with
    | zero =>
      have := h.head
      rw [List.head?_eq_getElem?, he] at this
      injection this with this
      rw [if_pos rfl, this]
      rfl
    | succ i =>
      rw [if_neg (by omega)]
      refine edOk_of (h.par _ ?_) fun x hx hxs hes => ?_
      · cases es with
        | nil => simp at hi
        | cons e0 t => exact List.mem_iff_getElem?.2 ⟨i, by simp⟩
      · obtain ⟨j, hj⟩ := List.mem_iff_getElem?.1 hx
        rw [List.getElem?_take] at hj
        split at hj
        · rename_i hji
          obtain ⟨hj1, hj2⟩ := List.getElem?_eq_some_iff.1 hj
          have := (List.pairwise_iff_getElem.1 h.once) j (i + 1) hj1 hi hji
          rw [hj2] at this
          exact this hxs hes
        · cases hj
/-! ### No plan that is right costs less -/
theorem sum_le_of : ∀ (L L' : List Int), L.length = L'.length → (∀ (i : Nat) a b, L[i]? = some a → L'[i]? = some b → a ≤ b) → L.sum ≤ L'.sum
  | [], [], _, _ => Int.le_refl _
  | [], _ :: _, h, _ => by simp at h
  | _ :: _, [], h, _ => by simp at h
  | a :: L, b :: L', h, hh => by
    have := sum_le_of L L' (by simpa using h) fun i x y hx hy => hh (i + 1) x y (by simpa using hx) (by simpa using hy)
    have := hh 0 a b rfl rfl
    simp only [List.sum_cons]
    omega
theorem pick_list {P : Nat → Nat → Prop} : ∀ (m : Nat), (∀ i, i < m → ∃ k, P i k) → ∃ c : List Nat, c.length = m ∧ ∀ i k, c[i]? = some k → P i k
  | 0, _ => ⟨[], rfl, fun i k h => by simp at h⟩
  | m + 1, h => by
    obtain ⟨c, hl, hc⟩ := pick_list m fun i hi => h i (by omega)
    obtain ⟨k, hk⟩ := h m (by omega)
    refine ⟨c ++ [k], by simp [hl], fun i k' h' => ?_⟩
    rcases Nat.lt_or_ge i m with hi | hi
    · rw [List.getElem?_append_left (by omega)] at h'; exact hc i k' h'
    · rw [List.getElem?_append_right (by omega), hl] at h'
      cases hq : i - m with
      | zero => rw [hq] at h'; simp at h'; subst h'; rwa [show i = m by omega]
      | succ q => rw [hq] at h'; simp at h'
theorem level_le {cs : List Int} {n : Int} (g : Good cs n) {l : Nat} (hl : l < cs.length) (E : List Ed) (hs : E.map (·.s) = levL cs.length l) (hp : ∀ e ∈ E, e.p ∈ parL e.s cs.length) (ho : E.Pairwise fun a b => a.sc = true → b.sc = true → a.p ≠ b.p) :
    restR (costM cs n l) 0 ≤ (E.map (costE cs n)).sum := by
  have hlen : E.length = (levL cs.length l).length := by rw [← hs, List.length_map]
  have hsat : ∀ (i : Nat) (e : Ed), E[i]? = some e → (levL cs.length l)[i]? = some e.s := fun i e he => by rw [← hs, List.getElem?_map, he]; rfl
  obtain ⟨c, hcl, hc⟩ := pick_list (P := fun i k => ∀ e, E[i]? = some e → if e.sc then (levL cs.length (l + 1))[k]? = some e.p else k = (levL cs.length (l + 1)).length + i) E.length (fun i hi => by
    have he : E[i]? = some E[i] := List.getElem?_eq_getElem hi
    by_cases hsc : E[i].sc = true
    · have hm := (lev_par _ g.d1 g.d4 l hl _ (List.mem_of_getElem? (hsat i _ he))).2 _ (hp _ (List.mem_of_getElem? he))
      obtain ⟨k, hk⟩ := List.mem_iff_getElem?.1 hm
      refine ⟨k, fun e h => ?_⟩
      rw [he] at h; injection h with h; subst h
      rw [if_pos hsc]; exact hk
    · refine ⟨(levL cs.length (l + 1)).length + i, fun e h => ?_⟩
      rw [he] at h; injection h with h; subst h
      rw [if_neg hsc])
  have hok : Ok (costM cs n l) 0 c := by
    refine Ok_of costM_rows (by rw [hcl, hlen, costM_len]) ?_ ?_
    · unfold List.Nodup
      rw [List.pairwise_iff_getElem]
      intro i j hi hj hij e
      have hei : E[i]? = some (E[i]'(by omega)) := List.getElem?_eq_getElem (by omega)
      have hej : E[j]? = some (E[j]'(by omega)) := List.getElem?_eq_getElem (by omega)
      have a := hc i _ (List.getElem?_eq_getElem hi) _ hei
      have b := hc j _ (List.getElem?_eq_getElem hj) _ hej
      rw [← e] at b
      by_cases h1 : (E[i]'(by omega)).sc = true
      · rw [if_pos h1] at a
        by_cases h2 : (E[j]'(by omega)).sc = true
        · rw [if_pos h2] at b
          exact (List.pairwise_iff_getElem.1 ho) i j (by omega) (by omega) hij h1 h2 (Option.some.inj (a.symm.trans b))
        · rw [if_neg h2] at b
          have := (List.getElem?_eq_some_iff.1 a).1
          omega
      · rw [if_neg h1] at a
        by_cases h2 : (E[j]'(by omega)).sc = true
        · rw [if_pos h2] at b
          have := (List.getElem?_eq_some_iff.1 b).1
          omega
        · rw [if_neg h2] at b
          omega
    · intro k hk
      obtain ⟨i, hi⟩ := List.mem_iff_getElem?.1 hk
      have hil := (List.getElem?_eq_some_iff.1 hi).1
      have a := hc i k hi _ (List.getElem?_eq_getElem (show i < E.length by omega))
      split at a
      · have := (List.getElem?_eq_some_iff.1 a).1
        omega
      · omega
  refine Int.le_trans (restR_le _ _ _ hok) ?_
  rw [sumC_zip]
  refine sum_le_of _ _ (by rw [List.length_zipWith, List.length_map, costM_len, hcl, hlen]; omega) fun i a b ha hb => ?_
  rw [List.getElem?_map] at hb
  rw [List.getElem?_zipWith] at ha
  cases he : E[i]? with
  | none => rw [he] at hb; simp at hb
  | some e =>
    rw [he] at hb
    injection hb with hb
    subst hb
    have hse := hsat i e he
    have hil := (List.getElem?_eq_some_iff.1 hse).1
    rw [costM_of hse] at ha
    cases hk : c[i]? with
    | none => rw [hk] at ha; simp at ha
    | some k =>
      rw [hk] at ha
      injection ha with ha
      subst ha
      have hm := hp e (List.mem_of_getElem? he)
      obtain ⟨q1, q2⟩ := par_bd g hl (List.mem_of_getElem? hse) hm
      have hkk := hc i k hk e he
      unfold costE
      rw [if_neg (by omega)]
      by_cases hsc : e.sc = true
      · rw [if_pos hsc] at hkk ⊢
        obtain ⟨u1, u2⟩ := List.getElem?_eq_some_iff.1 hkk
        rw [rowM_scan u1, List.getD_eq_getElem?_getD, hkk]
        unfold scanC
        rw [Option.getD_some, if_pos hm]
        exact Int.le_refl _
      · rw [if_neg hsc] at hkk ⊢
        rw [hkk, rowM_sort hil, if_pos rfl]
        exact (own_spec g hl (List.mem_of_getElem? hse)).2 _ hm
theorem sum_map_add {α : Type} (a b : α → Int) : ∀ L : List α, (L.map fun t => a t + b t).sum = (L.map a).sum + (L.map b).sum
  | [] => rfl
  | x :: L => by have := sum_map_add a b L; simp only [List.map_cons, List.sum_cons]; omega
theorem sum_ind (x : Int) (t0 : Nat) : ∀ d, ((List.range d).map fun t => if t = t0 then x else 0).sum = if t0 < d then x else 0
  | 0 => by simp
  | d + 1 => by
    rw [List.range_succ, List.map_append, List.sum_append, sum_ind x t0 d]
    simp only [List.map_cons, List.map_nil, List.sum_cons, List.sum_nil]
    by_cases h1 : t0 < d
    · rw [if_pos h1, if_neg (by omega), if_pos (by omega)]; omega
    · by_cases h2 : d = t0
      · rw [if_neg h1, if_pos h2, if_pos (by omega)]; omega
      · rw [if_neg h1, if_neg h2, if_neg (by omega)]; omega
theorem sum_split (d : Nat) (f : Ed → Int) : ∀ (tl : List Ed), (∀ e ∈ tl, ∃ t, t < d ∧ lvl e.s = ((d - 1 - t : Nat) : Int)) →
    (tl.map f).sum = ((List.range d).map fun t => ((tl.filter fun e => lvl e.s == ((d - 1 - t : Nat) : Int)).map f).sum).sum
  | [], _ => by
    have : ∀ L : List Nat, (L.map fun _ => (0 : Int)).sum = 0 := fun L => by induction L with | nil => rfl | cons a L ih => simp [ih]
    simpa using (this _).symm
  | e :: tl, h => by
    have ih := sum_split d f tl fun x hx => h x (List.mem_cons_of_mem _ hx)
    obtain ⟨t0, ht0, hl0⟩ := h e (List.mem_cons_self ..)
    have e1 : ((List.range d).map fun t => (((e :: tl).filter fun e => lvl e.s == ((d - 1 - t : Nat) : Int)).map f).sum)
        = (List.range d).map fun t => (if t = t0 then f e else 0) + ((tl.filter fun e => lvl e.s == ((d - 1 - t : Nat) : Int)).map f).sum := by
      apply List.map_congr_left
      intro t ht
      have htd := List.mem_range.1 ht
      by_cases h1 : t = t0
      · have : (lvl e.s == ((d - 1 - t : Nat) : Int)) = true := by rw [hl0, h1]; simp
        rw [List.filter_cons, if_pos this, if_pos h1]; simp
      · have : ¬ (lvl e.s == ((d - 1 - t : Nat) : Int)) = true := by rw [hl0]; simp; omega
        rw [List.filter_cons, if_neg this, if_neg h1]; simp
    rw [e1, sum_map_add, sum_ind, if_pos ht0, List.map_cons, List.sum_cons, ih]
/-- What a plan costs. -/
def costP (cs : List Int) (n : Int) (es : List Ed) : Int := (es.map (costE cs n)).sum
theorem flat_sum {α : Type} (f : Ed → Int) (h : α → List Ed) : ∀ L : List α, ((L.flatMap h).map f).sum = (L.map fun t => ((h t).map f).sum).sum
  | [] => rfl
  | x :: L => by rw [List.flatMap_cons, List.map_append, List.sum_append, List.map_cons, List.sum_cons, flat_sum f h L]
theorem costE_top (cs : List Int) (n : Int) (d : Nat) : costE cs n (topE d) = 0 := by simp [costE, topE]
theorem tail_lev (d : Nat) (h1 : 1 ≤ d) (h2 : d ≤ 4) : (∀ s ∈ (setsL d).tail, ∃ t, t < d ∧ lvl s = ((d - 1 - t : Nat) : Int)) ∧ ∀ t, t < d → ((setsL d).tail.filter fun s => lvl s == ((d - 1 - t : Nat) : Int)) = levL d (d - 1 - t) := by
  rcases (by omega : d = 1 ∨ d = 2 ∨ d = 3 ∨ d = 4) with rfl | rfl | rfl | rfl <;> decide +kernel
theorem RightP.cons {d : Nat} {es : List Ed} (h : RightP d es) : es = topE d :: es.tail := by
  have := h.head
  cases es with
  | nil => cases this
  | cons e t => rw [List.head?_cons] at this; injection this with this; rw [this]; rfl
theorem plan_least {cs : List Int} {n : Int} (g : Good cs n) {es : List Ed} (h : RightP cs.length es) : costP cs n (planM cs n) ≤ costP cs n es := by
  obtain ⟨q1, q2⟩ := tail_lev cs.length g.d1 g.d4
  have ht : es.tail.map (·.s) = (setsL cs.length).tail := by rw [← h.sets, List.map_tail]
  have e1 : costP cs n es = (es.tail.map (costE cs n)).sum := by
    have := h.cons
    generalize es.tail = t at this
    rw [this]
    simp [costP, costE_top]
  have e2 : costP cs n (planM cs n) = ((List.range cs.length).map fun t => restR (costM cs n (cs.length - 1 - t)) 0).sum := by
    unfold costP planM
    rw [List.map_cons, List.sum_cons, costE_top, flat_sum, Int.zero_add]
    congr 1
    apply List.map_congr_left
    intro t ht
    exact edsM_cost g (by have := List.mem_range.1 ht; omega)
  rw [e1, e2, sum_split cs.length (costE cs n) es.tail (fun e he => q1 e.s (by rw [← ht]; exact List.mem_map.2 ⟨e, he, rfl⟩))]
  refine sum_le_of _ _ (by simp) fun t a b ha hb => ?_
  rw [List.getElem?_map] at ha hb
  rcases Nat.lt_or_ge t cs.length with hlt | hge
  · rw [List.getElem?_range hlt] at ha hb
    injection ha with ha
    injection hb with hb
    subst ha hb
    refine level_le g (by omega) _ ?_ (fun e he => h.par e (List.mem_filter.1 he).1) (List.Pairwise.filter _ (List.Pairwise.sublist (List.tail_sublist _) h.once))
    rw [← q2 t hlt, ← ht, List.filter_map]
    rfl
  · rw [List.getElem?_eq_none (by simpa using hge)] at ha
    cases ha
/-! ### No parent is left free -/
theorem nodup_set {T : List Nat} {i k : Nat} (h : T.Nodup) (hk : k ∉ T) : (T.set i k).Nodup := by
  unfold List.Nodup at h ⊢
  rw [List.pairwise_iff_getElem] at h ⊢
  intro a b ha hb hab e
  rw [List.length_set] at ha hb
  rw [List.getElem_set, List.getElem_set] at e
  split at e
  · split at e
    · omega
    · exact hk (e ▸ List.getElem_mem _)
  · split at e
    · exact hk (e ▸ List.getElem_mem _)
    · exact h a b ha hb hab e
theorem no_free {cs : List Int} {n : Int} (g : Good cs n) (hn : 1 ≤ n) {l : Nat} (hl : l < cs.length) {e : Ed} (he : e ∈ edsM cs n l) (hsc : e.sc = false) : ∃ e' ∈ edsM cs n l, e'.sc = true ∧ e'.p = e.p := by
  apply Classical.byContradiction
  intro hno
  obtain ⟨i, hi⟩ := List.mem_iff_getElem?.1 he
  obtain ⟨s, k, hs, hk, rfl⟩ := edsM_at hi
  have hok := costM_ok g hl
  obtain ⟨t1, t2, t3⟩ := fst1_spec hok
  have hpar := (edsM_mem g hl he).2
  rw [edM_s] at hpar
  obtain ⟨k', hk'⟩ := List.mem_iff_getElem?.1 hpar.2.1
  obtain ⟨u1, u2⟩ := List.getElem?_eq_some_iff.1 hk'
  have hgd : (levL cs.length (l + 1)).getD k' 0 = (edM cs n l s k).p := by rw [List.getD_eq_getElem?_getD, hk']; rfl
  have hnm : k' ∉ fst1 (costM cs n l) 0 := fun hm => by
    obtain ⟨j, hj⟩ := List.mem_iff_getElem?.1 hm
    have hjl := (List.getElem?_eq_some_iff.1 hj).1
    rw [t1, costM_len] at hjl
    have hsj : (levL cs.length l)[j]? = some (levL cs.length l)[j] := List.getElem?_eq_getElem hjl
    refine hno ⟨_, List.mem_of_getElem? (edsM_of hsj hj), ?_⟩
    have : edM cs n l (levL cs.length l)[j] k' = ⟨(levL cs.length l)[j], (levL cs.length (l + 1)).getD k' 0, true⟩ := by unfold edM; rw [if_pos u1]
    rw [this]
    exact ⟨rfl, hgd⟩
  have hok' : Ok (costM cs n l) 0 ((fst1 (costM cs n l) 0).set i k') := by
    refine Ok_of costM_rows (by rw [List.length_set, t1]) (nodup_set t2 hnm) fun x hx => ?_
    rcases List.mem_or_eq_of_mem_set hx with h | h
    · have := t3 x h; rwa [costM_wid g hl] at this
    · omega
  have a := restR_le _ _ _ hok'
  rw [sumC_set _ _ i _ k k' (costM_of hs) hk, (fst1_ok _ _ 0 (room_ok hok)).2] at a
  have hc := edM_cost g hl hs (pick_fits g hl hs hk)
  rw [← hc, rowM_scan u1, hgd] at a
  obtain ⟨q1, q2⟩ := par_bd g hl (List.mem_of_getElem? hs) hpar.1
  have := sortB_gt g.c q1 q2 g.d4 hn g.n3
  unfold scanC costE at a
  rw [if_pos hpar.1, if_neg (by omega), hsc] at a
  simp at a
  omega
end Go.Proofs.YtjllmladhjbnaaaGreatDoor
/- Another plan, by numbers: it is right. The orders of a plan that is right. -/
namespace Go.Proofs.YtjllmladhjbnaaaGreatDoor
open Go.RowKit
/-- The edge of set i, behind others. -/
def othE (d : Nat) (ns : List Int) (acc : List Ed) (i : Nat) (s : Int) : Ed :=
  if parL s d = [] then ⟨s, -1, false⟩
  else ⟨s, (parL s d).getD ((ns[i]?.getD (i : Int)) % ((parL s d).length : Int)).toNat 0,
    decide ((ns[i]?.getD (i : Int)).tdiv 4 % 2 = 0) && !(acc.any fun x => x.sc && x.p == (parL s d).getD ((ns[i]?.getD (i : Int)) % ((parL s d).length : Int)).toNat 0)⟩
def othTo (d : Nat) (ns : List Int) : Nat → List Ed
  | 0 => []
  | i + 1 => othTo d ns i ++ [othE d ns (othTo d ns i) i ((setsL d).getD i 0)]
def othM (d : Nat) (ns : List Int) : List Ed := othTo d ns (setsL d).length
theorem othTo_len (d : Nat) (ns : List Int) : ∀ i, (othTo d ns i).length = i
  | 0 => rfl
  | i + 1 => by simp [othTo, othTo_len d ns i]
theorem othE_s (d : Nat) (ns : List Int) (acc : List Ed) (i : Nat) (s : Int) : (othE d ns acc i s).s = s := by unfold othE; split <;> rfl
theorem othTo_sets (d : Nat) (ns : List Int) : ∀ i, i ≤ (setsL d).length → (othTo d ns i).map (·.s) = (setsL d).take i
  | 0, _ => rfl
  | i + 1, h => by
    have hs : (setsL d)[i]? = some (setsL d)[i] := List.getElem?_eq_getElem (by omega)
    rw [othTo, List.map_append, othTo_sets d ns i (by omega), List.take_add_one, hs]
    simp only [List.map_cons, List.map_nil, othE_s, Option.toList_some]
    rw [List.getD_eq_getElem?_getD, hs]; rfl
theorem othE_par {d : Nat} {ns : List Int} {acc : List Ed} {i : Nat} {s : Int} (h : parL s d ≠ []) : (othE d ns acc i s).p ∈ parL s d := by
  have hl : 0 < (parL s d).length := List.length_pos_iff.2 h
  have a := Int.emod_nonneg (ns[i]?.getD (i : Int)) (show ((parL s d).length : Int) ≠ 0 by omega)
  have b := Int.emod_lt_of_pos (ns[i]?.getD (i : Int)) (show (0 : Int) < ((parL s d).length : Int) by omega)
  unfold othE
  rw [if_neg h]
  dsimp only
  rw [List.getD_eq_getElem?_getD, List.getElem?_eq_getElem (show ((ns[i]?.getD (i : Int)) % ((parL s d).length : Int)).toNat < (parL s d).length by omega)]
  exact List.getElem_mem _
theorem othE_once {d : Nat} {ns : List Int} {acc : List Ed} {i : Nat} {s : Int} : ∀ x ∈ acc, x.sc = true → (othE d ns acc i s).sc = true → x.p ≠ (othE d ns acc i s).p := by
  intro x hx h1 h2 e
  unfold othE at h2 e
  split at h2
  · cases h2
  · rename_i hne
    rw [if_neg hne] at e
    simp only [Bool.and_eq_true, Bool.not_eq_true', List.any_eq_false] at h2
    exact h2.2 x hx (by simp [h1, e])
theorem sets_par : ∀ d, 1 ≤ d → d ≤ 4 → parL (fullB d) d = [] ∧ ∀ s ∈ (setsL d).tail, parL s d ≠ [] := by
  intro d h1 h2
  rcases (by omega : d = 1 ∨ d = 2 ∨ d = 3 ∨ d = 4) with rfl | rfl | rfl | rfl <;> decide +kernel
theorem othTo_right (d : Nat) (h1 : 1 ≤ d) (h2 : d ≤ 4) (ns : List Int) : ∀ i, i ≤ (setsL d).length →
    (∀ (j : Nat) e, (othTo d ns i)[j]? = some e → (j = 0 → e = topE d) ∧ (0 < j → e.p ∈ parL e.s d)) ∧ (othTo d ns i).Pairwise (fun a b => a.sc = true → b.sc = true → a.p ≠ b.p)
  | 0, _ => ⟨fun j e h => by simp [othTo] at h, List.Pairwise.nil⟩
  | i + 1, h => by
    obtain ⟨ih1, ih2⟩ := othTo_right d h1 h2 ns i (by omega)
    have hl := othTo_len d ns i
    have hs : (setsL d)[i]? = some (setsL d)[i] := List.getElem?_eq_getElem (by omega)
    have hg : (setsL d).getD i 0 = (setsL d)[i] := by rw [List.getD_eq_getElem?_getD, hs]; rfl
    refine ⟨fun j e he => ?_, ?_⟩
    · rw [othTo, hg] at he
      rcases Nat.lt_or_ge j i with hj | hj
      · rw [List.getElem?_append_left (by omega)] at he
        exact ih1 j e he
      · rw [List.getElem?_append_right (by omega), hl] at he
        cases hq : j - i with
        | succ q => rw [hq] at he; simp at he
        | zero =>
          rw [hq] at he
          simp at he
          obtain rfl : j = i := by omega
          subst he
          refine ⟨fun h0 => ?_, fun h0 => ?_⟩
          · subst h0
            have := sets_head d h1 h2
            rw [hs] at this
            injection this with this
            rw [this]
            unfold othE
            rw [if_pos (sets_par d h1 h2).1]
            rfl
          · rw [othE_s]
            refine othE_par ((sets_par d h1 h2).2 _ ?_)
            refine List.mem_iff_getElem?.2 ⟨j - 1, ?_⟩
            rw [List.getElem?_tail, show j - 1 + 1 = j by omega, hs]
    · rw [othTo, List.pairwise_append]
      exact ⟨ih2, List.pairwise_singleton _ _, fun a ha b hb h3 h4 => by
        simp at hb
        subst hb
        exact othE_once a ha h3 h4⟩
theorem oth_right (d : Nat) (h1 : 1 ≤ d) (h2 : d ≤ 4) (ns : List Int) : RightP d (othM d ns) := by
  obtain ⟨a, b⟩ := othTo_right d h1 h2 ns _ (Nat.le_refl _)
  have hl := othTo_len d ns (setsL d).length
  have hp : 1 ≤ (setsL d).length := by rw [setsL_len d h1 h2]; exact Nat.two_pow_pos d
  refine ⟨?_, ?_, fun e he => ?_, b⟩
  · unfold othM
    rw [othTo_sets d ns _ (Nat.le_refl _), List.take_length]
  · unfold othM
    rw [List.head?_eq_getElem?]
    have he : (othTo d ns (setsL d).length)[0]? = some ((othTo d ns (setsL d).length)[0]'(by omega)) := List.getElem?_eq_getElem (by omega)
    rw [he, (a 0 _ he).1 rfl]
  · obtain ⟨j, hj⟩ := List.mem_iff_getElem?.1 he
    rw [List.getElem?_tail] at hj
    exact (a (j + 1) e hj).2 (by omega)
/-! ### Orders -/
def subI (a b : Int) : Int := bits .andNot .i64 a b
def ordR (es : List Ed) : Nat → Int → List Int
  | 0, s => dimsL s
  | f + 1, s => match es.find? fun e => e.sc && e.p == s with
    | some e => ordR es f e.s ++ dimsL (subI s e.s)
    | none => dimsL s
/-- In which order a set's dimensions are sorted. -/
def ordM (es : List Ed) (s : Int) : List Int := ordR es (lvl s).toNat s
theorem par_lvl : ∀ d, 1 ≤ d → d ≤ 4 → ∀ s ∈ setsL d, ∀ p ∈ parL s d, lvl p = lvl s + 1 ∧ p ∈ setsL d := by
  intro d h1 h2
  rcases (by omega : d = 1 ∨ d = 2 ∨ d = 3 ∨ d = 4) with rfl | rfl | rfl | rfl <;> decide +kernel
theorem RightP.mem {d : Nat} {es : List Ed} (h : RightP d es) {e : Ed} (he : e ∈ es) : e.s ∈ setsL d := by rw [← h.sets]; exact List.mem_map.2 ⟨e, he, rfl⟩
theorem RightP.scan {d : Nat} {es : List Ed} (h : RightP d es) (h1 : 1 ≤ d) (h2 : d ≤ 4) {e : Ed} (he : e ∈ es) (hs : e.sc = true) : e.p ∈ parL e.s d ∧ lvl e.p = lvl e.s + 1 := by
  have hm : e ∈ es.tail := by
    rw [h.cons] at he
    rcases List.mem_cons.1 he with rfl | he
    · cases hs
    · exact he
  have hp := h.par e hm
  exact ⟨hp, (par_lvl d h1 h2 _ (h.mem he) _ hp).1⟩
/-- The edge by which a set is scanned is one. -/
theorem RightP.find {d : Nat} {es : List Ed} (h : RightP d es) {e : Ed} (he : e ∈ es) (hs : e.sc = true) : es.find? (fun x => x.sc && x.p == e.p) = some e := by
  cases hf : es.find? (fun x => x.sc && x.p == e.p) with
  | none =>
    rw [List.find?_eq_none] at hf
    exact absurd (by simp [hs]) (hf e he)
  | some x =>
    have h1 := List.find?_some hf
    have h2 := List.mem_of_find?_eq_some hf
    simp only [Bool.and_eq_true, beq_iff_eq] at h1
    obtain ⟨i, hi⟩ := List.mem_iff_getElem?.1 h2
    obtain ⟨j, hj⟩ := List.mem_iff_getElem?.1 he
    obtain ⟨i1, i2⟩ := List.getElem?_eq_some_iff.1 hi
    obtain ⟨j1, j2⟩ := List.getElem?_eq_some_iff.1 hj
    have ho := List.pairwise_iff_getElem.1 h.once
    rcases Nat.lt_trichotomy i j with h3 | h3 | h3
    · have := ho i j i1 j1 h3; rw [i2, j2] at this; exact absurd h1.2 (this h1.1 hs)
    · subst h3; rw [← i2, ← j2]
    · have := ho j i j1 i1 h3; rw [i2, j2] at this; exact absurd h1.2.symm (this hs h1.1)
theorem lvl_nn (s : Int) : 0 ≤ lvl s := by unfold lvl; omega
theorem ordM_scan {d : Nat} {es : List Ed} (h : RightP d es) (h1 : 1 ≤ d) (h2 : d ≤ 4) {e : Ed} (he : e ∈ es) (hs : e.sc = true) : ordM es e.p = ordM es e.s ++ dimsL (subI e.p e.s) := by
  have hl := (h.scan h1 h2 he hs).2
  have := lvl_nn e.s
  unfold ordM
  rw [show (lvl e.p).toNat = (lvl e.s).toNat + 1 by omega, ordR, h.find he hs]
theorem ordM_none {es : List Ed} {s : Int} (h : ∀ e ∈ es, e.sc = true → e.p ≠ s) : ordM es s = dimsL s := by
  unfold ordM
  cases (lvl s).toNat with
  | zero => rfl
  | succ f =>
    have : es.find? (fun e => e.sc && e.p == s) = none := by
      rw [List.find?_eq_none]
      intro e he hh
      simp only [Bool.and_eq_true, beq_iff_eq] at hh
      exact h e he hh.1 hh.2
    rw [ordR, this]
end Go.Proofs.YtjllmladhjbnaaaGreatDoor
/- The orders of a plan that is right, filled from behind; each has its set's dimensions. -/
namespace Go.Proofs.YtjllmladhjbnaaaGreatDoor
open Go.RowKit
/-- Whether an edge behind one is scanned of a set. -/
def ordAt (es : List Ed) (k : Nat) (s : Int) : List Int := if (es.drop k).any (fun e => e.sc && e.p == s) then ordM es s else dimsL s
def ordTo (es : List Ed) (k N : Nat) : List (List Int) := (List.range N).map fun (s : Nat) => ordAt es k (s : Int)
theorem ordTo_len (es : List Ed) (k N : Nat) : (ordTo es k N).length = N := by simp [ordTo]
theorem ordTo_at (es : List Ed) (k : Nat) {N s : Nat} (h : s < N) : (ordTo es k N)[s]? = some (ordAt es k (s : Int)) := by
  unfold ordTo
  rw [List.getElem?_map, List.getElem?_range h]; rfl
theorem ordTo_start (es : List Ed) (N : Nat) : ordTo es es.length N = (List.range N).map fun (s : Nat) => dimsL (s : Int) := by
  unfold ordTo ordAt
  simp
theorem sets_down : ∀ d, 1 ≤ d → d ≤ 4 → (setsL d).Pairwise fun a b => lvl b ≤ lvl a := by
  intro d h1 h2
  rcases (by omega : d = 1 ∨ d = 2 ∨ d = 3 ∨ d = 4) with rfl | rfl | rfl | rfl <;> decide +kernel
theorem ordAt_zero {es : List Ed} {s : Int} : ordAt es 0 s = ordM es s := by
  unfold ordAt
  rw [List.drop_zero]
  split
  · rfl
  · rename_i h
    refine (ordM_none fun e he hs hp => h ?_).symm
    rw [List.any_eq_true]
    exact ⟨e, he, by simp [hs, hp]⟩
theorem ordAt_skip {es : List Ed} {k : Nat} {e : Ed} (he : es[k]? = some e) (s : Int) (h : e.sc = false ∨ e.p ≠ s) : ordAt es k s = ordAt es (k + 1) s := by
  obtain ⟨hk, e1⟩ := List.getElem?_eq_some_iff.1 he
  unfold ordAt
  rw [List.drop_eq_getElem_cons hk, e1, List.any_cons]
  have : (e.sc && e.p == s) = false := by
    rcases h with h | h
    · rw [h]; rfl
    · simp [h]
  rw [this, Bool.false_or]
theorem ordTo_skip {es : List Ed} {k N : Nat} {e : Ed} (he : es[k]? = some e) (h : e.sc = false) : ordTo es k N = ordTo es (k + 1) N := by
  unfold ordTo
  apply List.map_congr_left
  intro s _
  exact ordAt_skip he s (.inl h)
/-- What is scanned of an edge's set stands behind the edge. -/
theorem ordAt_done {d : Nat} {es : List Ed} (h : RightP d es) (h1 : 1 ≤ d) (h2 : d ≤ 4) {k : Nat} {e : Ed} (he : es[k]? = some e) : ordAt es (k + 1) e.s = ordM es e.s := by
  unfold ordAt
  split
  · rfl
  · rename_i hno
    refine (ordM_none fun x hx hs hp => hno ?_).symm
    obtain ⟨j, hj⟩ := List.mem_iff_getElem?.1 hx
    have hl := (h.scan h1 h2 hx hs).2
    have hkj : k < j := by
      rcases Nat.lt_or_ge k j with h3 | h3
      · exact h3
      · exfalso
        have hsj : (setsL d)[j]? = some x.s := by rw [← h.sets, List.getElem?_map, hj]; rfl
        have hsk : (setsL d)[k]? = some e.s := by rw [← h.sets, List.getElem?_map, he]; rfl
        obtain ⟨a1, a2⟩ := List.getElem?_eq_some_iff.1 hsj
        obtain ⟨b1, b2⟩ := List.getElem?_eq_some_iff.1 hsk
        rcases Nat.lt_or_ge j k with h4 | h4
        · have := List.pairwise_iff_getElem.1 (sets_down d h1 h2) j k a1 b1 h4
          rw [a2, b2] at this
          rw [hp] at hl
          omega
        · obtain rfl : j = k := by omega
          rw [hj] at he
          injection he with he
          subst he
          rw [hp] at hl
          omega
    rw [List.any_eq_true]
    exact ⟨x, List.mem_iff_getElem?.2 ⟨j - (k + 1), by rw [List.getElem?_drop, show k + 1 + (j - (k + 1)) = j by omega]; exact hj⟩, by simp [hs, hp]⟩
theorem ordTo_set {d : Nat} {es : List Ed} (h : RightP d es) (h1 : 1 ≤ d) (h2 : d ≤ 4) {k N : Nat} {e : Ed} (he : es[k]? = some e) (hs : e.sc = true) :
    (ordTo es (k + 1) N).set e.p.toNat (ordM es e.s ++ dimsL (subI e.p e.s)) = ordTo es k N := by
  have hm := List.mem_of_getElem? he
  have hp := par_lvl d h1 h2 _ (h.mem hm) _ (h.scan h1 h2 hm hs).1
  have hb := sets_bd d h1 h2 _ hp.2
  obtain ⟨hk, e1⟩ := List.getElem?_eq_some_iff.1 he
  rw [← ordM_scan h h1 h2 hm hs]
  apply List.ext_getElem?
  intro i
  by_cases hi : i < N
  · rw [ordTo_at es k hi]
    by_cases hip : e.p.toNat = i
    · rw [hip, List.getElem?_set_self (by rw [ordTo_len]; exact hi)]
      have hii : (i : Int) = e.p := by omega
      unfold ordAt
      rw [if_pos, hii]
      rw [List.drop_eq_getElem_cons hk, e1, List.any_cons, hs, hii]
      simp
    · rw [List.getElem?_set_ne hip, ordTo_at es (k + 1) hi, ordAt_skip he (i : Int) (.inr (by omega))]
  · rw [List.getElem?_eq_none (by simp [ordTo]; omega), List.getElem?_eq_none (by simp [ordTo]; omega)]
/-! ### Each order has its set's dimensions -/
theorem par_perm : ∀ d, 1 ≤ d → d ≤ 4 → ∀ s ∈ setsL d, ∀ p ∈ parL s d, (dimsL s ++ dimsL (subI p s)).Perm (dimsL p) := by
  intro d h1 h2
  rcases (by omega : d = 1 ∨ d = 2 ∨ d = 3 ∨ d = 4) with rfl | rfl | rfl | rfl <;> decide +kernel
theorem par_one : ∀ d, 1 ≤ d → d ≤ 4 → ∀ s ∈ setsL d, ∀ p ∈ parL s d, (dimsL (subI p s)).length = 1 := by
  intro d h1 h2
  rcases (by omega : d = 1 ∨ d = 2 ∨ d = 3 ∨ d = 4) with rfl | rfl | rfl | rfl <;> decide +kernel
theorem ordM_perm {d : Nat} {es : List Ed} (h : RightP d es) (h1 : 1 ≤ d) (h2 : d ≤ 4) : ∀ (f : Nat) (s : Int), (lvl s).toNat = f → (ordM es s).Perm (dimsL s) := by
  intro f
  induction f with
  | zero =>
    intro s hf
    unfold ordM
    rw [hf]
    exact List.Perm.refl _
  | succ f ih =>
    intro s hf
    by_cases hx : ∃ e ∈ es, e.sc = true ∧ e.p = s
    · obtain ⟨e, he, hs, rfl⟩ := hx
      have hsc := h.scan h1 h2 he hs
      rw [ordM_scan h h1 h2 he hs]
      have := lvl_nn e.s
      have a := ih e.s (by omega)
      exact (List.Perm.append_right _ a).trans (par_perm d h1 h2 _ (h.mem he) _ hsc.1)
    · rw [ordM_none fun e he hs hp => hx ⟨e, he, hs, hp⟩]
theorem ordM_len {d : Nat} {es : List Ed} (h : RightP d es) (h1 : 1 ≤ d) (h2 : d ≤ 4) (s : Int) : (ordM es s).length = (dimsL s).length := (ordM_perm h h1 h2 _ s rfl).length_eq
def ordsM (es : List Ed) : List (List Int) := es.map fun e => ordM es e.s
end Go.Proofs.YtjllmladhjbnaaaGreatDoor
