/- Costs whose columns change places; rows and columns about: the total stays. -/
import Derived.Test.YtnjalnnbdmmcmaaMatU
namespace Go.Proofs.Ytnjalnnbdmmcmaa
open Go.RowKit Go.Shelf
def rowF (k : Nat) (g : Nat → Int) : List Int := (List.range k).map g
def matF (k : Nat) (f : Nat → Nat → Int) : List (List Int) := (List.range k).map fun i => rowF k (f i)
theorem rowF_len (k : Nat) (g : Nat → Int) : (rowF k g).length = k := by simp [rowF]
theorem rowF_cst {k j : Nat} (g : Nat → Int) (h : j < k) : cst (rowF k g) j = g j := by
  unfold cst rowF
  rw [List.getElem?_map, List.getElem?_range h]
  rfl
theorem matF_len (k : Nat) (f : Nat → Nat → Int) : (matF k f).length = k := by simp [matF]
theorem matF_at {k i : Nat} (f : Nat → Nat → Int) (h : i < k) : (matF k f)[i]? = some (rowF k (f i)) := by
  unfold matF
  rw [List.getElem?_map, List.getElem?_range h]
  rfl
theorem matF_row {k : Nat} {f : Nat → Nat → Int} : ∀ r ∈ matF k f, r.length = k := by
  intro r hr
  obtain ⟨i, -, rfl⟩ := List.mem_map.1 hr
  exact rowF_len _ _
theorem matF_ok {k : Nat} {f : Nat → Nat → Int} (hk : k ≤ 12) (hb : ∀ i j, 0 ≤ f i j ∧ f i j ≤ 1000000) : okM (matF k f) = true :=
  okM_of (m := k) hk (Nat.le_of_eq (matF_len k f)) (fun r hr => by
    obtain ⟨i, -, rfl⟩ := List.mem_map.1 hr
    refine ⟨rowF_len _ _, fun x hx => ?_⟩
    obtain ⟨j, -, rfl⟩ := List.mem_map.1 hx
    exact hb i j)
theorem matF_room (k : Nat) (f : Nat → Nat → Int) : Room (matF k f) k 0 := ⟨matF_row, by rw [matF_len, free_zero]; exact Nat.le_refl _⟩
def Okd (k : Nat) (d : List Nat) : Prop := d.length = k ∧ d.Nodup ∧ ∀ x ∈ d, x < k
theorem matF_iff {k : Nat} {f : Nat → Nat → Int} {d : List Nat} : Ok (matF k f) 0 d ↔ Okd k d := by
  rw [Ok_iff _ k 0 d matF_row, matF_len]
  unfold Okd
  simp
def sumZ (f : Nat → Nat → Int) : List Nat → List Nat → Int
  | i :: L, x :: d => f i x + sumZ f L d
  | _, _ => 0
def sumG (G : Nat → Int) : List Nat → Int
  | [] => 0
  | x :: t => G x + sumG G t
theorem sumC_Z (k : Nat) (f : Nat → Nat → Int) : ∀ (L d : List Nat), (∀ x ∈ d, x < k) → sumC (L.map fun i => rowF k (f i)) d = sumZ f L d
  | [], [], _ => rfl
  | [], _ :: _, _ => rfl
  | _ :: _, [], _ => rfl
  | i :: L, x :: d, h => by
    have ih := sumC_Z k f L d (fun y hy => h y (List.mem_cons_of_mem _ hy))
    show cst (rowF k (f i)) x + sumC (L.map fun i => rowF k (f i)) d = f i x + sumZ f L d
    rw [ih, rowF_cst _ (h x (List.mem_cons_self ..))]
theorem sumG_perm {G : Nat → Int} {l l' : List Nat} (p : l.Perm l') : sumG G l = sumG G l' := by
  induction p with
  | nil => rfl
  | cons x _ ih => show G x + _ = G x + _; rw [ih]
  | swap x y l => show G y + (G x + _) = G x + (G y + _); omega
  | trans _ _ h1 h2 => rw [h1, h2]
theorem sumG_congr {G H : Nat → Int} : ∀ (l : List Nat), (∀ x ∈ l, G x = H x) → sumG G l = sumG H l
  | [], _ => rfl
  | x :: t, h => by
    show G x + sumG G t = H x + sumG H t
    rw [h x (List.mem_cons_self ..), sumG_congr t fun y hy => h y (List.mem_cons_of_mem _ hy)]
theorem sumZ_idx (f : Nat → Nat → Int) : ∀ (L d : List Nat), L.length = d.length → d.Nodup → sumZ f L d = sumG (fun x => f (L[d.idxOf x]?.getD 0) x) d
  | [], [], _, _ => rfl
  | [], _ :: _, h, _ => by simp at h
  | _ :: _, [], h, _ => by simp at h
  | i :: L, x :: d, h, hn => by
    obtain ⟨h1, h2⟩ := List.nodup_cons.1 hn
    have ih := sumZ_idx f L d (by simpa using h) h2
    show f i x + sumZ f L d = f (((i :: L)[(x :: d).idxOf x]?).getD 0) x + sumG (fun y => f ((i :: L)[(x :: d).idxOf y]?.getD 0) y) d
    rw [ih, List.idxOf_cons_self]
    congr 1
    refine sumG_congr d fun y hy => ?_
    have hne : x ≠ y := fun e => h1 (e ▸ hy)
    have e : (x :: d).idxOf y = d.idxOf y + 1 := by
      have hb : (x == y) = false := by simpa using hne
      rw [List.idxOf_cons, hb]
      rfl
    rw [e]
    rfl
theorem sumZ_map (g : Nat → Nat → Int) (h : Nat → Nat) : ∀ L : List Nat, sumZ g L (L.map h) = sumG (fun i => g i (h i)) L
  | [] => rfl
  | i :: L => by
    show g i (h i) + sumZ g L (L.map h) = g i (h i) + sumG _ L
    rw [sumZ_map g h L]
theorem pigeon : ∀ (k : Nat) (d : List Nat), d.Nodup → (∀ x ∈ d, x < k) → d.length ≤ k
  | 0, d, _, h => by
    cases d with
    | nil => exact Nat.le_refl _
    | cons x t => exact absurd (h x (List.mem_cons_self ..)) (by omega)
  | k + 1, d, hn, h => by
    have ih := pigeon k (d.erase k) (hn.erase k) (fun x hx => by
      have h1 := h x (List.mem_of_mem_erase hx)
      have h2 : x ≠ k := ((hn.mem_erase_iff).1 hx).1
      omega)
    have := List.length_erase (a := k) (l := d)
    split at this <;> omega
theorem all_in {k : Nat} {d : List Nat} (h : Okd k d) {i : Nat} (hi : i < k) : i ∈ d := by
  by_cases hm : i ∈ d
  · exact hm
  · have := pigeon k (i :: d) (List.nodup_cons.2 ⟨hm, h.2.1⟩) (fun x hx => by
      rcases List.mem_cons.1 hx with rfl | hx
      · exact hi
      · exact h.2.2 x hx)
    have := h.1
    simp at *
    omega
theorem okd_perm {k : Nat} {d : List Nat} (h : Okd k d) : d.Perm (List.range k) := by
  rw [List.perm_iff_count]
  intro a
  by_cases ha : a < k
  · rw [h.2.1.count, List.nodup_range.count, if_pos (all_in h ha), if_pos (List.mem_range.2 ha)]
  · rw [h.2.1.count, List.nodup_range.count, if_neg (fun hm => ha (h.2.2 a hm)), if_neg (fun hm => ha (List.mem_range.1 hm))]
theorem idx_lt {k : Nat} {d : List Nat} (h : Okd k d) {i : Nat} (hi : i < k) : d.idxOf i < k := by
  have := List.idxOf_lt_length_of_mem (all_in h hi)
  rw [h.1] at this
  exact this
theorem idx_at {k : Nat} {d : List Nat} (h : Okd k d) {i : Nat} (hi : i < k) : d[d.idxOf i]? = some i := by
  have hl := List.idxOf_lt_length_of_mem (all_in h hi)
  rw [List.getElem?_eq_getElem hl, List.getElem_idxOf hl]
theorem okd_map {k : Nat} {h : Nat → Nat} {d : List Nat} (hd : Okd k d) (hl : ∀ i, i < k → h i < k) (hi : ∀ i j, i < k → j < k → h i = h j → i = j) : Okd k (d.map h) :=
  ⟨by rw [List.length_map]; exact hd.1, by
    unfold List.Nodup
    rw [List.pairwise_map]
    refine List.Pairwise.imp_of_mem (fun {a b} ha hb hab e => hab (hi a b (hd.2.2 a ha) (hd.2.2 b hb) e)) hd.2.1, fun x hx => by
    obtain ⟨y, hy, rfl⟩ := List.mem_map.1 hx
    exact hl y (hd.2.2 y hy)⟩
theorem okd_range (k : Nat) : Okd k (List.range k) := ⟨List.length_range, List.nodup_range, fun _ hx => List.mem_range.1 hx⟩
theorem tot_le {k : Nat} {f g : Nat → Nat → Int} (h : ∀ d, Okd k d → ∃ d', Okd k d' ∧ sumZ g (List.range k) d' = sumZ f (List.range k) d) : restR (matF k g) 0 ≤ restR (matF k f) 0 := by
  obtain ⟨f1, f2⟩ := fst1_ok (matF k f) k 0 (matF_room k f)
  have hd := matF_iff.1 f1
  obtain ⟨d', h1, h2⟩ := h _ hd
  have h3 := restR_le (matF k g) 0 d' (matF_iff.2 h1)
  have e1 : sumC (matF k g) d' = sumZ g (List.range k) d' := sumC_Z k g _ d' h1.2.2
  have e2 : sumC (matF k f) (fst1 (matF k f) 0) = sumZ f (List.range k) (fst1 (matF k f) 0) := sumC_Z k f _ _ hd.2.2
  rw [e1, h2, ← e2, f2] at h3
  exact h3
theorem turn_le {k : Nat} (f : Nat → Nat → Int) : restR (matF k fun i j => f j i) 0 ≤ restR (matF k f) 0 := by
  refine tot_le fun d hd => ⟨(List.range k).map fun i => d.idxOf i, okd_map (okd_range k) (fun i hi => idx_lt hd hi) (fun i j hi hj e => ?_), ?_⟩
  · have h1 := idx_at hd hi
    rw [e, idx_at hd hj] at h1
    exact (Option.some.inj h1).symm
  · rw [sumZ_map, sumZ_idx f (List.range k) d (by rw [List.length_range, hd.1]) hd.2.1, sumG_perm (okd_perm hd)]
    refine sumG_congr _ fun x hx => ?_
    rw [List.getElem?_range (idx_lt hd (List.mem_range.1 hx))]
    rfl
theorem turn_eq {k : Nat} (f : Nat → Nat → Int) : restR (matF k fun i j => f j i) 0 = restR (matF k f) 0 := by
  have h1 := turn_le (k := k) f
  have h2 := turn_le (k := k) (fun i j => f j i)
  exact Int.le_antisymm h1 h2
theorem sumZ_swap {k : Nat} {f g : Nat → Nat → Int} {h : Nat → Nat} (hg : ∀ i j, i < k → j < k → g i (h j) = f i j) : ∀ (L d : List Nat), (∀ x ∈ L, x < k) → (∀ x ∈ d, x < k) → sumZ g L (d.map h) = sumZ f L d
  | [], [], _, _ => rfl
  | [], _ :: _, _, _ => rfl
  | _ :: _, [], _, _ => rfl
  | i :: L, x :: d, hL, hd => by
    have ih := sumZ_swap hg L d (fun y hy => hL y (List.mem_cons_of_mem _ hy)) (fun y hy => hd y (List.mem_cons_of_mem _ hy))
    show g i (h x) + sumZ g L (d.map h) = f i x + sumZ f L d
    rw [ih, hg i x (hL i (List.mem_cons_self ..)) (hd x (List.mem_cons_self ..))]
theorem cols_eq {k : Nat} {f g : Nat → Nat → Int} {T : List Nat} (hT : Okd k T) (hg : ∀ i j, i < k → j < k → g i (T[j]?.getD 0) = f i j) : restR (matF k g) 0 = restR (matF k f) 0 := by
  have tl : ∀ j, j < k → T[j]?.getD 0 < k := fun j hj => by
    rw [List.getElem?_eq_getElem (by rw [hT.1]; exact hj)]
    exact hT.2.2 _ (List.getElem_mem _)
  have ti : ∀ i j, i < k → j < k → T[i]?.getD 0 = T[j]?.getD 0 → i = j := fun i j hi hj e => by
    have l1 : i < T.length := by rw [hT.1]; exact hi
    have l2 : j < T.length := by rw [hT.1]; exact hj
    rw [List.getElem?_eq_getElem l1, List.getElem?_eq_getElem l2] at e
    have e2 : T[i] = T[j] := e
    rcases Nat.lt_trichotomy i j with h | h | h
    · exact absurd e2 (List.pairwise_iff_getElem.1 hT.2.1 i j l1 l2 h)
    · exact h
    · exact absurd e2.symm (List.pairwise_iff_getElem.1 hT.2.1 j i l2 l1 h)
  refine Int.le_antisymm (tot_le fun d hd => ⟨d.map fun j => T[j]?.getD 0, okd_map hd tl ti, sumZ_swap hg _ _ (fun x hx => List.mem_range.1 hx) hd.2.2⟩) (tot_le fun d hd => ⟨d.map fun j => T.idxOf j, okd_map hd (fun i hi => idx_lt hT hi) (fun i j hi hj e => ?_), sumZ_swap (fun i j hi hj => ?_) _ _ (fun x hx => List.mem_range.1 hx) hd.2.2⟩)
  · have h1 := idx_at hT hi
    rw [e, idx_at hT hj] at h1
    exact (Option.some.inj h1).symm
  · have h1 := hg i (T.idxOf j) hi (idx_lt hT hj)
    rw [idx_at hT hj] at h1
    exact h1.symm
/-- One number is written. -/
def updF (f : Nat → Nat → Int) (i j : Nat) (y : Int) : Nat → Nat → Int := fun a b => if a = i ∧ b = j then y else f a b
theorem rowF_set {k j : Nat} (g : Nat → Int) (y : Int) : (rowF k g).set j y = rowF k (fun b => if b = j then y else g b) := by
  apply List.ext_getElem
  · simp [rowF]
  · intro q h1 h2
    simp only [rowF, List.getElem_set, List.getElem_map, List.getElem_range]
    by_cases h : j = q
    · subst h; simp
    · rw [if_neg h, if_neg (fun e => h e.symm)]
theorem updF_row (f : Nat → Nat → Int) (i j : Nat) (y : Int) : (fun b => if b = j then y else f i b) = updF f i j y i := by
  funext b
  unfold updF
  by_cases h : b = j
  · rw [if_pos h, if_pos ⟨rfl, h⟩]
  · rw [if_neg h, if_neg (fun e => h e.2)]
theorem updF_else (f : Nat → Nat → Int) {i j : Nat} (y : Int) {a : Nat} (h : a ≠ i) : updF f i j y a = f a := by
  funext b
  unfold updF
  rw [if_neg (fun e => h e.1)]
end Go.Proofs.Ytnjalnnbdmmcmaa
