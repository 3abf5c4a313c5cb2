/- slices.SortStableFunc of a row of cells of the call's own, 60 at most, by their keys. -/
import Derived.Test.YtmolfcccfekcpaaCel9
import Derived.Test.YtmolfcccfekcpaaStab5
namespace Go.Proofs.Ytmolfcccfekcpaa
open Go.RowKit Go.Shelf Go.Sort Go.Lib
/-- A cell, by its values, that reads so in w. -/
abbrev CV (w : World) := { p : V5 × Cel // Reads w p.1 p.2 ∧ p.2.key.length ≤ 1000000 }
def encC {w : World} (p : CV w) : List Value := p.1.1.l
def cmpC {w : World} (p q : CV w) : Int := cmpL p.1.2.key q.1.2.key
theorem ri_none (w : World) : RI w (.slice none 0 0) [] := (OI.nil 0 w).ri
instance (w : World) : Inhabited (CV w) := ⟨⟨(⟨.slice none 0 0, .int .i64 0, .slice none 0 0, .slice none 0 0, .slice none 0 0⟩, ⟨[], 0, [], [], []⟩), ⟨rfl, ⟨ri_none w, ri_none w, ri_none w, ri_none w⟩, ⟨by decide, by decide⟩⟩, by simp⟩⟩
theorem swoC (w : World) : SWO (ltOf (cmpC (w := w))) where
  irrefl x := by simp [ltOf, cmpC, cmpL_self]
  trans x y z h1 h2 := by
    have a := of_decide_eq_true h1
    have b := of_decide_eq_true h2
    refine decide_eq_true ?_
    unfold cmpC at *
    have c := cmpL_trans (Int.le_of_lt a) (Int.le_of_lt b)
    rcases Int.lt_or_eq_of_le c with h | h
    · exact h
    · rw [← cmpL_zero.1 h] at b
      have := cmpL_anti x.1.2.key y.1.2.key
      omega
  ntrans x y z h1 h2 := by
    have a := of_decide_eq_false h1
    have b := of_decide_eq_false h2
    refine decide_eq_false ?_
    unfold cmpC at *
    have e1 := cmpL_anti x.1.2.key y.1.2.key
    have e2 := cmpL_anti y.1.2.key z.1.2.key
    have e3 := cmpL_anti x.1.2.key z.1.2.key
    have := cmpL_trans (s := z.1.2.key) (t := y.1.2.key) (u := x.1.2.key) (by omega) (by omega)
    omega
theorem mk_cv {w : World} : ∀ {vs : List V5} {l : List Cel}, ReadsL w vs l → (∀ x ∈ l, x.key.length ≤ 1000000) → ∃ d : List (CV w), d.map (fun p => p.1.1) = vs ∧ d.map (fun p => p.1.2) = l
  | [], [], _, _ => ⟨[], rfl, rfl⟩
  | [], _ :: _, h, _ => by have := h.1; simp at this
  | _ :: _, [], h, _ => by have := h.1; simp at this
  | v :: vs, x :: l, h, hk => by
    obtain ⟨d, h1, h2⟩ := mk_cv (vs := vs) (l := l) ⟨by have := h.1; simpa using this, fun i u y hu hy => h.2 (i + 1) u y (by simpa using hu) (by simpa using hy)⟩ fun y hy => hk y (List.mem_cons_of_mem _ hy)
    exact ⟨⟨(v, x), h.2 0 v x rfl rfl, hk x (by simp)⟩ :: d, by simp [h1], by simp [h2]⟩
theorem flat_at {w : World} (d : Array (CV w)) (j : Nat) (u : Value) (h : (flatV (d.toList.map fun p => p.1.1))[j]? = some u) : j < d.size * 5 ∧ (flatK encC 5 d)[j]! = u := by
  have hj : j < d.size * 5 := by
    have := (List.getElem?_eq_some_iff.1 h).1
    rw [flatV_len] at this
    simpa using this
  refine ⟨hj, ?_⟩
  rw [get_flatK _ _ _ _ hj]
  have hi : j / 5 < d.size := by omega
  have hv : (d.toList.map fun p => p.1.1)[j / 5]? = some (d[j / 5]!).1.1 := by
    rw [getElem!_pos d (j / 5) hi]
    simp [hi]
  obtain ⟨f0, f1, f2, f3, f4⟩ := flatV_at hv
  unfold encC V5.l
  rcases (by omega : j % 5 = 0 ∨ j % 5 = 1 ∨ j % 5 = 2 ∨ j % 5 = 3 ∨ j % 5 = 4) with e | e | e | e | e <;> rw [e]
  · rw [show j / 5 * 5 = j by omega, h] at f0; injection f0 with f0; simp [f0]
  · rw [show j / 5 * 5 + 1 = j by omega, h] at f1; injection f1 with f1; simp [f1]
  · rw [show j / 5 * 5 + 2 = j by omega, h] at f2; injection f2 with f2; simp [f2]
  · rw [show j / 5 * 5 + 3 = j by omega, h] at f3; injection f3 with f3; simp [f3]
  · rw [show j / 5 * 5 + 4 = j by omega, h] at f4; injection f4 with f4; simp [f4]
theorem flat_some {w : World} (d : Array (CV w)) (j : Nat) (h : j < d.size * 5) : (flatV (d.toList.map fun p => p.1.1))[j]? = some (flatK encC 5 d)[j]! := by
  obtain ⟨u, hu⟩ : ∃ u, (flatV (d.toList.map fun p => p.1.1))[j]? = some u := ⟨_, List.getElem?_eq_getElem (by rw [flatV_len]; simpa using h)⟩
  rw [hu, (flat_at d j u hu).2]
theorem cell_lt {w : World} {a : Addr} {v : Value} (h : w.cell? a = some v) : a.block < w.heap.size := by
  rcases Nat.lt_or_ge a.block w.heap.size with h1 | h1
  · exact h1
  · simp [World.cell?, Array.getElem?_eq_none h1] at h
theorem below_sortWorld {w : World} {α : Type} [Inhabited α] (enc : α → List Value) (k B g n : Nat) (d : Array α) (os : Array Obj) (hB : B ≤ w.heap.size) (hg : B ≤ g) : RowKit.Below B w (sortWorldK enc k w g 0 n d os) := by
  unfold sortWorldK
  refine ⟨rfl, rfl, rfl, ?_, fun q hq => ?_⟩
  · rw [size_grow, size_putRowK]; exact Nat.le_add_right _ _
  · rw [heap_grow_old _ _ (by rw [size_putRowK]; show q < w.heap.size; omega)]
    simp only [putRowK, putRow, mapBlock, Array.getElem?_modify]
    rw [if_neg (by omega)]
    rfl
/-- No cell is less than one ahead of it. -/
def SortedP (l : List Cel) : Prop := ∀ (i j : Nat) (x y : Cel), i < j → l[i]? = some x → l[j]? = some y → 0 ≤ cmpL y.key x.key
end Go.Proofs.Ytmolfcccfekcpaa
/- Group-by, as mathematics: cells put one by one among those that rise; runs of one key. -/
namespace Go.Proofs.Ytmolfcccfekcpaa
open Go.RowKit
theorem wrap64_add (u v : Int) : wrap64 (wrap64 u + v) = wrap64 (u + v) := by unfold wrap64; omega
theorem zip_rcomm (f : Int → Int → Int) (h : ∀ x a b, f (f x a) b = f (f x b) a) : ∀ (x a b : List Int), List.zipWith f (List.zipWith f x a) b = List.zipWith f (List.zipWith f x b) a
  | [], _, _ => by simp
  | _ :: _, [], _ => by simp
  | _ :: _, _ :: _, [] => by simp
  | x :: xs, a :: ys, b :: bs => by simp [h x a b, zip_rcomm f h xs ys bs]
theorem zip_comm (f : Int → Int → Int) (h : ∀ a b, f a b = f b a) : ∀ (a b : List Int), List.zipWith f a b = List.zipWith f b a
  | [], _ => by simp
  | _ :: _, [] => by simp
  | a :: ys, b :: bs => by simp [h a b, zip_comm f h ys bs]
theorem join2_rcomm (x a b : Cel) : join2 (join2 x a) b = join2 (join2 x b) a := by
  unfold join2 addL minL maxL
  simp only [Cel.mk.injEq, true_and]
  refine ⟨?_, zip_rcomm _ (fun x a b => ?_) _ _ _, zip_rcomm _ (fun x a b => ?_) _ _ _, zip_rcomm _ (fun x a b => ?_) _ _ _⟩
  · rw [wrap64_add, wrap64_add, Int.add_right_comm]
  · rw [wrap64_add, wrap64_add, Int.add_right_comm]
  · omega
  · omega
theorem join2_comm {a b : Cel} (h : a.key = b.key) : join2 a b = join2 b a := by
  unfold join2 addL minL maxL
  simp only [Cel.mk.injEq]
  refine ⟨h, by rw [Int.add_comm], zip_comm _ (fun a b => by rw [Int.add_comm]) _ _, zip_comm _ (fun a b => by omega) _ _, zip_comm _ (fun a b => by omega) _ _⟩
/-- A cell put among others that rise by keys. -/
def putC : List Cel → Cel → List Cel
  | [], c => [c]
  | x :: l, c => if cmpL x.key c.key < 0 then x :: putC l c else if cmpL x.key c.key = 0 then join2 x c :: l else c :: x :: l
def grpR (l : List Cel) : List Cel := l.foldl putC []
theorem cmpL_lt_of {a b c : List Int} (h1 : cmpL a b < 0) (h2 : cmpL b c ≤ 0) : cmpL a c < 0 := by
  have h := cmpL_trans (Int.le_of_lt h1) h2
  rcases Int.lt_or_eq_of_le h with h | h
  · exact h
  · have e := cmpL_zero.1 h
    subst e
    have := cmpL_anti a b
    omega
theorem cmpL_lt_of' {a b c : List Int} (h1 : cmpL a b ≤ 0) (h2 : cmpL b c < 0) : cmpL a c < 0 := by
  have h := cmpL_trans h1 (Int.le_of_lt h2)
  rcases Int.lt_or_eq_of_le h with h | h
  · exact h
  · have e := cmpL_zero.1 h
    subst e
    have := cmpL_anti a b
    omega
theorem putC_comm (a b : Cel) : ∀ (l : List Cel), putC (putC l a) b = putC (putC l b) a
  | [] => by
    have h := cmpL_anti a.key b.key
    simp only [putC]
    rcases Int.lt_trichotomy (cmpL a.key b.key) 0 with c | c | c
    · rw [if_pos c, if_neg (by omega), if_neg (by omega)]
    · rw [if_neg (by omega), if_pos c, if_neg (by omega), if_pos (by omega), join2_comm (cmpL_zero.1 c)]
    · rw [if_neg (by omega), if_neg (by omega), if_pos (by omega)]
  | x :: l => by
    have h := cmpL_anti a.key b.key
    have ih := putC_comm a b l
    rcases Int.lt_trichotomy (cmpL x.key a.key) 0 with c | c | c
    · have e1 : putC (x :: l) a = x :: putC l a := by simp only [putC]; rw [if_pos c]
      rw [e1]
      rcases Int.lt_trichotomy (cmpL x.key b.key) 0 with d | d | d
      · have e2 : putC (x :: l) b = x :: putC l b := by simp only [putC]; rw [if_pos d]
        rw [e2]
        simp only [putC]
        rw [if_pos d, if_pos c, ih]
      · have e2 : putC (x :: l) b = join2 x b :: l := by simp only [putC]; rw [if_neg (by omega), if_pos d]
        rw [e2]
        simp only [putC]
        rw [if_neg (by omega), if_pos d, if_pos (show cmpL (join2 x b).key a.key < 0 from c)]
      · have e2 : putC (x :: l) b = b :: x :: l := by simp only [putC]; rw [if_neg (by omega), if_neg (by omega)]
        rw [e2]
        have hb : cmpL b.key a.key < 0 := cmpL_lt_of (by have := cmpL_anti x.key b.key; omega) (Int.le_of_lt c)
        simp only [putC]
        rw [if_neg (by omega), if_neg (by omega), if_pos hb, if_pos c]
    · have e1 : putC (x :: l) a = join2 x a :: l := by simp only [putC]; rw [if_neg (by omega), if_pos c]
      rw [e1]
      rcases Int.lt_trichotomy (cmpL x.key b.key) 0 with d | d | d
      · have e2 : putC (x :: l) b = x :: putC l b := by simp only [putC]; rw [if_pos d]
        rw [e2]
        simp only [putC]
        rw [if_pos (show cmpL (join2 x a).key b.key < 0 from d), if_neg (by omega), if_pos c]
      · have e2 : putC (x :: l) b = join2 x b :: l := by simp only [putC]; rw [if_neg (by omega), if_pos d]
        rw [e2]
        simp only [putC]
        rw [if_neg (show ¬ cmpL (join2 x a).key b.key < 0 from by show ¬ cmpL x.key b.key < 0; omega), if_pos (show cmpL (join2 x a).key b.key = 0 from d), if_neg (show ¬ cmpL (join2 x b).key a.key < 0 from by show ¬ cmpL x.key a.key < 0; omega), if_pos (show cmpL (join2 x b).key a.key = 0 from c), join2_rcomm]
      · have e2 : putC (x :: l) b = b :: x :: l := by simp only [putC]; rw [if_neg (by omega), if_neg (by omega)]
        rw [e2]
        have hb : cmpL b.key a.key < 0 := cmpL_lt_of (by have := cmpL_anti x.key b.key; omega) (Int.le_of_eq c)
        simp only [putC]
        rw [if_neg (show ¬ cmpL (join2 x a).key b.key < 0 from by show ¬ cmpL x.key b.key < 0; omega), if_neg (show ¬ cmpL (join2 x a).key b.key = 0 from by show ¬ cmpL x.key b.key = 0; omega), if_pos hb, if_neg (by omega), if_pos c]
    · have e1 : putC (x :: l) a = a :: x :: l := by simp only [putC]; rw [if_neg (by omega), if_neg (by omega)]
      have hax : cmpL a.key x.key < 0 := by have := cmpL_anti x.key a.key; omega
      rw [e1]
      rcases Int.lt_trichotomy (cmpL x.key b.key) 0 with d | d | d
      · have e2 : putC (x :: l) b = x :: putC l b := by simp only [putC]; rw [if_pos d]
        rw [e2]
        have hb : cmpL a.key b.key < 0 := cmpL_lt_of hax (Int.le_of_lt d)
        simp only [putC]
        rw [if_pos hb, if_pos d, if_neg (by omega), if_neg (by omega)]
      · have e2 : putC (x :: l) b = join2 x b :: l := by simp only [putC]; rw [if_neg (by omega), if_pos d]
        rw [e2]
        have hb : cmpL a.key b.key < 0 := cmpL_lt_of hax (Int.le_of_eq d)
        simp only [putC]
        rw [if_pos hb, if_neg (by omega), if_pos d, if_neg (show ¬ cmpL (join2 x b).key a.key < 0 from by show ¬ cmpL x.key a.key < 0; omega), if_neg (show ¬ cmpL (join2 x b).key a.key = 0 from by show ¬ cmpL x.key a.key = 0; omega)]
      · have e2 : putC (x :: l) b = b :: x :: l := by simp only [putC]; rw [if_neg (by omega), if_neg (by omega)]
        rw [e2]
        simp only [putC]
        rcases Int.lt_trichotomy (cmpL a.key b.key) 0 with f | f | f
        · rw [if_pos f, if_neg (by omega), if_neg (by omega), if_neg (by omega), if_neg (by omega)]
        · rw [if_neg (by omega), if_pos f, if_neg (by omega), if_pos (by omega), join2_comm (cmpL_zero.1 f)]
        · rw [if_neg (by omega), if_neg (by omega), if_pos (by omega), if_neg (by omega), if_neg (by omega)]
theorem grpR_perm {l l' : List Cel} (h : l.Perm l') : grpR l = grpR l' := by
  unfold grpR
  exact h.foldl_eq' (fun x _ y _ z => putC_comm x y z) _
theorem putC_keys (c : Cel) : ∀ (l : List Cel) (y : Cel), y ∈ putC l c → y.key = c.key ∨ ∃ z ∈ l, z.key = y.key
  | [], y, h => by simp only [putC, List.mem_singleton] at h; exact .inl (by rw [h])
  | x :: l, y, h => by
    simp only [putC] at h
    split at h
    · rcases List.mem_cons.1 h with rfl | h
      · exact .inr ⟨_, by simp, rfl⟩
      · rcases putC_keys c l y h with h | ⟨z, hz, e⟩
        · exact .inl h
        · exact .inr ⟨z, by simp [hz], e⟩
    · split at h
      · rcases List.mem_cons.1 h with rfl | h
        · exact .inr ⟨x, by simp, rfl⟩
        · exact .inr ⟨y, by simp [h], rfl⟩
      · rcases List.mem_cons.1 h with rfl | h
        · exact .inl rfl
        · exact .inr ⟨y, h, rfl⟩
theorem grp_keys : ∀ (l acc : List Cel) (y : Cel), y ∈ l.foldl putC acc → (∃ z ∈ acc, z.key = y.key) ∨ ∃ z ∈ l, z.key = y.key
  | [], acc, y, h => .inl ⟨y, h, rfl⟩
  | x :: l, acc, y, h => by
    rcases grp_keys l (putC acc x) y h with ⟨z, hz, e⟩ | ⟨z, hz, e⟩
    · rcases putC_keys x acc z hz with k | ⟨u, hu, k⟩
      · exact .inr ⟨x, by simp, by rw [← e, k]⟩
      · exact .inl ⟨u, hu, by rw [k, e]⟩
    · exact .inr ⟨z, by simp [hz], e⟩
theorem putC_end {c : Cel} : ∀ {l : List Cel}, (∀ y ∈ l, cmpL y.key c.key < 0) → putC l c = l ++ [c]
  | [], _ => rfl
  | x :: l, h => by
    simp only [putC]
    rw [if_pos (h x (by simp)), putC_end fun y hy => h y (by simp [hy])]
    rfl
theorem putC_last {c d : Cel} (e : d.key = c.key) : ∀ {l : List Cel}, (∀ y ∈ l, cmpL y.key c.key < 0) → putC (l ++ [d]) c = l ++ [join2 d c]
  | [], _ => by
    simp only [List.nil_append, putC]
    rw [e, cmpL_self, if_neg (by omega), if_pos rfl]
  | x :: l, h => by
    simp only [List.cons_append, putC]
    rw [if_pos (h x (by simp)), putC_last e fun y hy => h y (by simp [hy])]
theorem put_run {acc : List Cel} {key : List Int} (h : ∀ y ∈ acc, cmpL y.key key < 0) : ∀ (t : List Cel) (d : Cel), d.key = key → (∀ x ∈ t, x.key = key) → t.foldl putC (acc ++ [d]) = acc ++ [t.foldl join2 d]
  | [], d, _, _ => rfl
  | x :: t, d, hd, ht => by
    simp only [List.foldl_cons]
    have hx := ht x (by simp)
    rw [putC_last (by rw [hd, hx]) (by rw [hx]; exact h)]
    exact put_run h t (join2 d x) hd fun y hy => ht y (by simp [hy])
/-- Stretches of one key, one behind the other. -/
inductive Chain (L : List Cel) : List (Nat × Nat) → Nat → Prop
  | nil : Chain L [] 0
  | snoc {pre : List (Nat × Nat)} {i k : Nat} : Chain L pre i → 1 ≤ k → i + k ≤ L.length → (∀ j, j < k → ∀ x y, L[i]? = some x → L[i + j]? = some y → cmpL x.key y.key = 0) →
      (∀ x y, L[i]? = some x → L[i + k]? = some y → cmpL x.key y.key ≠ 0) → Chain L (pre ++ [(i, k)]) (i + k)
theorem SortedP.le {L : List Cel} (h : SortedP L) {i j : Nat} {x y : Cel} (hij : i ≤ j) (hx : L[i]? = some x) (hy : L[j]? = some y) : cmpL x.key y.key ≤ 0 := by
  rcases Nat.lt_or_eq_of_le hij with c | rfl
  · have := h i j x y c hx hy
    have := cmpL_anti x.key y.key
    omega
  · rw [hx] at hy
    injection hy with hy
    rw [hy, cmpL_self]
    exact Int.le_refl _
theorem Chain.less {L : List Cel} (hs : SortedP L) {pre : List (Nat × Nat)} {i : Nat} (h : Chain L pre i) {j : Nat} {x y : Cel} (hj : j < i) (hx : L[j]? = some x) (hy : L[i]? = some y) : cmpL x.key y.key < 0 := by
  cases h with
  | nil => omega
  | @snoc pre i k h1 hk hl he hn =>
    obtain ⟨z, hz⟩ : ∃ z, L[i]? = some z := ⟨_, List.getElem?_eq_getElem (by omega)⟩
    have hzy := hs.le (show i ≤ i + k by omega) hz hy
    have hne := hn z y hz hy
    rcases Nat.lt_or_ge j i with c | c
    · exact cmpL_lt_of' (hs.le (Nat.le_of_lt c) hx hz) (by omega)
    · have := he (j - i) (by omega) z x hz (by rw [show i + (j - i) = j by omega]; exact hx)
      rw [← cmpL_zero.1 this]
      omega
/-- The cells of the stretches, joined: the group-by of what they cover. -/
theorem Chain.group {L : List Cel} (hs : SortedP L) {pre : List (Nat × Nat)} {i : Nat} (h : Chain L pre i) : pre.map (fun s => joinAll ((L.drop s.1).take s.2)) = grpR (L.take i) := by
  induction h with
  | nil => rfl
  | @snoc pre i k h1 hk hl he hn ih =>
    obtain ⟨z, hz⟩ : ∃ z, L[i]? = some z := ⟨_, List.getElem?_eq_getElem (by omega)⟩
    rw [List.map_append, ih]
    have e1 : L.take (i + k) = L.take i ++ (L.drop i).take k := by rw [List.take_add]
    have e2 : (L.drop i).take k = z :: (L.drop (i + 1)).take (k - 1) := by
      rw [List.drop_eq_getElem_cons (by omega : i < L.length)]
      obtain ⟨k, rfl⟩ : ∃ q, k = q + 1 := ⟨k - 1, by omega⟩
      rw [List.take_succ_cons]
      congr 1
      exact (List.getElem?_eq_some_iff.1 hz).2
    have hlt : ∀ y ∈ grpR (L.take i), cmpL y.key z.key < 0 := fun y hy => by
      rcases grp_keys (L.take i) [] y hy with ⟨u, hu, _⟩ | ⟨u, hu, e⟩
      · cases hu
      · obtain ⟨j, hj⟩ := List.getElem?_of_mem hu
        rw [List.getElem?_take] at hj
        split at hj
        · rename_i hji
          rw [← e]
          exact h1.less hs hji hj hz
        · cases hj
    have e3 : grpR (L.take (i + k)) = ((L.drop i).take k).foldl putC (grpR (L.take i)) := by
      unfold grpR
      rw [e1, List.foldl_append]
    rw [e3, e2, List.foldl_cons, putC_end hlt]
    rw [put_run (key := z.key) hlt _ z rfl fun x hx => ?_]
    · simp only [List.map_cons, List.map_nil]
      rw [e2]
      rfl
    · obtain ⟨j, hj⟩ := List.getElem?_of_mem hx
      rw [List.getElem?_take] at hj
      split at hj
      · rename_i hjk
        rw [List.getElem?_drop] at hj
        have := he (j + 1) (by omega) z x hz (by rw [show i + (j + 1) = i + 1 + j by omega]; exact hj)
        exact (cmpL_zero.1 this).symm
      · cases hj
end Go.Proofs.Ytmolfcccfekcpaa
/- Package cell: runs of one key, told one by one. -/
namespace Go.Proofs.Ytmolfcccfekcpaa
open Go.RowKit Go.Shelf
attribute [local go_sem] Oper.semAt_some
/-- A stretch within N. -/
abbrev Seg (N : Nat) := { p : Nat × Nat // 1 ≤ p.2 ∧ p.1 + p.2 ≤ N }
theorem Chain.len {L : List Cel} {pre : List (Nat × Nat)} {i : Nat} (h : Chain L pre i) : pre.length ≤ i := by
  induction h with
  | nil => exact Nat.zero_le _
  | snoc h1 hk _ _ _ ih => simp; omega
theorem Chain.to {L : List Cel} {p : List (Nat × Nat)} {a b : Nat} (h : Chain L p a) (e : a = b) : Chain L p b := e ▸ h
end Go.Proofs.Ytmolfcccfekcpaa
/- Rows of cells of the call's own, each with slices of the call's own. -/
namespace Go.Proofs.Ytmolfcccfekcpaa
open Go.RowKit Go.Shelf
/-- Five values of the call's own that read as a cell. -/
def OwnC (B : Nat) (X : World) (u : V5) (x : Cel) : Prop := u.b = .int .i64 x.cnt ∧ CO B X u.a u.c u.d u.e x ∧ inK .i64 x.cnt
def OwnL (B : Nat) (X : World) (us : List V5) (J : List Cel) : Prop := us.length = J.length ∧ ∀ (i : Nat) (u : V5) (x : Cel), us[i]? = some u → J[i]? = some x → OwnC B X u x
def GRs (B : Nat) (X : World) (v : Value) (us : List V5) (J : List Cel) : Prop := X.ownsRow B 44 5 v us.length (flatV us) ∧ OwnL B X us J
section
variable {B B' : Nat} {X Y : World} {v : Value} {u : V5} {x : Cel} {us us' : List V5} {J J' : List Cel}
theorem OwnC.reads (h : OwnC B X u x) : Reads X u x := ⟨h.1, h.2.1.cr, h.2.2⟩
theorem OwnL.reads (h : OwnL B X us J) : ReadsL X us J := ⟨h.1, fun i u x hu hx => (h.2 i u x hu hx).reads⟩
theorem OwnC.stay (h : OwnC B X u x) (hs : ∀ {w : Value} {xs : List Int}, OI B X w xs → OI B' Y w xs) : OwnC B' Y u x := ⟨h.1, ⟨hs h.2.1.key, hs h.2.1.sum, hs h.2.1.mn, hs h.2.1.mx⟩, h.2.2⟩
theorem OwnL.stay (h : OwnL B X us J) (hs : ∀ {w : Value} {xs : List Int}, OI B X w xs → OI B' Y w xs) : OwnL B' Y us J := ⟨h.1, fun i u x hu hx => (h.2 i u x hu hx).stay hs⟩
theorem OwnL.below (h : OwnL B X us J) (hb : Below X.heap.size X Y) : OwnL B Y us J := h.stay fun o => o.below hb
theorem OwnL.mono (h : OwnL B X us J) (hb : B' ≤ B) : OwnL B' X us J := h.stay fun o => o.mono hb
theorem GRs.below (h : GRs B X v us J) (hb : Below X.heap.size X Y) : GRs B Y v us J := ⟨own_below h.1 hb (Nat.le_refl _), h.2.below hb⟩
theorem GRs.mono (h : GRs B X v us J) (hb : B' ≤ B) : GRs B' X v us J := ⟨own_mono h.1 hb, h.2.mono hb⟩
theorem GRs.nil (B : Nat) (X : World) : GRs B X (.slice none 0 0) [] [] := ⟨World.ownsRow_nil _ _ _ _, rfl, fun i u x h => by simp at h⟩
theorem GRs.len (h : GRs B X v us J) : us.length = J.length := h.2.1
/-- Where a row of cells grows, slices of ints stay. -/
theorem OI.rowC {w : Value} {xs : List Int} {n : Nat} {ys : List Value} (h : OI B X w xs) (ho : X.ownsRow B' 44 5 v n ys) (hg : X.grownBy Y v.ownBlock) : OI B Y w xs :=
  ⟨own_stay h.1 fun k hk => hg.block k (h.1.lt k hk).2 fun e => by
    rcases own_apart h.1 ho (by decide) with h0 | h0
    · rw [h0] at hk; cases hk
    · exact h0 (by rw [hk, e]), h.2⟩
theorem OI.kept2 {w : Value} {xs : List Int} {row : Option Nat} (h : OI B X w xs) (hg : X.grownBy Y row) (hr : ∀ r, row = some r → ∃ o : Obj, X.heap[r]? = some o ∧ o.isCells = false) : OI B Y w xs := h.kept hg hr
theorem OwnL.kept {row : Option Nat} (h : OwnL B X us J) (hg : X.grownBy Y row) (hr : ∀ r, row = some r → ∃ o : Obj, X.heap[r]? = some o ∧ o.isCells = false) : OwnL B Y us J := h.stay fun o => o.kept hg hr
theorem GRs.kept {row : Option Nat} (h : GRs B X v us J) (hg : X.grownBy Y row) (hr : ∀ r, row = some r → ∃ o : Obj, X.heap[r]? = some o ∧ o.isCells = false) : GRs B Y v us J := by
  refine ⟨own_stay h.1 fun q hq => hg.block q (h.1.lt q hq).2 fun e => ?_, h.2.kept hg hr⟩
  obtain ⟨o, ho, hc⟩ := hr q e.symm
  rcases h.1.2 with ⟨rfl, _⟩ | ⟨g, cap, cur, rfl, _, hh, _⟩
  · simp [Value.ownBlock] at hq
  · simp only [Value.ownBlock, Option.some.injEq] at hq
    subst hq
    rw [hh] at ho
    cases ho
    cases hc
theorem OwnL.append (h : OwnL B X us J) (h' : OwnL B X us' J') : OwnL B X (us ++ us') (J ++ J') := by
  refine ⟨by simp [h.1, h'.1], fun i u x hu hx => ?_⟩
  rcases Nat.lt_or_ge i us.length with c | c
  · rw [List.getElem?_append_left c] at hu
    rw [List.getElem?_append_left (by rw [← h.1]; exact c)] at hx
    exact h.2 i u x hu hx
  · rw [List.getElem?_append_right c] at hu
    rw [List.getElem?_append_right (by rw [← h.1]; exact c), ← h.1] at hx
    exact h'.2 _ u x hu hx
theorem OwnL.one (h : OwnC B X u x) : OwnL B X [u] [x] := ⟨rfl, fun i w y hw hy => by
  match i, hw, hy with
  | 0, hw, hy =>
    simp only [List.getElem?_cons_zero, Option.some.injEq] at hw hy
    subst hw hy
    exact h⟩
theorem OwnL.take (h : OwnL B X us J) (k : Nat) : OwnL B X (us.take k) (J.take k) := ⟨by simp [h.1], fun i u x hu hx => by
  rw [List.getElem?_take] at hu hx
  split at hu
  · rename_i hk
    rw [if_pos hk] at hx
    exact h.2 i u x hu hx
  · cases hu⟩
theorem OwnL.drop (h : OwnL B X us J) (k : Nat) : OwnL B X (us.drop k) (J.drop k) := ⟨by simp [h.1], fun i u x hu hx => by
  rw [List.getElem?_drop] at hu hx
  exact h.2 _ u x hu hx⟩
theorem flatV_append (us us' : List V5) : flatV (us ++ us') = flatV us ++ flatV us' := by simp [flatV]
theorem flatV_one (u : V5) : flatV [u] = u.l := by simp [flatV]
/-- The row as a slice, and where its cells lie. -/
theorem GRs.form (h : GRs B X v us J) : ∃ P c, v = .slice P us.length c ∧ us.length ≤ c ∧ c ≤ maxLen ∧ (0 < us.length → ∃ g, P = some ⟨g, 0, none⟩ ∧ B ≤ g ∧ g < X.heap.size ∧ CellsR X ⟨g, 0, none⟩ J ∧ ∀ j u, (flatV us)[j]? = some u → X.cell? ⟨g, j, none⟩ = some u) ∧ (P = none → c = 0) := by
  obtain ⟨P, c, hv, h1, h2, h3⟩ := own_form h.1
  refine ⟨P, c, hv, h1, h2, fun hn => ?_, fun e => ?_⟩
  · obtain ⟨g, rfl, q4, q5⟩ := h3 hn
    refine ⟨g, rfl, q4, ?_, cells_of_vals h.2.reads (fun j u hu => by rw [add0]; exact q5 j u hu), q5⟩
    have := h.1.lt g (by rw [hv]; rfl)
    exact this.2
  · rcases own_form0 h.1 with ⟨e1, _⟩ | ⟨g, c', e1, _⟩
    · rw [hv] at e1; injection e1
    · rw [hv, e] at e1; injection e1 with e1 _ _; cases e1
end
/-- Cells are laid behind a row. -/
theorem append_gr {B : Nat} {X : World} {v : Value} {us us2 : List V5} {J J2 : List Cel} (a : Addr) (m c : Nat) (h : GRs B X v us J) (h2 : OwnL B X us2 J2) (hm : m = us2.length) (hc : ∀ j u, (flatV us2)[j]? = some u → X.cell? (a.add j) = some u) (hl : us.length + m ≤ 1000000) (hB : B ≤ X.heap.size) :
    ∃ v' X3, (Builtin.append_ #[31, 31] 31 #[v, .slice (some a) m c]).run Try.prog X = .ok v' X3 ∧ GRs B X3 v' (us ++ us2) (J ++ J2) ∧ X.grownBy X3 v.ownBlock ∧ (v'.ownBlock = v.ownBlock ∨ v'.ownBlock = some X.heap.size) := by
  obtain ⟨i0, hi, hz0, hz1, hz2⟩ := info_parts infoC
  subst hm
  obtain ⟨v', X3, hrun, ho, hg, _, hb⟩ := run_append_own_at (P := Try.prog) X B 31 31 44 i0 _ 5 104 Try.underlying31 hi hz0 hz1 hz2 rfl (by omega) v us.length (flatV us) h.1 a us2.length c (flatV us2) (flatV_len us2) hc h2.reads.one (by simp only [maxLen]; omega) (by omega) hB
  refine ⟨v', X3, hrun, ⟨?_, (h.2.append h2).stay fun o => o.rowC h.1 hg⟩, hg, hb⟩
  rw [List.length_append, flatV_append]
  exact ho
/-- One more cell, laid out first in a block of one. -/
theorem append_one {B : Nat} {X : World} {v : Value} {us : List V5} {J : List Cel} {u : V5} {x : Cel} (h : GRs B X v us J) (h2 : OwnC B X u x) (hl : us.length + 1 ≤ 1000000) (hB : B ≤ X.heap.size) :
    ∃ v' X3, (Builtin.append_ #[31, 31] 31 #[v, .slice (some ⟨X.heap.size, 0, none⟩) 1 1]).run Try.prog (X.alloc (.cells #[u.a, u.b, u.c, u.d, u.e] 44)) = .ok v' X3 ∧ GRs B X3 v' (us ++ [u]) (J ++ [x]) ∧
      (X.alloc (.cells #[u.a, u.b, u.c, u.d, u.e] 44)).grownBy X3 v.ownBlock ∧ (v'.ownBlock = v.ownBlock ∨ v'.ownBlock = some (X.heap.size + 1)) := by
  have hb : Below X.heap.size X (X.alloc (.cells #[u.a, u.b, u.c, u.d, u.e] 44)) := (Below.refl _ _).alloc (Nat.le_refl _) _
  have := append_gr (X := X.alloc (.cells #[u.a, u.b, u.c, u.d, u.e] 44)) ⟨X.heap.size, 0, none⟩ 1 1 (h.below hb) ((OwnL.one h2).below hb) rfl (fun j w hw => by
    rw [add0, show (X.alloc (.cells #[u.a, u.b, u.c, u.d, u.e] 44)).cell? ⟨X.heap.size, j, none⟩ = #[u.a, u.b, u.c, u.d, u.e][j]? from cell_of_row _ _ _ _ 44 (0, 0) (heap_alloc_new X _)]
    rw [flatV_one] at hw
    simpa [V5.l] using hw) hl (by simp; omega)
  simpa using this
end Go.Proofs.Ytmolfcccfekcpaa
/- Package cell's Group: 1 to 60 cells. -/
namespace Go.Proofs.Ytmolfcccfekcpaa
open Go.RowKit Go.Shelf
attribute [local go_sem] Oper.semAt_some
theorem join2_ok {a b : Cel} : inK .i64 (join2 a b).cnt := by
  show inK .i64 (wrap64 (a.cnt + b.cnt))
  unfold wrap64
  exact ⟨by omega, by omega⟩
theorem foldl_ok : ∀ (t : List Cel) (x : Cel), inK .i64 x.cnt → inK .i64 (t.foldl join2 x).cnt
  | [], _, h => h
  | y :: t, x, _ => foldl_ok t (join2 x y) join2_ok
/-- What a stretch comes to. -/
def segJ (L : List Cel) {N : Nat} (s : Seg N) : Cel := joinAll ((L.drop s.1.1).take s.1.2)
/-- Behind some rounds: the row holds what the stretches come to. -/
def GIs (n₀ : Nat) (w4 : World) (L : List Cel) {N : Nat} (pre : List (Seg N)) (W : World) : Prop := Below n₀ w4 W ∧ ∃ v us, Boxed W n₀ 31 v ∧ GRs n₀ W v us (pre.map (segJ L))
theorem GIs.own {n₀ : Nat} {w4 : World} {L : List Cel} {N : Nat} (hn : n₀ < w4.heap.size) : OwnFrom w4.heap.size (GIs n₀ w4 L (N := N)) := by
  rintro pre X Y row ⟨hb, v, us, hv, hg⟩ hgr hr
  have hr2 : ∀ r, row = some r → ∃ o : Obj, X.heap[r]? = some o ∧ o.isCells = false := fun r e => (hr r e).2
  refine ⟨hb.grown hgr (Nat.le_trans (Nat.le_of_lt hn) hb.size) fun k e => Nat.le_trans (Nat.le_of_lt hn) (hr k e).1, v, us, hv.kept hgr fun e => ?_, hg.kept hgr hr2⟩
  obtain ⟨o, ho, hc⟩ := hr2 n₀ e.symm
  rw [show X.heap[n₀]? = _ from hv] at ho
  cases ho
  cases hc
theorem GRs.box {B n₀ : Nat} {X : World} {v u : Value} {us : List V5} {J : List Cel} (h : GRs B X v us J) (hx : Boxed X n₀ 31 u) (i : Nat) (z : Value) : GRs B (X.setCell ⟨n₀, i, none⟩ z) v us J := by
  have ne : ∀ {e : TypeId} {s n : Nat} {w : Value} {xs : List Value}, X.ownsRow B e s w n xs → e ≠ 31 → ∀ k, w.ownBlock = some k → k ≠ n₀ := fun {e s n w xs} ho he k hk hkn => by
    rcases ho.2 with ⟨rfl, _⟩ | ⟨g, cap, cur, rfl, _, hh, _⟩
    · cases hk
    · simp only [Value.ownBlock, Option.some.injEq] at hk
      subst hk
      rw [hkn, show X.heap[n₀]? = _ from hx] at hh
      injection hh with hh
      injection hh with _ hh _
      exact he hh.symm
  exact ⟨own_stay h.1 fun k hk => Below.heap_setCell _ _ _ _ (ne h.1 (by decide) k hk), h.2.stay fun o => ⟨own_stay o.1 fun k hk => Below.heap_setCell _ _ _ _ (ne o.1 (by decide) k hk), o.2⟩⟩
theorem group_stepN (n₀ : Nat) (w4 W X1 : World) (v : Value) (us : List V5) (Js : List Cel) (J : Cel) (k s n m : Value) (hn : n₀ < w4.heap.size) (hx : Boxed W n₀ 31 v) (hg : GRs n₀ W v us Js) (h0 : Below n₀ w4 W)
    (hc : CO W.drew.heap.size X1 k s n m J) (hJ : inK .i64 J.cnt) (h1 : Below W.drew.heap.size W.drew X1) (hl : us.length + 1 ≤ 1000000) :
    ∃ g' cp X3, (Builtin.append_ #[31, 31] 31 #[v, .slice (some ⟨X1.heap.size, 0, none⟩) 1 1]).run Try.prog (X1.alloc (.cells #[k, .int .i64 J.cnt, s, n, m] 44)) = .ok (.slice (some ⟨g', 0, none⟩) (us.length + 1) cp) X3 ∧
      Boxed X3 n₀ 31 v ∧ KeepsFrom w4.heap.size W (X3.setCell ⟨n₀, 0, none⟩ (.slice (some ⟨g', 0, none⟩) (us.length + 1) cp)) ∧ Below n₀ W (X3.setCell ⟨n₀, 0, none⟩ (.slice (some ⟨g', 0, none⟩) (us.length + 1) cp)) ∧
      Boxed (X3.setCell ⟨n₀, 0, none⟩ (.slice (some ⟨g', 0, none⟩) (us.length + 1) cp)) n₀ 31 (.slice (some ⟨g', 0, none⟩) (us.length + 1) cp) ∧ GRs n₀ (X3.setCell ⟨n₀, 0, none⟩ (.slice (some ⟨g', 0, none⟩) (us.length + 1) cp)) (.slice (some ⟨g', 0, none⟩) (us.length + 1) cp) (us ++ [⟨k, .int .i64 J.cnt, s, n, m⟩]) (Js ++ [J]) := by
  have hW : w4.heap.size ≤ W.heap.size := h0.size
  have hX1 : W.heap.size ≤ X1.heap.size := h1.size
  have hbW : Below W.heap.size W X1 := (Below.drew (Below.refl _ W)).trans h1
  have hg1 : GRs n₀ X1 v us Js := hg.below hbW
  have hu : OwnC n₀ X1 ⟨k, .int .i64 J.cnt, s, n, m⟩ J := ⟨rfl, hc.mono (show n₀ ≤ W.drew.heap.size by show n₀ ≤ W.heap.size; omega), hJ⟩
  obtain ⟨v', X3, hrun, hr, hgr, -⟩ := append_one hg1 hu hl (by omega)
  dsimp only at hrun hgr
  have hx1 : Boxed X1 n₀ 31 v := (hbW.block n₀ hx.lt).trans hx
  have hx1' := hx1.alloc (.cells #[k, .int .i64 J.cnt, s, n, m] 44)
  have ho1' := own_below hg1.1 ((Below.refl _ X1).alloc (Nat.le_refl _) (.cells #[k, .int .i64 J.cnt, s, n, m] 44)) (Nat.le_refl _)
  have hx3 : Boxed X3 n₀ 31 v := hx1'.kept hgr (Boxed.not_row hx1' (by decide) ho1')
  obtain ⟨g', cp, e'⟩ := ownsRow_succ (k := us.length) (by simpa using hr.1)
  subst e'
  have g1 : Below n₀ W (X1.alloc (.cells #[k, .int .i64 J.cnt, s, n, m] 44)) := (hbW.mono (by omega)).alloc (by omega) _
  have g2 : Below n₀ W X3 := g1.grown hgr (by simp; omega) fun j e => (hg1.1.lt j e).1
  refine ⟨g', cp, X3, hrun, hx3, ⟨?_, fun q o hq ho2 hoc => ?_⟩, g2.setCell (Nat.le_refl _) _, hx3.set _, hr.box hx3 _ _⟩
  · have := g2.size
    simpa [World.setCell] using this
  · have hq1 : q < W.heap.size := by
      rcases Nat.lt_or_ge q W.heap.size with h | h
      · exact h
      · rw [Array.getElem?_eq_none h] at ho2; cases ho2
    have e1 : X1.heap[q]? = some o := (hbW.block q hq1).trans ho2
    have e2 : (X1.alloc (.cells #[k, .int .i64 J.cnt, s, n, m] 44)).heap[q]? = some o := (Below.heap_alloc _ _ _ (by omega)).trans e1
    refine (Below.heap_setCell _ _ _ _ (by show q ≠ n₀; omega)).trans ((hgr.block q (by simp; omega) fun e => ?_).trans e2)
    rcases hg1.1.2 with ⟨rfl, _⟩ | ⟨g, cap, cur, rfl, _, hh, _⟩
    · cases e
    · simp only [Value.ownBlock, Option.some.injEq] at e
      subst e
      rw [hh] at e1
      cases e1
      cases hoc
end Go.Proofs.Ytmolfcccfekcpaa
