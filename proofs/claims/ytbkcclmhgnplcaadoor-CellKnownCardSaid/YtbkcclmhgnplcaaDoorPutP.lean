/- Where a cell is put. -/
import Derived.Test.YtbkcclmhgnplcaaDoorGrpP
namespace Go.Proofs.YtbkcclmhgnplcaaDoor
open Go.RowKit Go.Shelf
theorem putC_same (c : Cel) : ∀ (l : List Cel) (k : Nat) (x : Cel), l[k]? = some x → (∀ i y, i < k → l[i]? = some y → cmpL y.key c.key < 0) → cmpL x.key c.key = 0 → putC l c = l.set k (join2 x c)
  | [], k, x, h, _, _ => by simp at h
  | y :: l, 0, x, h, _, e => by
    simp only [List.getElem?_cons_zero, Option.some.injEq] at h
    subst h
    simp only [putC]
    rw [if_neg (by omega), if_pos e]
    rfl
  | y :: l, k + 1, x, h, hl, e => by
    simp only [putC]
    rw [if_pos (hl 0 y (by omega) rfl), putC_same c l k x (by simpa using h) (fun i z hi hz => hl (i + 1) z (by omega) (by simpa using hz)) e]
    rfl
theorem putC_new (c : Cel) : ∀ (l : List Cel) (k : Nat), k ≤ l.length → (∀ i y, i < k → l[i]? = some y → cmpL y.key c.key < 0) → (∀ x, l[k]? = some x → 0 < cmpL x.key c.key) → putC l c = l.take k ++ c :: l.drop k
  | [], k, hk, _, _ => by simp [putC]
  | y :: l, 0, _, _, h => by
    have := h y rfl
    simp only [putC]
    rw [if_neg (by omega), if_neg (by omega)]
    simp
  | y :: l, k + 1, hk, hl, h => by
    simp only [putC]
    rw [if_pos (hl 0 y (by omega) rfl), putC_new c l k (by simpa using hk) (fun i z hi hz => hl (i + 1) z (by omega) (by simpa using hz)) (fun x hx => h x (by simpa using hx))]
    simp
theorem grpR_snoc (l : List Cel) (c : Cel) : grpR (l ++ [c]) = putC (grpR l) c := by simp [grpR, List.foldl_append]
theorem zip_assoc {f : Int → Int → Int} (hf : ∀ a b c, f (f a b) c = f a (f b c)) : ∀ (a b c : List Int), List.zipWith f (List.zipWith f a b) c = List.zipWith f a (List.zipWith f b c)
  | [], _, _ => by simp
  | _ :: _, [], _ => by simp
  | _ :: _, _ :: _, [] => by simp
  | a :: xs, b :: ys, c :: zs => by simp [hf, zip_assoc hf xs ys zs]
theorem join2_assoc (a b c : Cel) : join2 (join2 a b) c = join2 a (join2 b c) := by
  unfold join2 addL minL maxL
  simp only [Cel.mk.injEq, true_and]
  refine ⟨by unfold wrap64; omega, zip_assoc (fun a b c => by unfold wrap64; omega) _ _ _, zip_assoc (fun a b c => by omega) _ _ _, zip_assoc (fun a b c => by omega) _ _ _⟩
/-- Cells in any order, in parts that were grouped: the same group-by. -/
theorem putC_join (x c : Cel) (h : x.key = c.key) : ∀ (l : List Cel), putC (putC l x) c = putC l (join2 x c)
  | [] => by
    simp only [putC]
    rw [h, cmpL_self, if_neg (by omega), if_pos rfl]
  | y :: l => by
    have e : (join2 x c).key = c.key := h
    rcases Int.lt_trichotomy (cmpL y.key c.key) 0 with k | k | k
    · have e1 : putC (y :: l) x = y :: putC l x := by simp only [putC]; rw [h, if_pos k]
      have e2 : putC (y :: l) (join2 x c) = y :: putC l (join2 x c) := by simp only [putC]; rw [e, if_pos k]
      rw [e1, e2, ← putC_join x c h l]
      simp only [putC]
      rw [if_pos k]
    · have e1 : putC (y :: l) x = join2 y x :: l := by simp only [putC]; rw [h, if_neg (by omega), if_pos k]
      have e2 : putC (y :: l) (join2 x c) = join2 y (join2 x c) :: l := by simp only [putC]; rw [e, if_neg (by omega), if_pos k]
      rw [e1, e2, ← join2_assoc]
      simp only [putC]
      rw [if_neg (show ¬ cmpL (join2 y x).key c.key < 0 from by show ¬ cmpL y.key c.key < 0; omega), if_pos (show cmpL (join2 y x).key c.key = 0 from k)]
    · have e1 : putC (y :: l) x = x :: y :: l := by simp only [putC]; rw [h, if_neg (by omega), if_neg (by omega)]
      have e2 : putC (y :: l) (join2 x c) = join2 x c :: y :: l := by simp only [putC]; rw [e, if_neg (by omega), if_neg (by omega)]
      rw [e1, e2]
      simp only [putC]
      rw [h, cmpL_self, if_neg (by omega), if_pos rfl]
theorem foldl_comm_ (c : Cel) : ∀ (l acc : List Cel), l.foldl putC (putC acc c) = putC (l.foldl putC acc) c
  | [], _ => rfl
  | y :: l, acc => by
    rw [List.foldl_cons, List.foldl_cons, putC_comm, foldl_comm_ c l]
/-- What is told of cells one by one, and of joined ones together. -/
def Goes (f : Cel → Cel) : Prop := (∀ x y, x.key = y.key → (f x).key = (f y).key) ∧ ∀ x y, x.key = y.key → f (join2 x y) = join2 (f x) (f y)
theorem goes_id : Goes id := ⟨fun _ _ h => h, fun _ _ _ => rfl⟩
theorem foldl_put {f : Cel → Cel} (hf : Goes f) (c : Cel) : ∀ (l acc : List Cel), ((putC l c).map f).foldl putC acc = putC ((l.map f).foldl putC acc) (f c)
  | [], acc => by simp [putC]
  | y :: l, acc => by
    simp only [putC]
    split
    · rw [List.map_cons, List.foldl_cons, List.map_cons, List.foldl_cons, foldl_put hf c l]
    · split
      · rename_i h
        have hk := cmpL_zero.1 h
        rw [List.map_cons, List.foldl_cons, List.map_cons, List.foldl_cons, hf.2 y c hk, ← putC_join (f y) (f c) (hf.1 y c hk), foldl_comm_]
      · rw [List.map_cons, List.foldl_cons, List.map_cons, List.foldl_cons, List.foldl_cons, putC_comm, foldl_comm_]
theorem foldl_grp {f : Cel → Cel} (hf : Goes f) : ∀ (l m acc : List Cel), ((l.foldl putC m).map f).foldl putC acc = (l.map f).foldl putC ((m.map f).foldl putC acc)
  | [], _, _ => rfl
  | x :: l, m, acc => by
    rw [List.foldl_cons, foldl_grp hf l, foldl_put hf, List.map_cons, List.foldl_cons]
/-- A group-by, turned cell by cell and grouped, is the group-by of the cells turned one by one. -/
theorem grpR_map {f : Cel → Cel} (hf : Goes f) (l : List Cel) : grpR ((grpR l).map f) = grpR (l.map f) := foldl_grp hf l [] []
/-- A group-by of parts that were grouped. -/
theorem grpR_parts (a b : List Cel) : grpR (a ++ grpR b) = grpR (a ++ b) := by
  have h := foldl_grp goes_id b [] (a.foldl putC [])
  simp only [List.map_id] at h
  unfold grpR
  rw [List.foldl_append, List.foldl_append]
  exact h
theorem goes_narrow (g : List Int → List Int) : Goes fun x => ⟨g x.key, x.cnt, x.sum, x.mn, x.mx⟩ := ⟨fun x y h => by show g x.key = g y.key; rw [h], fun _ _ _ => rfl⟩
end Go.Proofs.YtbkcclmhgnplcaaDoor
