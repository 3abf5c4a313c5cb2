/- Costs with a row so much more; with a column more. -/
import Derived.Test.YtimffjonhoplpaaMatU
namespace Go.Proofs.Ytimffjonhoplpaa
open Go.RowKit Go.Shelf
theorem OM.keepD {B D : Nat} {w w' : World} {v : Value} {M : List (List Int)} {us : List Value} (h : OM B w v M us) (hv : ∀ b, v.ownBlock = some b → b < D) (hu : ∀ (j : Nat) (u : Value), us[j]? = some u → ∀ b, u.ownBlock = some b → b < D) (hb : Below D w w') : OM B w' v M us :=
  ⟨own_stay h.own fun k hk => hb.block k (hv k hk), fun j u r hj hr => ⟨own_stay (h.row j u r hj hr).1 fun k hk => hb.block k (hu j u hj k hk), (h.row j u r hj hr).2⟩, h.ap⟩
theorem OM.blk {B : Nat} {w : World} {v : Value} {M : List (List Int)} {us : List Value} (h : OM B w v M us) : (∀ b, v.ownBlock = some b → b < w.heap.size) ∧ ∀ (j : Nat) (u : Value), us[j]? = some u → ∀ b, u.ownBlock = some b → b < w.heap.size :=
  ⟨fun b hb => (h.own.lt b hb).2, fun j u hj b hb => ((h.row j u _ hj (List.getElem?_eq_getElem (by rw [← h.len]; exact (List.getElem?_eq_some_iff.1 hj).1))).1.lt b hb).2⟩
theorem OM.other {B g i : Nat} {w : World} {v : Value} {M : List (List Int)} {us : List Value} (h : OM B w v M us) (hg : g < B) (y : Value) : OM B (w.setCell ⟨g, i, none⟩ y) v M us :=
  ⟨only_own h.own (fun e => by have := (h.own.lt g e).1; omega), fun j u r hj hr => ⟨only_own (h.row j u r hj hr).1 (fun e => by have := ((h.row j u r hj hr).1.lt g e).1; omega), (h.row j u r hj hr).2⟩, h.ap⟩
/-- A row, its first j numbers so much more. -/
def rowW (r : List Int) (x : Int) (j : Nat) : List Int := (List.range r.length).map fun q => if q < j then cst r q + x else cst r q
theorem rowW_len (r : List Int) (x : Int) (j : Nat) : (rowW r x j).length = r.length := by simp [rowW]
theorem rowW_zero (r : List Int) (x : Int) : rowW r x 0 = r := by
  apply List.ext_getElem
  · simp [rowW]
  · intro i h1 h2
    simp [rowW, cst, List.getElem?_eq_getElem h2]
theorem rowW_cst (r : List Int) (x : Int) {j q : Nat} (h : q < r.length) : cst (rowW r x j) q = if q < j then cst r q + x else cst r q := by
  unfold rowW
  conv => lhs; unfold cst
  rw [List.getElem?_map, List.getElem?_range h]
  rfl
theorem rowW_set (r : List Int) (x : Int) {j : Nat} : (rowW r x j).set j (cst r j + x) = rowW r x (j + 1) := by
  apply List.ext_getElem
  · simp [rowW]
  · intro i h1 h2
    simp only [rowW, List.getElem_set, List.getElem_map, List.getElem_range]
    by_cases hj : j = i
    · subst hj; simp
    · by_cases h3 : i < j
      · rw [if_neg hj, if_pos h3, if_pos (by omega)]
      · rw [if_neg hj, if_neg h3, if_neg (by omega)]
/-- The first i rows, a number longer. -/
def extL (M : List (List Int)) (ev : Nat → Int) (i : Nat) : List (List Int) := (List.range M.length).map fun q => if q < i then (M[q]?.getD []) ++ [ev q] else M[q]?.getD []
theorem extL_len (M : List (List Int)) (ev : Nat → Int) (i : Nat) : (extL M ev i).length = M.length := by simp [extL]
theorem extL_zero (M : List (List Int)) (ev : Nat → Int) : extL M ev 0 = M := by
  apply List.ext_getElem
  · simp [extL]
  · intro i h1 h2
    simp [extL, List.getElem?_eq_getElem h2]
theorem extL_at {M : List (List Int)} {i : Nat} {r : List Int} (ev : Nat → Int) (h : M[i]? = some r) : (extL M ev i)[i]? = some r := by
  unfold extL
  rw [List.getElem?_map, List.getElem?_range (List.getElem?_eq_some_iff.1 h).1]
  simp [h]
theorem extL_set {M : List (List Int)} {i : Nat} {r : List Int} (ev : Nat → Int) (h : M[i]? = some r) : (extL M ev i).set i (r ++ [ev i]) = extL M ev (i + 1) := by
  apply List.ext_getElem
  · simp [extL]
  · intro q h1 h2
    simp only [extL, List.getElem_set, List.getElem_map, List.getElem_range]
    by_cases hj : i = q
    · subst hj; rw [if_pos rfl, if_pos (by omega), h]; rfl
    · by_cases h3 : q < i
      · rw [if_neg hj, if_pos h3, if_pos (by omega)]
      · rw [if_neg hj, if_neg h3, if_neg (by omega)]
theorem sum_set : ∀ (M : List (List Int)) (k s : Nat) (r r' : List Int) (x : Int) (d : List Nat), M[k]? = some r → r'.length = r.length → (∀ q, q < r.length → cst r' q = cst r q + x) → Ok M s d → sumC (M.set k r') d = sumC M d + x
  | [], k, _, _, _, _, _, h, _, _, _ => by simp at h
  | _ :: _, _, _, _, _, _, [], _, _, _, h => h.elim
  | row :: rows, 0, s, r, r', x, b :: d, h, _, hc, ⟨h1, _, _⟩ => by
    simp at h
    subst h
    show cst r' b + sumC rows d = cst row b + sumC rows d + x
    rw [hc b h1]; omega
  | row :: rows, k + 1, s, r, r', x, b :: d, h, hl, hc, ⟨_, _, h3⟩ => by
    have ih := sum_set rows k _ r r' x d (by simpa using h) hl hc h3
    show cst row b + sumC (rows.set k r') d = cst row b + sumC rows d + x
    rw [ih]; omega
theorem more_fst {M : List (List Int)} {k m : Nat} {r : List Int} {x : Int} (hok : okM M = true) (hrow : ∀ r ∈ M, r.length = m) (hr : M[k]? = some r) (hok' : okM (M.set k (rowW r x r.length)) = true) :
    toL (M.set k (rowW r x r.length)) = toL M ∧ totL (M.set k (rowW r x r.length)) = totL M + x := by
  obtain ⟨o1, o2, o3⟩ := okM_spec hok
  have hm0 : wid M = m := by
    cases M with
    | nil => simp at hr
    | cons a t => exact hrow a (List.mem_cons_self ..)
  have hrow' : ∀ r' ∈ M.set k (rowW r x r.length), r'.length = m := fun r' h => by
    rcases set_mem h with h | rfl
    · exact hrow r' h
    · rw [rowW_len]; exact hrow r (List.mem_of_getElem? hr)
  have hroom : Room M m 0 := hm0 ▸ room_ok hok
  have hroom' : Room (M.set k (rowW r x r.length)) m 0 := ⟨hrow', by rw [List.length_set]; exact hroom.2⟩
  have hiff : ∀ d, Ok (M.set k (rowW r x r.length)) 0 d ↔ Ok M 0 d := fun d => by rw [Ok_iff _ m 0 d hrow', Ok_iff _ m 0 d hrow, List.length_set]
  have hsum : ∀ d, Ok M 0 d → sumC (M.set k (rowW r x r.length)) d = sumC M d + x := fun d hd => sum_set M k 0 r _ x d hr (rowW_len _ _ _) (fun q hq => by rw [rowW_cst r x hq, if_pos hq]) hd
  obtain ⟨f1, f2⟩ := fst1_ok M m 0 hroom
  have hR := restR_eq hroom' ((hiff _).2 f1) (fun d hd => by
    have h2 := (hiff d).1 hd
    have := restR_le M 0 d h2
    rw [hsum _ f1, hsum _ h2]; omega)
  rw [hsum _ f1, f2] at hR
  have hf := fst1_eq hroom' ((hiff _).2 f1) (by rw [hsum _ f1, f2, hR]) (fun d hd he => by
    have h2 := (hiff d).1 hd
    rw [hsum _ h2, hR] at he
    exact fst1_first M m 0 d hroom h2 (by omega))
  exact ⟨by rw [toL_ok hok', toL_ok hok, hf], by rw [totL_ok hok', totL_ok hok, hR]⟩
theorem sum_ext : ∀ (M M' : List (List Int)) (m : Nat) (d : List Nat), M.length = M'.length → (∀ (i : Nat) (r r' : List Int), M[i]? = some r → M'[i]? = some r' → ∀ q, q < m → cst r' q = cst r q) → (∀ k ∈ d, k < m) → sumC M' d = sumC M d
  | [], [], _, _, _, _, _ => rfl
  | [], _ :: _, _, _, h, _, _ => by simp at h
  | _ :: _, [], _, _, h, _, _ => by simp at h
  | _ :: _, _ :: _, _, [], _, _, _ => rfl
  | row :: rows, row' :: rows', m, k :: d, h, hc, hd => by
    have ih := sum_ext rows rows' m d (by simpa using h) (fun i r r' h1 h2 => hc (i + 1) r r' (by simpa using h1) (by simpa using h2)) (fun q hq => hd q (List.mem_cons_of_mem _ hq))
    show cst row' k + sumC rows' d = cst row k + sumC rows d
    rw [ih, hc 0 row row' rfl rfl k (hd k (List.mem_cons_self ..))]
theorem ext_le {M : List (List Int)} {m : Nat} {ev : Nat → Int} (hok : okM M = true) (hrow : ∀ r ∈ M, r.length = m) (h0 : M ≠ []) (hok' : okM (extL M ev M.length) = true) : totL (extL M ev M.length) ≤ totL M := by
  have hm0 : wid M = m := by
    cases M with
    | nil => exact absurd rfl h0
    | cons a t => exact hrow a (List.mem_cons_self ..)
  have hroom : Room M m 0 := hm0 ▸ room_ok hok
  obtain ⟨f1, f2⟩ := fst1_ok M m 0 hroom
  obtain ⟨g1, g2, g3⟩ := (Ok_iff M m 0 _ hrow).1 f1
  have hget : ∀ (i : Nat) (r' : List Int), (extL M ev M.length)[i]? = some r' → ∃ r, M[i]? = some r ∧ r' = r ++ [ev i] := fun i r' h => by
    have hi : i < M.length := by have := (List.getElem?_eq_some_iff.1 h).1; rwa [extL_len] at this
    unfold extL at h
    rw [List.getElem?_map, List.getElem?_range hi] at h
    simp only [Option.map_some, Option.some.injEq] at h
    rw [if_pos hi, List.getElem?_eq_getElem hi] at h
    exact ⟨M[i], List.getElem?_eq_getElem hi, h.symm⟩
  have hrow' : ∀ r' ∈ extL M ev M.length, r'.length = m + 1 := fun r' h => by
    obtain ⟨i, hi⟩ := List.mem_iff_getElem?.1 h
    obtain ⟨r, h1, rfl⟩ := hget i r' hi
    rw [List.length_append, hrow r (List.mem_of_getElem? h1)]; rfl
  have hO : Ok (extL M ev M.length) 0 (fst1 M 0) := Ok_of hrow' (by rw [extL_len, g1]) g2 (fun k hk => by have := (g3 k hk).1; omega)
  have hs := sum_ext M (extL M ev M.length) m (fst1 M 0) (by rw [extL_len]) (fun i r r' h1 h2 q hq => by
    obtain ⟨r2, h3, rfl⟩ := hget i r' h2
    obtain rfl : r = r2 := Option.some.inj (h1.symm.trans h3)
    unfold cst
    rw [List.getElem?_append_left (by rw [hrow r (List.mem_of_getElem? h1)]; exact hq)]) (fun k hk => (g3 k hk).1)
  have := restR_le _ 0 _ hO
  rw [totL_ok hok, totL_ok hok']
  omega
end Go.Proofs.Ytimffjonhoplpaa
