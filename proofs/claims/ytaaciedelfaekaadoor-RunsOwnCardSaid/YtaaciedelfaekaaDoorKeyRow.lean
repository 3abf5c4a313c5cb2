/- A row of cells of one key each, of the law's own. -/
import Derived.Test.YtaaciedelfaekaaDoorKnow5
import Derived.Test.YtaaciedelfaekaaDoorMath5
import Derived.Test.YtaaciedelfaekaaDoorJoinS
namespace Go.Proofs.YtaaciedelfaekaaDoor
open Go.RowKit Go.Shelf
/-- A cell of one dimension, without a measure. -/
def cK (n k : Int) : Cel := ⟨[k], n, [], [], []⟩
theorem key_app {B : Nat} {X : World} {v : Value} {us : List V5} {J : List Cel} (k n : Int) (h : GRs B X v us J) (hk : inK .i64 k) (hn : inK .i64 n) (hl : us.length + 1 ≤ 1000000) (hB : B ≤ X.heap.size) :
    ∃ v' us' Y, (Builtin.append_ #[29, 29] 29 #[v, .slice (some ⟨X.heap.size + 1, 0, none⟩) 1 1]).run Tryd.prog ((X.alloc (.cells #[.int .i64 k] 3)).alloc (.cells #[.slice (some ⟨X.heap.size, 0, none⟩) 1 1, .int .i64 n, .slice none 0 0, .slice none 0 0, .slice none 0 0] 41)) = .ok v' Y ∧ GRs B Y v' us' (J ++ [cK n k]) ∧ Below B X Y := by
  obtain ⟨A, hA⟩ : ∃ A, A = X.alloc (.cells #[.int .i64 k] 3) := ⟨_, rfl⟩
  have sA : A.heap.size = X.heap.size + 1 := by rw [hA]; simp
  have hb : Below X.heap.size X A := by rw [hA]; exact (Below.refl _ _).alloc (Nat.le_refl _) _
  have ho : A.ownsRow B 3 1 (.slice (some ⟨X.heap.size, 0, none⟩) 1 1) 1 [.int .i64 k] := by rw [hA]; exact own_lit X B 3 [.int .i64 k] X.heap.size 1 1 rfl hB (by decide) rfl
  have hc : OwnC B A ⟨.slice (some ⟨X.heap.size, 0, none⟩) 1 1, .int .i64 n, .slice none 0 0, .slice none 0 0, .slice none 0 0⟩ (cK n k) :=
    ⟨rfl, ⟨⟨ho, fun x hx => by rw [List.mem_singleton.1 hx]; exact hk⟩, OI.nil _ _, OI.nil _ _, OI.nil _ _⟩, hn⟩
  obtain ⟨v', Y, hrun, hG, hg, -⟩ := append_one (h.below hb) hc hl (by omega)
  rw [← hA, ← sA]
  refine ⟨v', _, Y, hrun, hG, ?_⟩
  have hb2 : Below B X (A.alloc (.cells #[.slice (some ⟨X.heap.size, 0, none⟩) 1 1, .int .i64 n, .slice none 0 0, .slice none 0 0, .slice none 0 0] 41)) := (hb.mono hB).alloc (by omega) _
  exact hb2.grown hg (by simp; omega) fun j hj => (h.1.lt j hj).1
theorem good_keys {n : Int} {ks : List Int} (hn : inK .i64 n) (hk : ∀ k ∈ ks, 0 ≤ k ∧ k ≤ 15) : ∀ x ∈ ks.map (cK n), GoodC 0 x := fun x hx => by
  obtain ⟨k, hk1, rfl⟩ := List.mem_map.1 hx
  exact ⟨fun v hv => by rw [show v = k from by simpa [cK] using hv]; exact hk k hk1, by simp [cK], ⟨rfl, rfl, rfl⟩, hn⟩
/-- The last key. -/
def lastKey (p : Option (List Int)) : List Cel → Option (List Int)
  | [] => p
  | x :: l => lastKey (some x.key) l
theorem lastKey_snoc (c : Cel) : ∀ (l : List Cel) (p : Option (List Int)), lastKey p (l ++ [c]) = some c.key
  | [], _ => rfl
  | _ :: l, _ => lastKey_snoc c l _
/-- Held one by one: one run more where the key is another one. -/
theorem runs_snoc (c : Cel) : ∀ (l H : List Cel) (p : Option (List Int)), (H = [] ∧ p = none ∨ ∃ h, H = [h] ∧ p = some h.key) → (runsP 1 H (l ++ [c])).length = (runsP 1 H l).length + if lastKey p l = some c.key then 0 else 1
  | [], H, p, hr => by
    rcases hr with ⟨rfl, rfl⟩ | ⟨h, rfl, rfl⟩
    · rfl
    · by_cases hk : h.key = c.key
      · have e : hasK [h] c = true := hasK_iff.2 ⟨h, by simp, hk⟩
        simp only [List.nil_append, runsP, e, if_true, putC_ne, if_false, lastKey, hk]
        simp
      · have e : hasK [h] c = false := by
          cases hh : hasK [h] c with
          | false => rfl
          | true =>
            obtain ⟨x, hx, e⟩ := hasK_iff.1 hh
            rw [List.mem_singleton.1 hx] at e
            exact (hk e).elim
        simp only [List.nil_append, runsP, e, lastKey]
        simp [hk]
  | x :: l, H, p, hr => by
    have one : ∀ h, h.key = x.key → putC [h] x = [join2 h x] := fun h hh => by
      unfold putC
      rw [hh, cmpL_self]
      simp
    rcases hr with ⟨rfl, rfl⟩ | ⟨h, rfl, rfl⟩
    · have e : hasK [] x = false := rfl
      have h1 : ∀ l', runsP 1 [] (x :: l') = runsP 1 [x] l' := fun l' => by simp [runsP, e, putC]
      rw [List.cons_append, h1, h1]
      exact runs_snoc c l [x] _ (.inr ⟨x, rfl, rfl⟩)
    · by_cases hk : h.key = x.key
      · have e : hasK [h] x = true := hasK_iff.2 ⟨h, by simp, hk⟩
        have h1 : ∀ l', runsP 1 [h] (x :: l') = runsP 1 [join2 h x] l' := fun l' => by rw [← one h hk]; simp [runsP, e]
        rw [List.cons_append, h1, h1]
        exact runs_snoc c l [join2 h x] _ (.inr ⟨_, rfl, by show some x.key = some h.key; rw [hk]⟩)
      · have e : hasK [h] x = false := by
          cases hh : hasK [h] x with
          | false => rfl
          | true =>
            obtain ⟨y, hy, e⟩ := hasK_iff.1 hh
            rw [List.mem_singleton.1 hy] at e
            exact (hk e).elim
        have h1 : ∀ l', runsP 1 [h] (x :: l') = [h] :: runsP 1 [x] l' := fun l' => by simp [runsP, e]
        rw [List.cons_append, h1, h1, List.length_cons, List.length_cons, runs_snoc c l [x] (some x.key) (.inr ⟨x, rfl, rfl⟩)]
        show _ = _ + if lastKey (some x.key) l = some c.key then 0 else 1
        omega
theorem runs_one_more (c : Cel) (l : List Cel) : (runsP 1 [] (l ++ [c])).length = (runsP 1 [] l).length + if lastKey none l = some c.key then 0 else 1 := runs_snoc c l [] none (.inl ⟨rfl, rfl⟩)
end Go.Proofs.YtaaciedelfaekaaDoor
