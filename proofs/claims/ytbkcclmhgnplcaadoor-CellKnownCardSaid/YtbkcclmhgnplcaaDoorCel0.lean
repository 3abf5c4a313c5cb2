/- Cells as mathematics; how they read in memory. -/
import Derived.Test.YtbkcclmhgnplcaaDoorInts
namespace Go.Proofs.YtbkcclmhgnplcaaDoor
open Go.RowKit
structure Cel where
  key : List Int
  cnt : Int
  sum : List Int
  mn : List Int
  mx : List Int
/-- Two numbers, two rows of numbers, held against one another. -/
def cmpI (x y : Int) : Int := if x < y then -1 else if y < x then 1 else 0
def cmpL : List Int → List Int → Int
  | [], [] => 0
  | [], _ :: _ => -1
  | _ :: _, [] => 1
  | x :: s, y :: t => if cmpI x y = 0 then cmpL s t else cmpI x y
theorem cmpI_self (x : Int) : cmpI x x = 0 := by simp [cmpI]
theorem cmpI_zero {x y : Int} : cmpI x y = 0 ↔ x = y := by
  unfold cmpI
  split
  · constructor <;> intro h <;> omega
  · split
    · constructor <;> intro h <;> omega
    · constructor <;> intro h <;> omega
theorem cmpL_self : ∀ (s : List Int), cmpL s s = 0
  | [] => rfl
  | x :: s => by unfold cmpL; rw [if_pos (cmpI_self x)]; exact cmpL_self s
theorem cmpL_zero : ∀ {s t : List Int}, cmpL s t = 0 ↔ s = t
  | [], [] => by simp [cmpL]
  | [], _ :: _ => by simp [cmpL]
  | _ :: _, [] => by simp [cmpL]
  | x :: s, y :: t => by
    unfold cmpL
    split
    · rename_i h
      rw [cmpL_zero (s := s) (t := t), cmpI_zero.1 h]
      simp
    · rename_i h
      constructor
      · intro h1; exact absurd h1 h
      · intro h1; injection h1 with h1 _; exact absurd (cmpI_zero.2 h1) h
theorem cmpI_in (x y : Int) : cmpI x y = -1 ∨ cmpI x y = 0 ∨ cmpI x y = 1 := by
  unfold cmpI
  split
  · exact .inl rfl
  · split
    · exact .inr (.inr rfl)
    · exact .inr (.inl rfl)
theorem cmpL_in : ∀ (s t : List Int), cmpL s t = -1 ∨ cmpL s t = 0 ∨ cmpL s t = 1
  | [], [] => by simp [cmpL]
  | [], _ :: _ => by simp [cmpL]
  | _ :: _, [] => by simp [cmpL]
  | x :: s, y :: t => by
    unfold cmpL
    split
    · exact cmpL_in s t
    · exact cmpI_in x y
theorem cmpI_anti (x y : Int) : cmpI y x = - cmpI x y := by
  unfold cmpI
  split <;> split <;> (try split) <;> omega
theorem cmpL_anti : ∀ (s t : List Int), cmpL t s = - cmpL s t
  | [], [] => rfl
  | [], _ :: _ => rfl
  | _ :: _, [] => rfl
  | x :: s, y :: t => by
    have h := cmpI_anti x y
    have ih := cmpL_anti s t
    unfold cmpL
    by_cases h0 : cmpI x y = 0
    · rw [if_pos h0, if_pos (by omega), ih]
    · rw [if_neg h0, if_neg (by omega), h]
theorem cmpI_lt {x y : Int} : cmpI x y < 0 ↔ x < y := by
  unfold cmpI
  split
  · constructor <;> intro h <;> omega
  · split <;> (constructor <;> intro h <;> omega)
/-- 'Less' goes on. -/
theorem cmpL_trans : ∀ {s t u : List Int}, cmpL s t ≤ 0 → cmpL t u ≤ 0 → cmpL s u ≤ 0
  | [], _, [] , _, _ => by simp [cmpL]
  | [], _, _ :: _, _, _ => by simp [cmpL]
  | _ :: _, [], _, h, _ => by simp [cmpL] at h
  | _ :: _, _ :: _, [], _, h => by simp [cmpL] at h
  | x :: s, y :: t, z :: u, h1, h2 => by
    unfold cmpL at h1 h2 ⊢
    by_cases a : cmpI x y = 0
    · rw [if_pos a] at h1
      have ea := cmpI_zero.1 a
      subst ea
      by_cases b : cmpI x z = 0
      · rw [if_pos b] at h2 ⊢
        exact cmpL_trans h1 h2
      · rw [if_neg b] at h2 ⊢; exact h2
    · rw [if_neg a] at h1
      have la := cmpI_lt.1 (show cmpI x y < 0 by omega)
      by_cases b : cmpI y z = 0
      · have eb := cmpI_zero.1 b
        subst eb
        rw [if_neg a]; exact h1
      · rw [if_neg b] at h2
        have lb := cmpI_lt.1 (show cmpI y z < 0 by omega)
        have lc : cmpI x z < 0 := cmpI_lt.2 (by omega)
        rw [if_neg (by omega)]
        omega
theorem cmpL_drop {s t : List Int} {k : Nat} {x y : Int} (hx : s[k]? = some x) (hy : t[k]? = some y) : cmpL (s.drop k) (t.drop k) = if cmpI x y = 0 then cmpL (s.drop (k + 1)) (t.drop (k + 1)) else cmpI x y := by
  obtain ⟨h1, rfl⟩ := List.getElem?_eq_some_iff.1 hx
  obtain ⟨h2, rfl⟩ := List.getElem?_eq_some_iff.1 hy
  rw [List.drop_eq_getElem_cons h1, List.drop_eq_getElem_cons h2]
  rfl
/-- A slice of ints that reads as xs. -/
def RI (w : World) (v : Value) (xs : List Int) : Prop := ∃ P c, v = .slice P xs.length c ∧ Nums .i64 w P xs.length xs ∧ xs.length ≤ c ∧ c ≤ maxLen ∧ (P = none → c = 0)
theorem OI.ri {B : Nat} {w : World} {v : Value} {xs : List Int} (h : OI B w v xs) : RI w v xs := by
  obtain ⟨P, c, hv, h1, h2, h3, h4⟩ := h.form
  exact ⟨P, c, hv, h3, h1, h2, h4⟩
theorem RI.keep {w w' : World} {v : Value} {xs : List Int} (h : RI w v xs) (hk : Keeps w w') : RI w' v xs := by
  obtain ⟨P, c, hv, h1, h2⟩ := h
  exact ⟨P, c, hv, h1.keep hk, h2⟩
/-- Four slices that read as a cell's. -/
structure CR (w : World) (k s n m : Value) (x : Cel) : Prop where
  key : RI w k x.key
  sum : RI w s x.sum
  mn : RI w n x.mn
  mx : RI w m x.mx
structure CO (B : Nat) (w : World) (k s n m : Value) (x : Cel) : Prop where
  key : OI B w k x.key
  sum : OI B w s x.sum
  mn : OI B w n x.mn
  mx : OI B w m x.mx
section
variable {B B' : Nat} {w w' : World} {k s n m : Value} {x : Cel}
theorem CO.cr (h : CO B w k s n m x) : CR w k s n m x := ⟨h.key.ri, h.sum.ri, h.mn.ri, h.mx.ri⟩
theorem CR.keep (h : CR w k s n m x) (hk : Keeps w w') : CR w' k s n m x := ⟨h.key.keep hk, h.sum.keep hk, h.mn.keep hk, h.mx.keep hk⟩
theorem CO.below (h : CO B w k s n m x) (hb : Below w.heap.size w w') : CO B w' k s n m x := ⟨h.key.below hb, h.sum.below hb, h.mn.below hb, h.mx.below hb⟩
theorem CO.mono (h : CO B w k s n m x) (hb : B' ≤ B) : CO B' w k s n m x := ⟨h.key.mono hb, h.sum.mono hb, h.mn.mono hb, h.mx.mono hb⟩
end
/-- Two slices of the call's own do not share a block. -/
def Ap (v u : Value) : Prop := ∀ b, v.ownBlock = some b → u.ownBlock ≠ some b
theorem Ap.symm {v u : Value} (h : Ap v u) : Ap u v := fun b h1 h2 => h b h2 h1
/-- Six pairs. -/
structure Ap4 (k s n m : Value) : Prop where
  ks : Ap k s
  kn : Ap k n
  km : Ap k m
  sn : Ap s n
  sm : Ap s m
  nm : Ap n m
theorem OI.ap {B B' : Nat} {w w' : World} {v u : Value} {xs ys : List Int} (h : OI B w v xs) (h' : OI B' w' u ys) (hb : w.heap.size ≤ B') : Ap v u := fun b h1 h2 => by
  have a := (h.1.lt b h1).2
  have c := (h'.1.lt b h2).1
  omega
/-- A number is stored into a slice of the call's own. -/
theorem OI.put {B g n c i : Nat} {w : World} {xs : List Int} (h : OI B w (.slice (some ⟨g, 0, none⟩) n c) xs) (y : Int) (hy : inK .i64 y) : OI B (w.setCell ⟨g, i, none⟩ (.int .i64 y)) (.slice (some ⟨g, 0, none⟩) n c) (xs.set i y) := by
  obtain ⟨h1, h2⟩ := h
  have hn : n = xs.length := by
    obtain ⟨P, c', e, _⟩ := own_form h1
    injection e
  subst hn
  refine ⟨?_, fun x hx => ?_⟩
  · have e : ints (xs.set i y) = (ints xs).set i (.int .i64 y) := by simp [ints, List.map_set]
    rw [e, List.length_set]
    refine ⟨by rw [List.length_set]; exact h1.1, ?_⟩
    rcases h1.2 with ⟨e0, _⟩ | ⟨g', cap', cur, e0, hg, hh, a1, a2, a3, a4⟩
    · cases e0
    · injection e0 with e1 e2 e3
      injection e1 with e1
      injection e1 with e1
      subst e1 e3
      refine .inr ⟨g, c, cur.setIfInBounds i (.int .i64 y), rfl, hg, ?_, a1, a2, by simpa using a3, ?_⟩
      · simp [World.setCell, Array.getElem?_modify, hh]
      · rw [Array.toList_setIfInBounds, List.take_set, a4]
  · rcases List.mem_or_eq_of_mem_set hx with h0 | h0
    · exact h2 x h0
    · subst h0; exact hy
theorem OI.other {B g i : Nat} {w : World} {v : Value} {xs : List Int} (h : OI B w v xs) (u : Value) (hne : v.ownBlock ≠ some g) : OI B (w.setCell ⟨g, i, none⟩ u) v xs :=
  ⟨own_stay h.1 fun k hk => Below.heap_setCell _ _ _ _ fun e => hne (by rw [hk, e]), h.2⟩
/-- A cell in memory. -/
def CellAt (w : World) (a : Addr) (x : Cel) : Prop :=
  ∃ k s n m, w.cell? a = some k ∧ w.cell? ⟨a.block, a.off + 1, none⟩ = some (.int .i64 x.cnt) ∧ w.cell? ⟨a.block, a.off + 2, none⟩ = some s ∧ w.cell? ⟨a.block, a.off + 3, none⟩ = some n ∧ w.cell? ⟨a.block, a.off + 4, none⟩ = some m ∧ CR w k s n m x ∧ inK .i64 x.cnt
theorem CellAt.keep {w w' : World} {a : Addr} {x : Cel} (h : CellAt w a x) (hk : Keeps w w') : CellAt w' a x := by
  obtain ⟨k, s, n, m, h1, h2, h3, h4, h5, h6, h7⟩ := h
  exact ⟨k, s, n, m, hk _ _ h1, hk _ _ h2, hk _ _ h3, hk _ _ h4, hk _ _ h5, h6.keep hk, h7⟩
/-- A row of cells in memory. -/
def CellsR (w : World) (ad : Addr) (l : List Cel) : Prop := ∀ j x, l[j]? = some x → CellAt w (ad.add (j * 5)) x
theorem CellsR.keep {w w' : World} {ad : Addr} {l : List Cel} (h : CellsR w ad l) (hk : Keeps w w') : CellsR w' ad l := fun j x hj => (h j x hj).keep hk
theorem CellsR.drop {w : World} {ad : Addr} {l : List Cel} (h : CellsR w ad l) (i : Nat) : CellsR w (ad.add (i * 5)) (l.drop i) := fun j x hj => by
  rw [List.getElem?_drop] at hj
  rw [add_of_add, show i * 5 + j * 5 = (i + j) * 5 by omega]
  exact h _ _ hj
theorem CellsR.take {w : World} {ad : Addr} {l : List Cel} (h : CellsR w ad l) (i : Nat) : CellsR w ad (l.take i) := fun j x hj => by
  rw [List.getElem?_take] at hj
  split at hj
  · exact h _ _ hj
  · cases hj
theorem CellsR.first {w : World} {ad : Addr} {x : Cel} {l : List Cel} (h : CellsR w ad (x :: l)) : CellAt w ad x := by
  have := h 0 x rfl
  rwa [show ad.add (0 * 5) = ad from by simp [Addr.add]] at this
/-- Each has so many measures. -/
def EvenC (me : Nat) (x : Cel) : Prop := x.sum.length = me ∧ x.mn.length = me ∧ x.mx.length = me
/-- What two cells come to; what some do. -/
def addL (a b : List Int) : List Int := List.zipWith (fun x y => wrap64 (x + y)) a b
def minL (a b : List Int) : List Int := List.zipWith min a b
def maxL (a b : List Int) : List Int := List.zipWith max a b
def join2 (a b : Cel) : Cel := ⟨a.key, wrap64 (a.cnt + b.cnt), addL a.sum b.sum, minL a.mn b.mn, maxL a.mx b.mx⟩
def joinAll : List Cel → Cel
  | [] => ⟨[], 0, [], [], []⟩
  | x :: t => t.foldl join2 x
end Go.Proofs.YtbkcclmhgnplcaaDoor
