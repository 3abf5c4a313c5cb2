/- Package hash: the stable sort of a part, in place. -/
import Derived.IntWalk
import Derived.Test.YtmolfcccfekcpaaHshc
import Derived.Test.YtmolfcccfekcpaaGroupN
namespace Go.Proofs.Ytmolfcccfekcpaa.Stab
open Go.RowKit Go.Shelf Go.Lib Go.Sort
end Go.Proofs.Ytmolfcccfekcpaa.Stab
namespace Go.Proofs.Ytmolfcccfekcpaa
open Go.RowKit Go.Shelf Go.Sort Go.Lib
attribute [local go_sem] Oper.semAt_some
abbrev SP (Q : V5 × Cel → Prop) := { p : V5 × Cel // Q p }
def encS {Q : V5 × Cel → Prop} (p : SP Q) : List Value := p.1.1.l
theorem flat_atS {Q : V5 × Cel → Prop} [Inhabited (SP Q)] (d : Array (SP Q)) (j : Nat) (u : Value) (h : (flatV (d.toList.map fun p => p.1.1))[j]? = some u) : j < d.size * 5 ∧ (flatK encS 5 d)[j]! = u := by
  have hj : j < d.size * 5 := by
    have := (List.getElem?_eq_some_iff.1 h).1
    rw [flatV_len] at this
    simpa using this
  refine ⟨hj, ?_⟩
  rw [get_flatK _ _ _ _ hj]
  have hi : j / 5 < d.size := by omega
  have hv : (d.toList.map fun p => p.1.1)[j / 5]? = some (d[j / 5]!).1.1 := by
    rw [getElem!_pos d (j / 5) hi]
    simp [hi]
  obtain ⟨f0, f1, f2, f3, f4⟩ := flatV_at hv
  unfold encS V5.l
  rcases (by omega : j % 5 = 0 ∨ j % 5 = 1 ∨ j % 5 = 2 ∨ j % 5 = 3 ∨ j % 5 = 4) with e | e | e | e | e <;> rw [e]
  · rw [show j / 5 * 5 = j by omega, h] at f0; injection f0 with f0; simp [f0]
  · rw [show j / 5 * 5 + 1 = j by omega, h] at f1; injection f1 with f1; simp [f1]
  · rw [show j / 5 * 5 + 2 = j by omega, h] at f2; injection f2 with f2; simp [f2]
  · rw [show j / 5 * 5 + 3 = j by omega, h] at f3; injection f3 with f3; simp [f3]
  · rw [show j / 5 * 5 + 4 = j by omega, h] at f4; injection f4 with f4; simp [f4]
theorem flat_someS {Q : V5 × Cel → Prop} [Inhabited (SP Q)] (d : Array (SP Q)) (j : Nat) (h : j < d.size * 5) : (flatV (d.toList.map fun p => p.1.1))[j]? = some (flatK encS 5 d)[j]! := by
  obtain ⟨u, hu⟩ : ∃ u, (flatV (d.toList.map fun p => p.1.1))[j]? = some u := ⟨_, List.getElem?_eq_getElem (by rw [flatV_len]; simpa using h)⟩
  rw [hu, (flat_atS d j u hu).2]
/-- Cells' values laid in a block from an offset on, free to be written. -/
def HoldsL (w : World) (blk off : Nat) (vs : List V5) : Prop := ∀ j u, (flatV vs)[j]? = some u → w.cell? ⟨blk, off + j, none⟩ = some u ∧ w.frozen? ⟨blk, off + j, none⟩ = false
/-- What lies elsewhere has not turned. -/
def Else (blk off n : Nat) (w w' : World) : Prop := ∀ p : Addr, p.block < w.heap.size → (p.block ≠ blk ∨ p.off < off ∨ off + n * 5 ≤ p.off) → w'.cell? p = w.cell? p ∧ w'.frozen? p = w.frozen? p
theorem sortWorld_else {α : Type} [Inhabited α] (enc : α → List Value) (blk off m : Nat) (d : Array α) (os : Array Obj) (w : World) : Else blk off d.size w (sortWorldK enc 5 w blk off m d os) := fun p hp hc => by
  unfold sortWorldK
  rw [cell?_grow _ _ _ (by rw [size_putRowK]; exact hp), frozen?_grow _ _ _ (by rw [size_putRowK]; exact hp)]
  unfold putRowK
  rw [frozen?_putRow, cell?_putRow_other _ _ _ _ _ _ (by rw [size_flatK]; exact hc)]
  exact ⟨rfl, rfl⟩
theorem tch_sortWorld {α : Type} [Inhabited α] (enc : α → List Value) (blk off m : Nat) (d : Array α) (os : Array Obj) (w : World) : Tch (fun b => b = blk) w (sortWorldK enc 5 w blk off m d os) := by
  unfold sortWorldK
  refine ⟨rfl, rfl, rfl, ?_, fun q hq hn => ?_⟩
  · rw [size_grow, size_putRowK]; exact Nat.le_add_right _ _
  · rw [heap_grow_old _ _ (by rw [size_putRowK]; exact hq)]
    simp only [putRowK, putRow, mapBlock, Array.getElem?_modify]
    rw [if_neg (fun e => hn e.symm)]
    rfl
/-- The block is one of cells. -/
def TyC (w : World) (blk : Nat) : Prop := ∃ cur, w.heap[blk]? = some (.cells cur 44 (0, 0))
theorem TyC.of {w w' : World} {blk : Nat} (h : TyC w blk) (e : w'.heap[blk]? = w.heap[blk]?) : TyC w' blk := by obtain ⟨cur, hc⟩ := h; exact ⟨cur, e.trans hc⟩
theorem TyC.lt {w : World} {blk : Nat} (h : TyC w blk) : blk < w.heap.size := by
  obtain ⟨cur, hc⟩ := h
  exact (Array.getElem?_eq_some_iff.1 hc).1
theorem ty_sortWorld {α : Type} [Inhabited α] (enc : α → List Value) (blk off m : Nat) (d : Array α) (os : Array Obj) (w : World) (h : TyC w blk) : TyC (sortWorldK enc 5 w blk off m d os) blk := by
  have hl := h.lt
  obtain ⟨cur, hc⟩ := h
  unfold TyC sortWorldK
  rw [heap_grow_old _ _ (by rw [size_putRowK]; exact hl)]
  have hc2 : (Sort.ahead w m).heap[blk]? = some (.cells cur 44 (0, 0)) := hc
  simp only [putRowK, putRow, mapBlock, Array.getElem?_modify, if_true, hc2, Option.map_some]
  exact ⟨_, rfl⟩
abbrev QR (w0 : World) (dd : Nat) : V5 × Cel → Prop := fun p => Reads w0 p.1 p.2 ∧ p.2.key.length = dd
theorem mk_sp {Q : V5 × Cel → Prop} : ∀ {D : List (V5 × Cel)}, (∀ p ∈ D, Q p) → ∃ d : List (SP Q), d.map (fun p => p.1) = D
  | [], _ => ⟨[], rfl⟩
  | p :: D, h => by
    obtain ⟨d, hd⟩ := mk_sp (D := D) fun q hq => h q (by simp [hq])
    exact ⟨⟨p, h p (by simp)⟩ :: d, by simp [hd]⟩
def cfS {Q : V5 × Cel → Prop} (a : Nat) (p q : SP Q) : Int := cmpI (valK p.1.2 a) (valK q.1.2 a)
theorem swoS {Q : V5 × Cel → Prop} (a : Nat) : SWO (ltOf (cfS (Q := Q) a)) where
  irrefl x := by simp [ltOf, cfS, cmpI_self]
  trans x y z h1 h2 := by
    have a1 := cmpI_lt.1 (of_decide_eq_true h1)
    have b1 := cmpI_lt.1 (of_decide_eq_true h2)
    exact decide_eq_true (cmpI_lt.2 (by omega))
  ntrans x y z h1 h2 := by
    have a1 : ¬ valK x.1.2 a < valK y.1.2 a := fun h => of_decide_eq_false h1 (cmpI_lt.2 h)
    have b1 : ¬ valK y.1.2 a < valK z.1.2 a := fun h => of_decide_eq_false h2 (cmpI_lt.2 h)
    exact decide_eq_false fun h => by have := cmpI_lt.1 (show cmpI (valK x.1.2 a) (valK z.1.2 a) < 0 from h); omega
end Go.Proofs.Ytmolfcccfekcpaa
