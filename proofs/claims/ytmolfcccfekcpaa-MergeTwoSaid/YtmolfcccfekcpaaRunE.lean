/- Package runs: a piece, sorted by its keys. -/
import Derived.Shelf.Lay
import Derived.Shelf.LaySoft
import Derived.Shelf.SlGeneric
import Derived.Ground.SlsfProg
import Derived.IntWalk
import Derived.Test.YtmolfcccfekcpaaProg
import Derived.Test.YtmolfcccfekcpaaCcmp
import Derived.Test.YtmolfcccfekcpaaHshd
import Derived.Test.YtmolfcccfekcpaaPcs
namespace Go.Proofs.Ytmolfcccfekcpaa
open Go.RowKit Go.Shelf Go.Sort Go.Lib
attribute [local go_sem] Oper.semAt_some
abbrev QO (w0 : World) (B : Nat) (w : World) : V5 × Cel → Prop := fun p => (Reads w0 p.1 p.2 ∨ OwnC B w p.1 p.2) ∧ p.2.key.length ≤ 1000000
def cfK {Q : V5 × Cel → Prop} (p q : SP Q) : Int := cmpL p.1.2.key q.1.2.key
theorem swoK {Q : V5 × Cel → Prop} : SWO (ltOf (cfK (Q := Q))) where
  irrefl x := by simp [ltOf, cfK, cmpL_self]
  trans x y z h1 h2 := by
    have a := of_decide_eq_true h1
    have b := of_decide_eq_true h2
    refine decide_eq_true ?_
    unfold cfK at *
    have c := cmpL_trans (Int.le_of_lt a) (Int.le_of_lt b)
    rcases Int.lt_or_eq_of_le c with h | h
    · exact h
    · rw [← cmpL_zero.1 h] at b
      have := cmpL_anti x.1.2.key y.1.2.key
      omega
  ntrans x y z h1 h2 := by
    have a := of_decide_eq_false h1
    have b := of_decide_eq_false h2
    refine decide_eq_false ?_
    unfold cfK at *
    have e1 := cmpL_anti x.1.2.key y.1.2.key
    have e2 := cmpL_anti y.1.2.key z.1.2.key
    have e3 := cmpL_anti x.1.2.key z.1.2.key
    have := cmpL_trans (s := z.1.2.key) (t := y.1.2.key) (u := x.1.2.key) (by omega) (by omega)
    omega
/-- A row of distinct keys, sorted, is its own group-by. -/
theorem sorted_grp {l J : List Cel} (hp : l.Perm J) (ha : J.Pairwise fun x y => x.key ≠ y.key) (hs : l.Pairwise fun x y => cmpL x.key y.key ≤ 0) : l = grpR J := by
  have ha2 : l.Pairwise fun x y => x.key ≠ y.key := (hp.symm.pairwise_iff (fun {a b} h e => h e.symm)).1 ha
  have hr : RiseC l := by
    refine (hs.and ha2).imp ?_
    rintro a b ⟨h1, h2⟩
    rcases Int.lt_or_eq_of_le h1 with h | h
    · exact h
    · exact absurd (cmpL_zero.1 h) h2
  rw [← grpR_perm hp]
  exact (grp_same l [] (by simpa using hr)).symm
theorem mk_rdo {w0 : World} {B : Nat} {w : World} : ∀ {vs : List V5} {l : List Cel}, RdO w0 B w vs l → (∀ x ∈ l, x.key.length ≤ 1000000) → ∃ D : List (V5 × Cel), D.map (·.1) = vs ∧ D.map (·.2) = l ∧ ∀ p ∈ D, QO w0 B w p
  | [], [], _, _ => ⟨[], rfl, rfl, fun p hp => by cases hp⟩
  | [], _ :: _, h, _ => by have := h.1; simp at this
  | _ :: _, [], h, _ => by have := h.1; simp at this
  | v :: vs, x :: l, h, hk => by
    obtain ⟨D, h1, h2, h3⟩ := mk_rdo (vs := vs) (l := l) ⟨by have := h.1; simpa using this, fun i u y hu hy => h.2 (i + 1) u y (by simpa using hu) (by simpa using hy)⟩ fun y hy => hk y (List.mem_cons_of_mem _ hy)
    refine ⟨(v, x) :: D, by simp [h1], by simp [h2], fun p hp => ?_⟩
    rcases List.mem_cons.1 hp with rfl | hp
    · exact ⟨h.2 0 v x rfl rfl, hk x (by simp)⟩
    · exact h3 p hp
theorem cells_sortWorld {α : Type} [Inhabited α] (enc : α → List Value) (blk off m : Nat) (d : Array α) (os : Array Obj) (w : World) {cur : Array Value} {T : TypeId} (h : w.heap[blk]? = some (.cells cur T (0, 0))) : ∃ cur' : Array Value, (sortWorldK enc 5 w blk off m d os).heap[blk]? = some (.cells cur' T (0, 0)) ∧ cur'.size = cur.size := by
  have hl := (Array.getElem?_eq_some_iff.1 h).1
  unfold sortWorldK
  rw [heap_grow_old _ _ (by rw [size_putRowK]; exact hl)]
  have hc2 : (Sort.ahead w m).heap[blk]? = some (.cells cur T (0, 0)) := h
  simp only [putRowK, putRow, mapBlock, Array.getElem?_modify, if_true, hc2, Option.map_some]
  exact ⟨_, rfl, by simp [putCells]⟩
theorem row_sorted {B g c N : Nat} {vs us : List V5} {w w' : World} (ho : w.ownsRow B 44 5 (.slice (some ⟨g, 0, none⟩) N c) N (flatV vs)) (hN : us.length = N) (hc : ∀ j u, (flatV us)[j]? = some u → w'.cell? ⟨g, j, none⟩ = some u)
    (hh : ∃ cur' : Array Value, w'.heap[g]? = some (.cells cur' 44 (0, 0)) ∧ ∀ cur, w.heap[g]? = some (.cells cur 44 (0, 0)) → cur'.size = cur.size) : w'.ownsRow B 44 5 (.slice (some ⟨g, 0, none⟩) N c) N (flatV us) := by
  have hfl : (flatV us).length = N * 5 := by rw [flatV_len, hN]
  rcases ho.2 with ⟨e, _⟩ | ⟨g', cap, cur, e, h2, h3, h4, h5, h6, -⟩
  · cases e
  · injection e with e1 e2 e3
    injection e1 with e1
    injection e1 with e1
    subst e1 e3
    obtain ⟨cur', h7, h8⟩ := hh
    have h9 := h8 cur h3
    refine ⟨hfl, .inr ⟨g, c, cur', rfl, h2, h7, h4, h5, by rw [h9, h6], ?_⟩⟩
    apply List.ext_getElem?
    intro j
    rw [List.getElem?_take]
    rcases Nat.lt_or_ge j (N * 5) with hj | hj
    · rw [if_pos hj]
      have hu := List.getElem?_eq_getElem (l := flatV us) (i := j) (by omega)
      have := hc j _ hu
      rw [cell_of_row w' g j cur' 44 (0, 0) h7] at this
      rw [hu, Array.getElem?_toList]
      exact this
    · rw [if_neg (by omega), List.getElem?_eq_none (by omega)]
end Go.Proofs.Ytmolfcccfekcpaa
/- Package runs: a piece made a run. -/
namespace Go.Proofs.Ytmolfcccfekcpaa
open Go.RowKit Go.Shelf
attribute [local go_sem] Oper.semAt_some
theorem putC_perm_newR (c : Cel) : ∀ (l : List Cel), (∀ x ∈ l, x.key ≠ c.key) → (putC l c).Perm (c :: l)
  | [], _ => List.Perm.refl _
  | x :: l, h => by
    simp only [putC]
    split
    · exact (List.Perm.cons x (putC_perm_newR c l fun y hy => h y (by simp [hy]))).trans (List.Perm.swap c x l)
    · rw [if_neg fun e => h x (by simp) (cmpL_zero.1 e)]
theorem fold_perm_apartR : ∀ (l acc : List Cel), (l.Pairwise fun x y => x.key ≠ y.key) → (∀ x ∈ acc, ∀ y ∈ l, x.key ≠ y.key) → (l.foldl putC acc).Perm (l ++ acc)
  | [], acc, _, _ => List.Perm.refl _
  | c :: l, acc, h, hd => by
    obtain ⟨h1, h2⟩ := List.pairwise_cons.1 h
    have hp := putC_perm_newR c acc fun x hx => hd x hx c (by simp)
    have := fold_perm_apartR l (putC acc c) h2 (fun x hx y hy => by
      rcases List.mem_cons.1 (hp.mem_iff.1 hx) with rfl | hx
      · exact h1 y hy
      · exact hd x hx y (by simp [hy]))
    rw [List.foldl_cons]
    refine this.trans ((List.Perm.append_left l hp).trans ?_)
    exact List.perm_middle
theorem grp_perm_apartR {l : List Cel} (h : l.Pairwise fun x y => x.key ≠ y.key) : (grpR l).Perm l := by
  have := fold_perm_apartR l [] h (fun x hx => by cases hx)
  simpa [grpR] using this
/-- The first k cells are the call's own already. -/
def PartO (w0 : World) (B Bn : Nat) (X : World) (us : List V5) (H : List Cel) (k : Nat) : Prop := us.length = H.length ∧ ∀ (i : Nat) u x, us[i]? = some u → H[i]? = some x → if i < k then OwnC Bn X u x else (Reads w0 u x ∨ OwnC B X u x)
theorem PartO.start {w0 X : World} {B Bn : Nat} {us : List V5} {H : List Cel} (h : RdO w0 B X us H) : PartO w0 B Bn X us H 0 := ⟨h.1, fun i u x hu hx => by rw [if_neg (by omega)]; exact h.2 i u x hu hx⟩
theorem PartO.all {w0 X : World} {B Bn : Nat} {us : List V5} {H : List Cel} (h : PartO w0 B Bn X us H H.length) : OwnL Bn X us H := ⟨h.1, fun i u x hu hx => by
  have := h.2 i u x hu hx
  rwa [if_pos (List.getElem?_eq_some_iff.1 hx).1] at this⟩
theorem PartO.tchN {w0 X Y : World} {B Bn k : Nat} {us : List V5} {H : List Cel} {M : Nat → Prop} (h : PartO w0 B Bn X us H k) (ht : Tch M X Y) (hM : ∀ k, M k → NotInt X k) : PartO w0 B Bn Y us H k := ⟨h.1, fun i u x hu hx => by
  have := h.2 i u x hu hx
  split at this
  · rename_i hi; rw [if_pos hi]; exact this.stay fun q => q.tchN ht hM
  · rename_i hi; rw [if_neg hi]; exact this.imp id fun o => o.stay fun q => q.tchN ht hM⟩
theorem PartO.set {w0 X : World} {B Bn k : Nat} {us : List V5} {H : List Cel} {v : V5} {x : Cel} (h : PartO w0 B Bn X us H k) (hx : H[k]? = some x) (hv : OwnC Bn X v x) : PartO w0 B Bn X (us.set k v) H (k + 1) := ⟨by rw [List.length_set, h.1], fun i u y hu hy => by
  rw [List.getElem?_set] at hu
  by_cases e : k = i
  · subst e
    rw [if_pos rfl] at hu
    rw [hx] at hy
    injection hy with hy
    subst hy
    split at hu
    · injection hu with hu; subst hu; rw [if_pos (by omega)]; exact hv
    · cases hu
  · rw [if_neg e] at hu
    have := h.2 i u y hu hy
    split at this
    · rename_i hi; rw [if_pos (by omega)]; exact this
    · rename_i hi; rw [if_neg (by omega)]; exact this⟩
end Go.Proofs.Ytmolfcccfekcpaa
