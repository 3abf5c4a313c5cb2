/- A cell that others are joined into, in memory. -/
import Derived.Test.YtmolfcccfekcpaaCel3
namespace Go.Proofs.Ytmolfcccfekcpaa
open Go.RowKit
/-- Joined up to number m. -/
def part (f : Int → Int → Int) (a b : List Int) (m : Nat) : List Int := (List.zipWith f a b).take m ++ a.drop m
section
variable {f : Int → Int → Int} {a b : List Int} {m : Nat}
theorem part_zero : part f a b 0 = a := by simp [part]
theorem part_all (h : a.length = b.length) : part f a b a.length = List.zipWith f a b := by
  unfold part
  rw [List.take_of_length_le (by rw [List.length_zipWith]; omega), List.drop_length, List.append_nil]
theorem part_len (h : a.length = b.length) (hm : m ≤ a.length) : (part f a b m).length = a.length := by
  unfold part
  rw [List.length_append, List.length_take, List.length_drop, List.length_zipWith]
  omega
theorem part_take_len (h : a.length = b.length) (hm : m ≤ a.length) : ((List.zipWith f a b).take m).length = m := by
  rw [List.length_take, List.length_zipWith]
  omega
theorem part_at (h : a.length = b.length) {x : Int} (hx : a[m]? = some x) : (part f a b m)[m]? = some x := by
  have hm : m < a.length := (List.getElem?_eq_some_iff.1 hx).1
  unfold part
  rw [List.getElem?_append_right (by rw [part_take_len h (by omega)]; omega), part_take_len h (by omega), Nat.sub_self, List.getElem?_drop]
  exact hx
theorem part_set (h : a.length = b.length) {x y : Int} (hx : a[m]? = some x) (hy : b[m]? = some y) : (part f a b m).set m (f x y) = part f a b (m + 1) := by
  have hm : m < a.length := (List.getElem?_eq_some_iff.1 hx).1
  have hz : (List.zipWith f a b)[m]? = some (f x y) := by rw [List.getElem?_zipWith, hx, hy]
  obtain ⟨h1, e1⟩ := List.getElem?_eq_some_iff.1 hz
  have hl := part_take_len (f := f) h (Nat.le_of_lt hm)
  unfold part
  rw [List.set_append_right _ _ (by rw [hl]; exact Nat.le_refl _), hl, Nat.sub_self, List.drop_eq_getElem_cons hm, List.set_cons_zero, List.take_succ_eq_append_getElem h1, e1, List.append_assoc]
  rfl
end
section
variable {T : TypeId} {B g b c n i : Nat} {w W : World} {us : List Value} {xs : List Int} {u : Value}
theorem Own.ne_int (h : Own T W b us) (ho : OI B W (.slice (some ⟨g, 0, none⟩) n c) xs) (hT : T ≠ 3) : b ≠ g := by
  rintro rfl
  rcases ho.1.2 with ⟨e, _⟩ | ⟨g', cap, cur, e, _, hh, _⟩
  · cases e
  · injection e with e1 _ _
    injection e1 with e1
    injection e1 with e1
    subst e1
    unfold Own at h
    rw [hh] at h
    injection h with h
    injection h with _ h2
    exact hT h2.symm
theorem Own.far_int (h : Own T W b us) (ho : OI B W (.slice (some ⟨g, 0, none⟩) n c) xs) (hT : T ≠ 3) : Own T (W.setCell ⟨g, i, none⟩ u) b us :=
  h.only (only_setCell g W i u) (h.ne_int ho hT)
theorem OI.ge (ho : OI B W (.slice (some ⟨g, 0, none⟩) n c) xs) : B ≤ g ∧ g < W.heap.size := ho.1.lt g rfl
end
/-- Where others are joined in: the result's cell, the box, its slices. -/
structure Acc (w W : World) (h b : Nat) (z : List Value) (k s n m : Value) (x : Cel) : Prop where
  res : Own 44 W h z
  box : Own 44 W b [k, .int .i64 x.cnt, s, n, m]
  own : CO w.heap.size W k s n m x
  ap : Ap4 k s n m
  bel : Below w.heap.size w W
  hb : w.heap.size ≤ h ∧ w.heap.size ≤ b ∧ h ≠ b
section
variable {w W W' : World} {h b g c l i : Nat} {z : List Value} {k s n m : Value} {x : Cel} {y : Int}
theorem Acc.below (a : Acc w W h b z k s n m x) (hk : Below W.heap.size W W') : Acc w W' h b z k s n m x :=
  ⟨a.res.below hk a.res.lt, a.box.below hk a.box.lt, a.own.below hk, a.ap, a.bel.trans (hk.mono a.bel.size), a.hb⟩
theorem Acc.cnt (a : Acc w W h b z k s n m x) (y : Int) : Acc w (W.setCell ⟨b, 1, none⟩ (.int .i64 y)) h b z k s n m { x with cnt := y } :=
  ⟨a.res.only (only_setCell b W 1 _) a.hb.2.2, a.box.set_ 1 _, (let o := a.own.only (only_setCell b W 1 (.int .i64 y)) a.box (by decide); ⟨o.key, o.sum, o.mn, o.mx⟩), a.ap, a.bel.trans ((only_setCell b W 1 _).below a.hb.2.1 a.bel.size), a.hb⟩
theorem Acc.sum (a : Acc w W h b z k (.slice (some ⟨g, 0, none⟩) l c) n m x) (i : Nat) (hy : inK .i64 y) : Acc w (W.setCell ⟨g, i, none⟩ (.int .i64 y)) h b z k (.slice (some ⟨g, 0, none⟩) l c) n m { x with sum := x.sum.set i y } :=
  ⟨a.res.far_int a.own.sum (by decide), a.box.far_int a.own.sum (by decide), ⟨a.own.key.other _ fun e => a.ap.ks g e rfl, a.own.sum.put y hy, a.own.mn.other _ fun e => a.ap.sn g rfl e, a.own.mx.other _ fun e => a.ap.sm g rfl e⟩, a.ap,
    a.bel.trans ((only_setCell g W i _).below a.own.sum.ge.1 a.bel.size), a.hb⟩
theorem Acc.mn (a : Acc w W h b z k s (.slice (some ⟨g, 0, none⟩) l c) m x) (i : Nat) (hy : inK .i64 y) : Acc w (W.setCell ⟨g, i, none⟩ (.int .i64 y)) h b z k s (.slice (some ⟨g, 0, none⟩) l c) m { x with mn := x.mn.set i y } :=
  ⟨a.res.far_int a.own.mn (by decide), a.box.far_int a.own.mn (by decide), ⟨a.own.key.other _ fun e => a.ap.kn g e rfl, a.own.sum.other _ fun e => a.ap.sn g e rfl, a.own.mn.put y hy, a.own.mx.other _ fun e => a.ap.nm g rfl e⟩, a.ap,
    a.bel.trans ((only_setCell g W i _).below a.own.mn.ge.1 a.bel.size), a.hb⟩
theorem Acc.mx (a : Acc w W h b z k s n (.slice (some ⟨g, 0, none⟩) l c) x) (i : Nat) (hy : inK .i64 y) : Acc w (W.setCell ⟨g, i, none⟩ (.int .i64 y)) h b z k s n (.slice (some ⟨g, 0, none⟩) l c) { x with mx := x.mx.set i y } :=
  ⟨a.res.far_int a.own.mx (by decide), a.box.far_int a.own.mx (by decide), ⟨a.own.key.other _ fun e => a.ap.km g e rfl, a.own.sum.other _ fun e => a.ap.sm g e rfl, a.own.mn.other _ fun e => a.ap.nm g e rfl, a.own.mx.put y hy⟩, a.ap,
    a.bel.trans ((only_setCell g W i _).below a.own.mx.ge.1 a.bel.size), a.hb⟩
theorem OI.block {B : Nat} {v : Value} {xs : List Int} (ho : OI B W v xs) (i : Nat) (hi : i < xs.length) : ∃ g c, v = .slice (some ⟨g, 0, none⟩) xs.length c ∧ ∀ j x, xs[j]? = some x → W.cell? ⟨g, j, none⟩ = some (.int .i64 x) := by
  obtain ⟨P, c, hv, _, _, h3⟩ := own_form ho.1
  obtain ⟨g, rfl, _, hc⟩ := h3 (by omega)
  exact ⟨g, c, hv, fun j x hx => hc j _ (by simp [ints, hx])⟩
theorem RI.at {v : Value} {xs : List Int} (h : RI W v xs) (i : Nat) {x : Int} (hx : xs[i]? = some x) : ∃ ad c, v = .slice (some ad) xs.length c ∧ W.cell? (ad.add i) = some (.int .i64 x) := by
  obtain ⟨P, c, hv, h1, _⟩ := h
  obtain ⟨ad, rfl, hc⟩ := h1.2.2 (by have := (List.getElem?_eq_some_iff.1 hx).1; omega)
  exact ⟨ad, c, hv, hc i x hx⟩
end
theorem OI.frozen {B g n c : Nat} {W : World} {xs : List Int} (ho : OI B W (.slice (some ⟨g, 0, none⟩) n c) xs) (i : Nat) : W.frozen? ⟨g, i, none⟩ = false := by
  rcases ho.1.2 with ⟨e, _⟩ | ⟨g', cap, cur, e, _, hh, _⟩
  · cases e
  · injection e with e1 _ _
    injection e1 with e1
    injection e1 with e1
    subst e1
    simp [World.frozen?, hh]
theorem inK_min {a b : Int} (h : inK .i64 a) (k : inK .i64 b) : inK .i64 (min a b) := by
  unfold inK at h k ⊢
  omega
theorem inK_max {a b : Int} (h : inK .i64 a) (k : inK .i64 b) : inK .i64 (max a b) := by
  unfold inK at h k ⊢
  omega
theorem RI.inK_ {v : Value} {w : World} {xs : List Int} (h : RI w v xs) {i : Nat} {x : Int} (hx : xs[i]? = some x) : inK .i64 x := by
  obtain ⟨P, c, hv, h1, _⟩ := h
  exact h1.2.1 x (List.mem_of_getElem? hx)
theorem OI.at {B g n c i : Nat} {W : World} {xs : List Int} (ho : OI B W (.slice (some ⟨g, 0, none⟩) n c) xs) {x : Int} (hx : xs[i]? = some x) : W.cell? ⟨g, i, none⟩ = some (.int .i64 x) := by
  obtain ⟨g', c', e, h⟩ := ho.block i (List.getElem?_eq_some_iff.1 hx).1
  injection e with e1 _ _
  injection e1 with e1
  injection e1 with e1
  subst e1
  exact h i x hx
theorem RI.cell {A : Addr} {n c i : Nat} {W : World} {xs : List Int} (h : RI W (.slice (some A) n c) xs) {x : Int} (hx : xs[i]? = some x) : W.cell? (A.add i) = some (.int .i64 x) := by
  obtain ⟨ad, c', e, h⟩ := h.at i hx
  injection e with e1 _ _
  injection e1 with e1
  subst e1
  exact h
/-- A cell joined with another up to measure i. -/
def partC (a b : Cel) (i : Nat) : Cel := ⟨a.key, wrap64 (a.cnt + b.cnt), part (fun x y => wrap64 (x + y)) a.sum b.sum i, part min a.mn b.mn i, part max a.mx b.mx i⟩
theorem partC_all {a b : Cel} {me : Nat} (ha : EvenC me a) (hb : EvenC me b) : partC a b me = join2 a b := by
  obtain ⟨a1, a2, a3⟩ := ha
  obtain ⟨b1, b2, b3⟩ := hb
  unfold partC join2 addL minL maxL
  rw [← part_all (f := fun x y => wrap64 (x + y)) (a := a.sum) (b := b.sum) (by omega), ← part_all (f := min) (a := a.mn) (b := b.mn) (by omega), ← part_all (f := max) (a := a.mx) (b := b.mx) (by omega), a1, a2, a3]
theorem join2_even {a b : Cel} {me : Nat} (ha : EvenC me a) (hb : EvenC me b) : EvenC me (join2 a b) := by
  obtain ⟨a1, a2, a3⟩ := ha
  obtain ⟨b1, b2, b3⟩ := hb
  refine ⟨?_, ?_, ?_⟩ <;> simp [join2, addL, minL, maxL] <;> omega
theorem foldl_even {me : Nat} : ∀ (l : List Cel) (a : Cel), EvenC me a → (∀ x ∈ l, EvenC me x) → EvenC me (l.foldl join2 a)
  | [], _, h, _ => h
  | x :: t, a, h, ht => foldl_even t (join2 a x) (join2_even h (ht x (by simp))) fun y hy => ht y (by simp [hy])
theorem join2_key (a b : Cel) : (join2 a b).key = a.key := rfl
theorem foldl_key : ∀ (l : List Cel) (a : Cel), (l.foldl join2 a).key = a.key
  | [], _ => rfl
  | x :: t, a => foldl_key t (join2 a x)
theorem foldl_snoc {l : List Cel} {a x : Cel} {k : Nat} (hx : l[k]? = some x) : (l.take (k + 1)).foldl join2 a = join2 ((l.take k).foldl join2 a) x := by
  obtain ⟨h, rfl⟩ := List.getElem?_eq_some_iff.1 hx
  rw [List.take_succ_eq_append_getElem h, List.foldl_append]
  rfl
theorem inK_wrap (x : Int) : inK .i64 (wrap64 x) := by
  unfold wrap64 inK
  omega
end Go.Proofs.Ytmolfcccfekcpaa
