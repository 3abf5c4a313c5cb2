/- Rows of the call's own whose blocks lie between two bounds: a value of one row is written; what lies elsewhere stays. -/
import Derived.Test.YtbjlbambheogbaaRowsSet
import Derived.Test.YtbjlbambheogbaaRefEncode
namespace Go.Proofs.Ytbjlbambheogbaa
open Go.RowKit
/-- From w on nothing that was there has turned but blocks from lo on, below hi. -/
structure Mid (lo hi : Nat) (w w' : World) : Prop where
  os : w'.os = w.os
  tape : w'.tape = w.tape
  output : w'.output = w.output
  size : w'.heap.size = w.heap.size
  block : ∀ k, k < lo ∨ hi ≤ k → w'.heap[k]? = w.heap[k]?
theorem Mid.refl (lo hi : Nat) (w : World) : Mid lo hi w w := ⟨rfl, rfl, rfl, rfl, fun _ _ => rfl⟩
theorem Mid.setCell {lo hi : Nat} {a w : World} (h : Mid lo hi a w) {g : Nat} (h1 : lo ≤ g) (h2 : g < hi) (i : Nat) (v : Value) : Mid lo hi a (w.setCell ⟨g, i, none⟩ v) :=
  ⟨h.os, h.tape, h.output, by simp [World.setCell, h.size], fun k hk => (Below.heap_setCell _ _ _ _ (fun e => by simp only at e; omega)).trans (h.block k hk)⟩
theorem Mid.below {lo hi : Nat} {w w' : World} (h : Mid lo hi w w') : Below lo w w' := ⟨h.os, h.tape, h.output, Nat.le_of_eq h.size.symm, fun k hk => h.block k (.inl hk)⟩
theorem Mid.cell {lo hi : Nat} {w w' : World} (h : Mid lo hi w w') {p : Addr} (hp : p.block < lo ∨ hi ≤ p.block) : w'.cell? p = w.cell? p := World.cell?_of_block (h.block p.block hp)
theorem Arr.mid {kd : IntKind} {T : TypeId} {w w' : World} {g lo hi : Nat} {xs : List Int} (h : Arr kd T w g xs) (hm : Mid lo hi w w') (hg : g < lo ∨ hi ≤ g) : Arr kd T w' g xs := (hm.block g hg).trans h
theorem Own.mid {T : TypeId} {w w' : World} {g lo hi : Nat} {vs : List Value} (h : Own T w g vs) (hm : Mid lo hi w w') (hg : g < lo ∨ hi ≤ g) : Own T w' g vs := (hm.block g hg).trans h
theorem Box2.mid {T : TypeId} {w w' : World} {g lo hi : Nat} {a b : Value} (h : Box2 T w g a b) (hm : Mid lo hi w w') (hg : g < lo ∨ hi ≤ g) : Box2 T w' g a b := (hm.block g hg).trans h
theorem Buf.mid {w w' : World} {g lo hi : Nat} {bs : List Int} (h : Buf w g bs) (hm : Mid lo hi w w') (hg : g < lo ∨ hi ≤ g) : Buf w' g bs := (hm.block g hg).trans h
theorem RowsOwn.mid {w w' : World} {B lo hi : Nat} {ps : List (Nat × Nat)} {l : List Fact} (h : RowsOwn w B ps l) (hm : Mid lo hi w w') (hB : hi ≤ B) : RowsOwn w' B ps l :=
  ⟨h.1, fun i p r hp hr => by obtain ⟨⟨h1, h1'⟩, h2, h3⟩ := h.2 i p r hp hr; exact ⟨⟨h1, h1'⟩, h2.mid hm (.inr (by omega)), h3.mid hm (.inr (by omega))⟩⟩
/-- As RowsX, all blocks of the rows' slices below U, and the list's own too. -/
def RowsY (w : World) (B U : Nat) (v : Value) (l : List Fact) : Prop :=
  ∃ vs, vs.length = l.length ∧ w.ownsRow B 33 2 v l.length (cellsV vs) ∧ (∀ (i : Nat) (p : Value × Value) (r : Fact), vs[i]? = some p → l[i]? = some r → RowV w B p r) ∧ (blks vs).Nodup ∧ ∀ g ∈ blks vs, g < U
theorem RowsX.top {w : World} {B : Nat} {v : Value} {l : List Fact} (h : RowsX w B v l) : RowsY w B w.heap.size v l := by
  obtain ⟨vs, h1, h2, h3, h4⟩ := h
  refine ⟨vs, h1, h2, h3, h4, fun g hg => ?_⟩
  obtain ⟨i, p, hp, hg2⟩ := mem_blks hg
  have hil : i < l.length := by rw [← h1]; exact (List.getElem?_eq_some_iff.1 hp).1
  obtain ⟨a1, a2⟩ := h3 i p _ hp (List.getElem?_eq_getElem hil)
  rcases hg2 with h | h
  · exact (own_blk a1 g h).2
  · exact (own_blk a2 g h).2
theorem RowsY.below {w w' : World} {B U k : Nat} {v : Value} {l : List Fact} (h : RowsY w B U v l) (hb : Below k w w') (hk : w.heap.size ≤ k) : RowsY w' B U v l := by
  obtain ⟨vs, h1, h2, h3, h4, h5⟩ := h
  exact ⟨vs, h1, own_below h2 hb hk, (fun i p r hp hr => ⟨own_below (h3 i p r hp hr).1 hb hk, own_below (h3 i p r hp hr).2 hb hk⟩), h4, h5⟩
theorem own_only_ne {w w' : World} {b : Nat} {e : TypeId} {s n k : Nat} {v : Value} {xs : List Value} (h : w.ownsRow b e s v n xs) (hb : Only k w w') (hk : ¬ k ∈ blk v) : w'.ownsRow b e s v n xs := by
  refine ⟨h.1, ?_⟩
  rcases h.2 with h0 | ⟨g, cap, cur, hv, hg, hh, hr⟩
  · exact .inl h0
  · have hlt : g < w.heap.size := by
      rcases Nat.lt_or_ge g w.heap.size with h1 | h1
      · exact h1
      · rw [Array.getElem?_eq_none h1] at hh; cases hh
    refine .inr ⟨g, cap, cur, hv, hg, (hb.block g hlt fun e => hk ?_).trans hh, hr⟩
    subst e hv
    simp [blk, Value.ownBlock]
theorem RowsY.only {w w' : World} {B U k : Nat} {v : Value} {l : List Fact} (h : RowsY w B U v l) (hb : Only k w w') (hk : U ≤ k) (hl : ¬ k ∈ blk v) : RowsY w' B U v l := by
  obtain ⟨vs, h1, h2, h3, h4, h5⟩ := h
  refine ⟨vs, h1, own_only_ne h2 hb hl, fun i p r hp hr => ?_, h4, h5⟩
  have mem : ∀ x, x ∈ blk p.1 ∨ x ∈ blk p.2 → x < U := fun x hx => h5 x (by
    simp only [blks, List.mem_flatMap, List.mem_append]
    exact ⟨p, List.mem_of_getElem? hp, hx⟩)
  exact ⟨own_only_ne (h3 i p r hp hr).1 hb (fun hx => by have := mem k (.inl hx); omega), own_only_ne (h3 i p r hp hr).2 hb (fun hx => by have := mem k (.inr hx); omega)⟩
theorem RowsY.far {w : World} {B U g : Nat} {v : Value} {l : List Fact} (h : RowsY w B U v l) (hg : U ≤ g) (hl : ¬ g ∈ blk v) (j : Nat) (u : Value) : RowsY (w.setCell ⟨g, j, none⟩ u) B U v l := by
  obtain ⟨vs, h1, h2, h3, h4, h5⟩ := h
  refine ⟨vs, h1, own_far h2 hl _ _, fun i p r hp hr => ?_, h4, h5⟩
  have mem : ∀ x, x ∈ blk p.1 ∨ x ∈ blk p.2 → x < U := fun x hx => h5 x (by
    simp only [blks, List.mem_flatMap, List.mem_append]
    exact ⟨p, List.mem_of_getElem? hp, hx⟩)
  exact ⟨own_far (h3 i p r hp hr).1 (fun hx => by have := mem g (.inl hx); omega) _ _, own_far (h3 i p r hp hr).2 (fun hx => by have := mem g (.inr hx); omega) _ _⟩
theorem RowsY.set_key {w : World} {B U : Nat} {v : Value} {l : List Fact} (h : RowsY w B U v l) {i j : Nat} {r : Fact} (hr : l[i]? = some r) (hj : j < r.key.length) (x : Int) :
    ∃ gl c g d, v = .slice (some ⟨gl, 0, none⟩) l.length c ∧ w.cell? ⟨gl, i * 2, none⟩ = some (.slice (some ⟨g, 0, none⟩) r.key.length d) ∧ w.frozen? ⟨g, j, none⟩ = false ∧ (∃ y, w.cell? ⟨g, j, none⟩ = some (.int .i64 y)) ∧ B ≤ g ∧ g < U ∧
      RowsY (w.setCell ⟨g, j, none⟩ (.int .i64 x)) B U v (l.set i ⟨r.key.set j x, r.m⟩) := by
  obtain ⟨vs, h1, h2, h3, h4, h5⟩ := h
  have hil : i < l.length := (List.getElem?_eq_some_iff.1 hr).1
  obtain ⟨A, c, hv, _, _, hg⟩ := own_form h2
  obtain ⟨gl, rfl, hb, hcell⟩ := hg (by omega)
  have hp : vs[i]? = some (vs[i]'(by rw [h1]; exact hil)) := List.getElem?_eq_getElem _
  obtain ⟨c1, c2⟩ := cellsV_at hp
  obtain ⟨a1, a2⟩ := h3 i _ r hp hr
  generalize vs[i]'(by rw [h1]; exact hil) = p at hp c1 c2 a1 a2
  obtain ⟨kv, mv⟩ := p
  obtain ⟨A2, d, hmv, _, _, hg2⟩ := own_form a1
  obtain ⟨g, rfl, hgB, hgc⟩ := hg2 (by omega)
  simp only at hmv
  subst hmv
  have hgm : g ∈ blk (.slice (some ⟨g, 0, none⟩) r.key.length d) := by simp [blk, Value.ownBlock]
  have hgU : g < U := h5 g (by
    simp only [blks, List.mem_flatMap, List.mem_append]
    exact ⟨_, List.mem_of_getElem? hp, .inl hgm⟩)
  refine ⟨gl, c, g, d, hv, hcell _ _ c1, World.ownsRow.frozenAt a1 j, ⟨_, hgc j (.int .i64 r.key[j]) (by simp [ints, hj])⟩, hgB, hgU, vs, by simp [h1], ?_, ?_, h4, h5⟩
  · rw [List.length_set]
    exact h2.kept (setCell_grown w g j _) (own_apart h2 a1 (by decide))
  · intro k p' r' hp' hr'
    by_cases hk : k = i
    · subst hk
      rw [hp] at hp'
      injection hp' with hp'
      subst hp'
      rw [List.getElem?_set_self hil] at hr'
      injection hr' with hr'
      subst hr'
      refine ⟨?_, own_far a2 (fun hx => blks_own h4 hp hgm hx) j _⟩
      have := (a1.stored j (.int .i64 x)).1
      simpa [ints, List.map_set] using this
    · rw [List.getElem?_set_ne (by omega)] at hr'
      obtain ⟨b1, b2⟩ := h3 k p' r' hp' hr'
      exact ⟨own_far b1 (fun hx => blks_apart h4 hp hp' (by omega) (List.mem_append_left _ hgm) (List.mem_append_left _ hx)) j _,
        own_far b2 (fun hx => blks_apart h4 hp hp' (by omega) (List.mem_append_left _ hgm) (List.mem_append_right _ hx)) j _⟩
/-- The bytes that Encode laid are a row of the call's own. -/
theorem Buf.own {w : World} {g B : Nat} {xs : List Int} (h : Buf w g xs) (hB : B ≤ g) (hm : xs.length ≤ maxLen) : BytesW w B (.slice (some ⟨g, 0, none⟩) xs.length xs.length) xs :=
  ⟨by simp [bytesV], .inr ⟨g, xs.length, (bytesV xs).toArray, rfl, hB, h, Nat.le_refl _, hm, by simp [bytesV], by rw [List.toList_toArray, List.take_of_length_le (by simp [bytesV])]⟩⟩
end Go.Proofs.Ytbjlbambheogbaa
