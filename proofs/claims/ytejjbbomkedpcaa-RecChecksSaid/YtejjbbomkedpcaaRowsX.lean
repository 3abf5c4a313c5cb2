/- Rows of facts whose blocks are all apart: where one of them is written the others stay. -/
import Derived.Test.YtejjbbomkedpcaaLaw
import Derived.Laws.OwnMore
import Derived.Deep.AppendLies
namespace Go.Proofs.Ytejjbbomkedpcaa
open Go.RowKit
def blk (v : Value) : List Nat := v.ownBlock.toList
def blks (vs : List (Value × Value)) : List Nat := vs.flatMap fun p => blk p.1 ++ blk p.2
/-- A list of rows of the call's own, from block B on, no two of whose slices share a block. -/
def RowsX (w : World) (B : Nat) (v : Value) (l : List Fact) : Prop :=
  ∃ vs, vs.length = l.length ∧ w.ownsRow B 33 2 v l.length (cellsV vs) ∧ (∀ (i : Nat) (p : Value × Value) (r : Fact), vs[i]? = some p → l[i]? = some r → RowV w B p r) ∧ (blks vs).Nodup
theorem RowsX.rows {w : World} {B : Nat} {v : Value} {l : List Fact} (h : RowsX w B v l) : RowsW w B B v l := by
  obtain ⟨vs, h1, h2, h3, _⟩ := h
  exact ⟨vs, h1, h2, h3⟩
theorem RowsX.nil (w : World) (B : Nat) : RowsX w B (.slice none 0 0) [] := ⟨[], rfl, World.ownsRow_nil _ _ _ _, (fun i p r h => by simp at h), List.nodup_nil⟩
theorem RowsX.below {w w' : World} {B k : Nat} {v : Value} {l : List Fact} (h : RowsX w B v l) (hb : Below k w w') (hk : w.heap.size ≤ k) : RowsX w' B v l := by
  obtain ⟨vs, h1, h2, h3, h4⟩ := h
  exact ⟨vs, h1, own_below h2 hb hk, (fun i p r hp hr => ⟨own_below (h3 i p r hp hr).1 hb hk, own_below (h3 i p r hp hr).2 hb hk⟩), h4⟩
theorem RowsX.only {w w' : World} {B k : Nat} {v : Value} {l : List Fact} (h : RowsX w B v l) (hb : Only k w w') (hk : k < B) : RowsX w' B v l := by
  obtain ⟨vs, h1, h2, h3, h4⟩ := h
  exact ⟨vs, h1, own_only h2 hb hk, (fun i p r hp hr => ⟨own_only (h3 i p r hp hr).1 hb hk, own_only (h3 i p r hp hr).2 hb hk⟩), h4⟩
theorem own_blk {w : World} {b : Nat} {e : TypeId} {s n : Nat} {v : Value} {xs : List Value} (h : w.ownsRow b e s v n xs) : ∀ g ∈ blk v, b ≤ g ∧ g < w.heap.size := by
  intro g hg
  exact h.lt g (by simpa [blk] using hg)
theorem blk_one (v : Value) : (blk v).Nodup := by unfold blk; cases v.ownBlock <;> simp
theorem blks_snoc (vs : List (Value × Value)) (p : Value × Value) : blks (vs ++ [p]) = blks vs ++ (blk p.1 ++ blk p.2) := by simp [blks]
theorem mem_blks {vs : List (Value × Value)} {g : Nat} (h : g ∈ blks vs) : ∃ (i : Nat) (p : Value × Value), vs[i]? = some p ∧ (g ∈ blk p.1 ∨ g ∈ blk p.2) := by
  simp only [blks, List.mem_flatMap, List.mem_append] at h
  obtain ⟨p, hp, hg⟩ := h
  obtain ⟨i, hi⟩ := List.getElem?_of_mem hp
  exact ⟨i, p, hi, hg⟩
/-- A row whose two slices were made behind all that was there is appended. -/
theorem append_rowX (w0 wr : World) (B : Nat) (v : Value) (l : List Fact) (r : Fact) (kv mv : Value) (g K : Nat) (hg : g = wr.heap.size) (hR : RowsX w0 B v l) (hb0 : Below w0.heap.size w0 wr)
    (hk : wr.ownsRow w0.heap.size 3 1 kv r.key.length (ints r.key)) (hm : wr.ownsRow K 3 1 mv r.m.length (ints r.m)) (hK : w0.heap.size ≤ K) (hkK : ∀ g ∈ blk kv, g < K)
    (h1 : kv.oneCell' = true) (h2 : mv.oneCell' = true) (hn : l.length ≤ 1000000) (hB : B ≤ w0.heap.size) :
    ∃ v' w', (Builtin.append_ #[25, 25] 25 #[v, .slice (some ⟨g, 0, none⟩) 1 1]).run Try.prog (wr.alloc (.cells #[kv, mv] 33)) = .ok v' w' ∧ RowsX w' B v' (l ++ [r]) ∧ Below B wr w' := by
  obtain ⟨i0, hi, hz0, hz1, hz2⟩ := info_parts infoRow
  have hba : Below w0.heap.size w0 (wr.alloc (.cells #[kv, mv] 33)) := hb0.alloc hb0.size _
  have hsz := hb0.size
  have hX := hR.below hba (Nat.le_refl _)
  obtain ⟨vs, h3, h4, h5, h6⟩ := hR
  have h4' := own_below h4 hba (Nat.le_refl _)
  have h5' : ∀ (i : Nat) (p : Value × Value) (r : Fact), vs[i]? = some p → l[i]? = some r → RowV (wr.alloc (.cells #[kv, mv] 33)) B p r := fun i p r hp hr =>
    ⟨own_below (h5 i p r hp hr).1 hba (Nat.le_refl _), own_below (h5 i p r hp hr).2 hba (Nat.le_refl _)⟩
  obtain ⟨v', w', hrun, ho, hgr, _, _⟩ := run_append_own_at (P := Try.prog) (wr.alloc (.cells #[kv, mv] 33)) B 25 25 33 i0 _ 2 48 Try.underlying25 hi hz0 hz1 hz2 rfl (by omega) v l.length (cellsV vs) h4'
    ⟨g, 0, none⟩ 1 1 [kv, mv] rfl (fun j u hu => by
      rw [add0, hg, show (wr.alloc (.cells #[kv, mv] 33)).cell? ⟨wr.heap.size, j, none⟩ = #[kv, mv][j]? from cell_of_row _ _ _ _ 33 (0, 0) (heap_alloc_new wr _)]
      simpa using hu)
    (by intro u hu; simp at hu; rcases hu with rfl | rfl <;> assumption) (by simp [maxLen]; omega) (by omega) (by simp; omega)
  have hb := (Below.refl wr.heap.size wr).alloc (Nat.le_refl _) (.cells #[kv, mv] 33)
  have hw := RowsW.snoc (Bl := B) (Br := B) (p := (kv, mv)) h3 h4' h5' ⟨(own_below hk hb (Nat.le_refl _)).mono hB, (own_below hm hb (Nat.le_refl _)).mono (by omega)⟩ ho hgr
  refine ⟨v', w', hrun, ?_, (hb.mono (by omega)).trans (below_grown hgr h4' (by simp; omega))⟩
  have keep : ∀ {b n : Nat} {u : Value} {xs : List Value}, (wr.alloc (.cells #[kv, mv] 33)).ownsRow b 3 1 u n xs → w'.ownsRow b 3 1 u n xs := fun hu => hu.kept hgr (own_apart hu h4' (by decide))
  refine ⟨vs ++ [(kv, mv)], by simp [h3], by rw [cellsV_snoc, List.length_append]; exact ho, fun i q r' hq hr => ?_, ?_⟩
  · rcases Nat.lt_or_ge i vs.length with hi | hi
    · rw [List.getElem?_append_left hi] at hq
      rw [List.getElem?_append_left (by rw [← h3]; exact hi)] at hr
      exact ⟨keep (h5' i q r' hq hr).1, keep (h5' i q r' hq hr).2⟩
    · rw [List.getElem?_append_right hi] at hq
      rw [List.getElem?_append_right (by rw [← h3]; exact hi)] at hr
      have e : i - vs.length = 0 := by
        rcases Nat.eq_zero_or_pos (i - vs.length) with h0 | h0
        · exact h0
        · rw [List.getElem?_eq_none (by simp; omega)] at hq; cases hq
      rw [e] at hq
      rw [← h3, e] at hr
      simp at hq hr
      subst hq hr
      exact ⟨(keep (own_below hk hb (Nat.le_refl _))).mono hB, (keep (own_below hm hb (Nat.le_refl _))).mono (by omega)⟩
  · rw [blks_snoc, List.nodup_append]
    refine ⟨h6, ?_, ?_⟩
    · rw [List.nodup_append]
      refine ⟨blk_one _, blk_one _, fun a ha b hb => ?_⟩
      have := hkK a ha
      have := (own_blk hm b hb).1
      omega
    · intro a ha b hb
      obtain ⟨i, p, hp, hg2⟩ := mem_blks ha
      have hil : i < l.length := by rw [← h3]; exact (List.getElem?_eq_some_iff.1 hp).1
      obtain ⟨a1, a2⟩ := h5 i p _ hp (List.getElem?_eq_getElem hil)
      have la : a < w0.heap.size := by
        rcases hg2 with h | h
        · exact (own_blk a1 a h).2
        · exact (own_blk a2 a h).2
      rcases List.mem_append.1 hb with h | h
      · have := (own_blk hk b h).1; omega
      · have := (own_blk hm b h).1; omega
theorem RowsX.mono {w : World} {B B' : Nat} {v : Value} {l : List Fact} (h : RowsX w B v l) (hb : B' ≤ B) : RowsX w B' v l := by
  obtain ⟨vs, h1, h2, h3, h4⟩ := h
  exact ⟨vs, h1, h2.mono hb, (fun i p r hp hr => ⟨(h3 i p r hp hr).1.mono hb, (h3 i p r hp hr).2.mono hb⟩), h4⟩
theorem own_slice {w : World} {b : Nat} {e : TypeId} {s n : Nat} {v : Value} {xs : List Value} (h : w.ownsRow b e s v n xs) : v.oneCell' = true := by
  obtain ⟨_, _, q, _⟩ := own_form h
  rw [q]; rfl
/-- One built-in append at a step of a region that draws, by what its run comes to. -/
theorem step_append_eq {P : Program} {ops : Array Oper} {o : Oper} {a : Act} {w : World} {K : Act → World → Prop} {Q : Exit → Act → World → Prop} {E : Prop} (hgd : o.guard = none) (s x : Operand) (t : TypeId)
    (ho : o.op = .call { callee := .builtin .append, args := #[s, x], argTypes := #[t, t] }) (v y v' : Value) (w' : World) (hs : a.eval s = v) (hx : a.eval x = y)
    (hrun : (Builtin.append_ #[t, t] o.type #[v, y]).run P w = .ok v' w') (h : K (a.put o.dst v') w') : if Region.wanted o (yielded ops a.tmps) = true then Oper.wp P o a w K Q else E := by
  have hw : Region.wanted o (yielded ops a.tmps) = true := by simp [Region.wanted, hgd]
  rw [if_pos hw]
  unfold Oper.wp execOp
  simp only [ho, resolve, invoke, builtin, Sem.run_bind, Sem.run_pure, Result.andThen_ok, List.map_toArray, List.map_cons, List.map_nil, hs, hx, hrun]
  exact h
/-- Of two rows the one that was made first is another block. -/
theorem own_two {w : World} {K n : Nat} {e : TypeId} {s : Nat} {kv mv : Value} {xs : List Value} (hk : ∀ b ∈ blk kv, b < K) (hm : w.ownsRow K e s mv n xs) : kv.ownBlock = none ∨ kv.ownBlock ≠ mv.ownBlock := by
  cases h : kv.ownBlock with
  | none => exact .inl rfl
  | some b =>
    refine .inr fun h2 => ?_
    have h3 := hk b (by simp [blk, h])
    have h4 := (hm.lt b h2.symm).1
    omega
/-- A box stays where a row of another kind grows. -/
theorem Box2.grown {T e : TypeId} {w w' : World} {g B s n : Nat} {a b v : Value} {xs : List Value} (h : Box2 T w g a b) (hg : w.grownBy w' v.ownBlock) (hv : w.ownsRow B e s v n xs) (hne : e ≠ T) : Box2 T w' g a b := by
  refine (hg.block g h.lt fun e0 => ?_).trans h
  rcases hv.2 with ⟨rfl, _⟩ | ⟨g', cap, cur, rfl, _, hh, _⟩
  · simp [Value.ownBlock] at e0
  · simp only [Value.ownBlock, Option.some.injEq] at e0
    subst e0
    unfold Box2 at h
    rw [hh] at h
    injection h with h
    injection h with _ h2
    exact hne h2
end Go.Proofs.Ytejjbbomkedpcaa
