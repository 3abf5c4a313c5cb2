/- Byte slices of the call's own, made by a statement in whatever order: what is known of each. -/
import Derived.Test.YtnabmbnfmnpcoaaRefEncode
import Derived.ArgAppend
import Derived.Deep.Upon
namespace Go.Proofs.Ytnabmbnfmnpcoaa
open Go.RowKit

/-- A byte slice of the call's own, from block B on, of at most N bytes; which bytes is not said. -/
def Gs (B N : Nat) (w : World) (v : Value) : Prop :=
  ∃ g n cap cur fz, v = .slice (some ⟨g, 0, none⟩) n cap ∧ B ≤ g ∧ w.heap[g]? = some (.cells cur 5 fz) ∧ n ≤ cap ∧ cap ≤ maxLen ∧ cur.size = cap ∧ (fz = (0, 0) ∨ (n = cap ∧ fz.1 = cap)) ∧ n ≤ N ∧ ∃ ys : List Int, Bytes ys ∧ cur.toList.take n = bytesV ys
/-- A byte slice that can be read: n bytes. -/
def BytesAt (w : World) (v : Value) : Prop := ∃ A n c xs, v = .slice A n c ∧ Nums .u8 w A n xs ∧ n ≤ c ∧ c ≤ 9223372036854775807
theorem BytesAt.keep {w w' : World} {v : Value} (h : BytesAt w v) (hk : Keeps w w') : BytesAt w' v := by
  obtain ⟨A, n, c, xs, hv, hn, h1, h2⟩ := h
  exact ⟨A, n, c, xs, hv, hn.keep hk, h1, h2⟩
/-- Just laid, the run-time's mark not yet on it. -/
def Lit4 (w : World) (v : Value) : Prop := ∃ g cap cur, v = .slice (some ⟨g, 0, none⟩) cap cap ∧ w.heap[g]? = some (.cells cur 5 (0, 0)) ∧ cur.size = cap
section
variable {B N : Nat} {w w' : World} {v u : Value} {row : Option Nat}
theorem Gs.mono {M : Nat} (h : Gs B N w v) (hm : N ≤ M) : Gs B M w v := by
  obtain ⟨g, n, cap, cur, fz, h1, h2, h3, h4, h5, h6, h7, h8, h9⟩ := h
  exact ⟨g, n, cap, cur, fz, h1, h2, h3, h4, h5, h6, h7, by omega, h9⟩
theorem heap_lt {w : World} {g : Nat} {o : Obj} (h : w.heap[g]? = some o) : g < w.heap.size := (Array.getElem?_eq_some_iff.1 h).1
theorem Gs.lt (h : Gs B N w v) : ∃ k, v.ownBlock = some k ∧ B ≤ k ∧ k < w.heap.size := by
  obtain ⟨g, n, cap, cur, fz, rfl, h2, h3, _⟩ := h
  exact ⟨g, rfl, h2, heap_lt h3⟩
theorem Gs.kept (h : Gs B N w v) (hg : w.grownBy w' row) (hne : v.ownBlock ≠ row) : Gs B N w' v := by
  obtain ⟨g, n, cap, cur, fz, rfl, h2, h3, h4⟩ := h
  exact ⟨g, n, cap, cur, fz, rfl, h2, (hg.block g (heap_lt h3) hne).trans h3, h4⟩
theorem Lit4.kept (h : Lit4 w v) (hg : w.grownBy w' row) (hne : v.ownBlock ≠ row) : Lit4 w' v := by
  obtain ⟨g, cap, cur, rfl, h3, h4⟩ := h
  exact ⟨g, cap, cur, rfl, (hg.block g (heap_lt h3) hne).trans h3, h4⟩
theorem Gs.nums (h : Gs B N w v) : ∃ A n c xs, v = .slice A n c ∧ Nums .u8 w A n xs ∧ n ≤ c ∧ c ≤ 9223372036854775807 ∧ n ≤ N := by
  obtain ⟨g, n, cap, cur, fz, rfl, h2, h3, h4, h5, h6, h7, h8, ys, h9, h10⟩ := h
  have hl : ys.length = n := by
    have := congrArg List.length h10
    rw [List.length_take, bytesV_len, Array.length_toList, h6, Nat.min_eq_left h4] at this
    exact this.symm
  refine ⟨_, n, cap, ys, rfl, ⟨hl, h9, fun _ => ⟨_, rfl, fun j x hx => ?_⟩⟩, h4, by simpa [maxLen] using h5, h8⟩
  rw [add0, cell_of_row w g j cur _ fz h3]
  have hj : j < n := by rw [← hl]; exact (List.getElem?_eq_some_iff.1 hx).1
  have hu : (cur.toList.take n)[j]? = some (.int .u8 x) := by rw [h10]; simp [bytesV, hx]
  rw [List.getElem?_take, if_pos hj] at hu
  simpa using hu
theorem Gs.at_ (h : Gs B N w v) : BytesAt w v := by
  obtain ⟨A, n, c, xs, h1, h2, h3, h4, _⟩ := h.nums
  exact ⟨A, n, c, xs, h1, h2, h3, h4⟩
theorem Gs.lit (w : World) (xs : List Int) (hx : Bytes xs) (hB : B ≤ w.heap.size) (hn : xs.length ≤ N) (hm : xs.length ≤ 1000) :
    Gs B N (w.alloc (.cells (bytesV xs).toArray 5)) (.slice (some ⟨w.heap.size, 0, none⟩) xs.length xs.length) :=
  ⟨w.heap.size, xs.length, xs.length, (bytesV xs).toArray, (0, 0), rfl, hB, heap_alloc_new w _, Nat.le_refl _, by simp [maxLen]; omega, by simp [bytesV], .inl rfl, hn, xs, hx, by rw [List.take_of_length_le (by simp [bytesV])]⟩
theorem Lit4.new (w : World) (xs : List Int) : Lit4 (w.alloc (.cells (bytesV xs).toArray 5)) (.slice (some ⟨w.heap.size, 0, none⟩) xs.length xs.length) :=
  ⟨w.heap.size, xs.length, (bytesV xs).toArray, rfl, heap_alloc_new w _, by simp [bytesV]⟩
theorem gs_of_own {xs : List Int} (h : BytesW w B v xs) (hb : Bytes xs) (hn : xs.length ≤ N) (h0 : 0 < xs.length) : Gs B N w v := by
  rcases h.2 with ⟨_, h2⟩ | ⟨g, cap, cur, rfl, h2, h3, h4, h5, h6, h7⟩
  · omega
  · exact ⟨g, _, cap, cur, (0, 0), rfl, h2, h3, h4, h5, by simpa using h6, .inl rfl, hn, xs, hb, by simpa using h7⟩
/-- Bytes are appended to such a slice. -/
theorem Gs.append (h : Gs B N w v) (A : Option Addr) (m c M : Nat) (us : List Int) (hu : Nums .u8 w A m us) (hA : A = none → c = 0) (hm : m ≤ M) (hN : N + M ≤ 1000000000000) (hB : B ≤ w.heap.size) :
    ∃ v' w', (Builtin.append_ #[36, 36] 36 #[v, .slice A m c]).run Try.prog w = .ok v' w' ∧ Gs B (N + M) w' v' ∧ w.grownBy w' v.ownBlock ∧ (∀ k, v'.ownBlock = some k → v.ownBlock = some k ∨ w.heap.size ≤ k) ∧ Below B w w' := by
  obtain ⟨i0, hi, hz0, hz1, hz2⟩ := info_parts infoByte
  rcases Nat.eq_zero_or_pos m with rfl | h0
  · refine ⟨v, w, ?_, h.mono (by omega), ⟨rfl, rfl, rfl, Nat.le_refl _, fun _ _ _ => rfl⟩, fun _ h => .inl h, Below.refl _ _⟩
    obtain ⟨g, n, cap, cur, fz, rfl, h2, h3, h4, _⟩ := h
    cases A with
    | none => exact run_append_nothing (P := Try.prog) w _ _ _ _ i0 Try.underlying36 hi _ n cap h4 _ (Src.ofNil w Try.underlying36 c)
    | some a => exact run_append_nothing (P := Try.prog) w _ _ _ _ i0 Try.underlying36 hi _ n cap h4 _ (Src.ofSlice w Try.underlying36 a 0 c [] (by simp) (fun j u hj => by simp at hj) (fun u hu => by cases hu))
  · obtain ⟨a, rfl, hc⟩ := hu.2.2 h0
    have hnews : ∀ j u, (bytesV us)[j]? = some u → w.cell? (a.add j) = some u := by
      intro j u hj
      simp only [bytesV, List.getElem?_map, Option.map_eq_some_iff] at hj
      obtain ⟨x, hx, rfl⟩ := hj
      exact hc j x hx
    have hone : ∀ u ∈ bytesV us, u.oneCell' = true := by
      intro u hu; simp only [bytesV, List.mem_map] at hu; obtain ⟨y, _, rfl⟩ := hu; rfl
    have hul : (bytesV us).length = m := by rw [bytesV_len]; exact hu.1
    obtain ⟨g, n, cap, cur, fz, rfl, h2, h3, h4, h5, h6, h7, h8, ys, h9, h10⟩ := h
    have hyl : ys.length = n := by
      have := congrArg List.length h10
      rw [List.length_take, bytesV_len, Array.length_toList, h6, Nat.min_eq_left h4] at this
      exact this.symm
    have hbys : Bytes (ys ++ us) := fun x hx => by
      rcases List.mem_append.1 hx with hx | hx
      · exact h9 x hx
      · exact hu.ok x hx
    have hlen : (ys ++ us).length = n + m := by rw [List.length_append, hyl, hu.1]
    have hbv : bytesV ys ++ bytesV us = bytesV (ys ++ us) := by simp [bytesV]
    by_cases hmk : fz = (0, 0)
    · subst hmk
      have ho : w.ownsRow B 5 1 (.slice (some ⟨g, 0, none⟩) n cap) n (bytesV ys) := ⟨by rw [bytesV_len, hyl, Nat.mul_one], .inr ⟨g, cap, cur, rfl, h2, h3, h4, h5, by rw [h6, Nat.mul_one], by rw [Nat.mul_one]; exact h10⟩⟩
      obtain ⟨v', w', hrun, ho', hgr, _, hob⟩ := run_append_own_at (P := Try.prog) w B 36 36 5 i0 _ 1 1 Try.underlying36 hi hz0 hz1 hz2 rfl (by omega) _ n (bytesV ys) ho
        a m c (bytesV us) (by rw [hul, Nat.mul_one]) hnews hone (by simp [maxLen]; omega) (by omega) hB
      refine ⟨v', w', hrun, ?_, hgr, fun k hk => hob.elim (fun h => .inl (h ▸ hk)) (fun h => .inr (by rw [h] at hk; injection hk with hk; omega)), below_grown hgr ho hB⟩
      rw [hbv, ← hlen] at ho'
      exact gs_of_own ho' hbys (by omega) (by omega)
    · obtain ⟨hnc, _⟩ : n = cap ∧ fz.1 = cap := by rcases h7 with h | h; exact absurd h hmk; exact h
      have hold : ∀ j u, (bytesV ys)[j]? = some u → w.cell? ((⟨g, 0, none⟩ : Addr).add j) = some u := by
        intro j u hj
        rw [add0, cell_of_row w g j cur _ fz h3]
        have hjn : j < n := by rw [← hyl, ← bytesV_len]; exact (List.getElem?_eq_some_iff.1 hj).1
        rw [← h10, List.getElem?_take, if_pos hjn] at hj
        simpa using hj
      obtain ⟨v', w', hrun, ho', hgr⟩ := run_append_arg_grows (P := Try.prog) w 36 36 5 i0 _ 1 1 Try.underlying36 hi hz0 hz1 hz2 rfl (by omega)
        ⟨g, 0, none⟩ n cap (bytesV ys) (by rw [bytesV_len, hyl, Nat.mul_one]) hold a m c (bytesV us) (by rw [hul, Nat.mul_one]) hnews (by omega) (by simp [maxLen]; omega) (by omega)
      rw [hbv, ← hlen] at ho'
      refine ⟨v', w', hrun, ?_, ⟨hgr.os, hgr.tape, hgr.output, hgr.size, fun k hk _ => hgr.block k hk (by simp)⟩, fun k hk => .inr (ho'.lt k hk).1, ?_⟩
      · exact gs_of_own (by
          rcases ho'.2 with h' | ⟨g', cap', cur', h1', h2', h3'⟩
          · exact ⟨ho'.1, .inl h'⟩
          · exact ⟨ho'.1, .inr ⟨g', cap', cur', h1', Nat.le_trans hB h2', h3'⟩⟩) hbys (by omega) (by omega)
      · exact ⟨hgr.os, hgr.tape, hgr.output, hgr.size, fun k hk => hgr.block k (Nat.lt_of_lt_of_le hk hB) (by simp)⟩
/-- The run-time's mark is laid behind the bytes of a constant. -/
theorem Gs.mark (h : Gs B N w v) (hl : Lit4 w v) :
    ∃ w', (convert 36 36 v).run Try.prog w = .ok v w' ∧ Gs B N w' v ∧ w.grownBy w' v.ownBlock := by
  obtain ⟨g, n, cap, cur, fz, rfl, h2, h3, h4, h5, h6, h7, h8, ys, h9, h10⟩ := h
  obtain ⟨g', cap', cur', hv, h3', h6'⟩ := hl
  injection hv with ha hb hc
  injection ha with ha
  injection ha with ha
  subst ha hb hc
  rw [h3] at h3'
  injection h3' with h3'
  injection h3' with e1 _ e3
  subst e1 e3
  have hsh : w.shape? g = some (5, cap) := by unfold World.shape?; rw [h3]; simp [h6]
  refine ⟨w.freeze ⟨g, cap, none⟩ 1, ?_, ?_, ?_⟩
  · simp [convert, run_underlying Try.underlying36, run_underlying Try.underlying5, markStringish, hsh]
  · refine ⟨g, cap, cap, cur, (cap, cap + 1), rfl, h2, ?_, Nat.le_refl _, h5, h6, .inr ⟨rfl, rfl⟩, h8, ys, h9, h10⟩
    simp [World.freeze, Array.getElem?_modify, h3]
  · refine ⟨by simp [World.freeze], by simp [World.freeze], by simp [World.freeze], by simp [World.freeze], fun k hk hne => ?_⟩
    have hgk : g ≠ k := fun e => hne (by simp [Value.ownBlock, e])
    simp [World.freeze, Array.getElem?_modify, hgk]
end
end Go.Proofs.Ytnabmbnfmnpcoaa
