/- Slices of ints of the call's own, made by a statement in whatever order: what is known of each. -/
import Derived.Test.YtejjbbomkedpcaaLaw
import Derived.ArgAppend
import Derived.Deep.Upon
namespace Go.Proofs.Ytejjbbomkedpcaa
open Go.RowKit
def slen : Value → Nat
  | .slice _ n _ => n
  | _ => 0
def IntsOk (xs : List Int) : Prop := ∀ x ∈ xs, inK .i64 x

/-- A byte slice of the call's own, from block B on, of at most N bytes; which bytes is not said. -/
def GsI (B N : Nat) (w : World) (v : Value) : Prop :=
  ∃ g n cap cur fz, v = .slice (some ⟨g, 0, none⟩) n cap ∧ B ≤ g ∧ w.heap[g]? = some (.cells cur 3 fz) ∧ n ≤ cap ∧ cap ≤ maxLen ∧ cur.size = cap ∧ (fz = (0, 0) ∨ (n = cap ∧ fz.1 = cap)) ∧ n ≤ N ∧ ∃ ys : List Int, IntsOk ys ∧ cur.toList.take n = ints ys
section
variable {B N : Nat} {w w' : World} {v u : Value} {row : Option Nat}
theorem GsI.mono {M : Nat} (h : GsI B N w v) (hm : N ≤ M) : GsI B M w v := by
  obtain ⟨g, n, cap, cur, fz, h1, h2, h3, h4, h5, h6, h7, h8, h9⟩ := h
  exact ⟨g, n, cap, cur, fz, h1, h2, h3, h4, h5, h6, h7, by omega, h9⟩
theorem heap_ltI {w : World} {g : Nat} {o : Obj} (h : w.heap[g]? = some o) : g < w.heap.size := (Array.getElem?_eq_some_iff.1 h).1
theorem GsI.lt (h : GsI B N w v) : ∃ k, v.ownBlock = some k ∧ B ≤ k ∧ k < w.heap.size := by
  obtain ⟨g, n, cap, cur, fz, rfl, h2, h3, _⟩ := h
  exact ⟨g, rfl, h2, heap_ltI h3⟩
theorem GsI.kept (h : GsI B N w v) (hg : w.grownBy w' row) (hne : v.ownBlock ≠ row) : GsI B N w' v := by
  obtain ⟨g, n, cap, cur, fz, rfl, h2, h3, h4⟩ := h
  exact ⟨g, n, cap, cur, fz, rfl, h2, (hg.block g (heap_ltI h3) hne).trans h3, h4⟩
theorem GsI.nums (h : GsI B N w v) : ∃ A n c xs, v = .slice A n c ∧ Nums .i64 w A n xs ∧ n ≤ c ∧ c ≤ 9223372036854775807 ∧ n ≤ N := by
  obtain ⟨g, n, cap, cur, fz, rfl, h2, h3, h4, h5, h6, h7, h8, ys, h9, h10⟩ := h
  have hl : ys.length = n := by
    have := congrArg List.length h10
    rw [List.length_take, ints_len, Array.length_toList, h6, Nat.min_eq_left h4] at this
    exact this.symm
  refine ⟨_, n, cap, ys, rfl, ⟨hl, h9, fun _ => ⟨_, rfl, fun j x hx => ?_⟩⟩, h4, by simpa [maxLen] using h5, h8⟩
  rw [add0, cell_of_row w g j cur _ fz h3]
  have hj : j < n := by rw [← hl]; exact (List.getElem?_eq_some_iff.1 hx).1
  have hu : (cur.toList.take n)[j]? = some (.int .i64 x) := by rw [h10]; simp [ints, hx]
  rw [List.getElem?_take, if_pos hj] at hu
  simpa using hu
theorem GsI.lit (w : World) (xs : List Int) (hx : IntsOk xs) (hB : B ≤ w.heap.size) (hn : xs.length ≤ N) (hm : xs.length ≤ 1000) :
    GsI B N (w.alloc (.cells (ints xs).toArray 3)) (.slice (some ⟨w.heap.size, 0, none⟩) xs.length xs.length) :=
  ⟨w.heap.size, xs.length, xs.length, (ints xs).toArray, (0, 0), rfl, hB, heap_alloc_new w _, Nat.le_refl _, by simp [maxLen]; omega, by simp [ints], .inl rfl, hn, xs, hx, by rw [List.take_of_length_le (by simp [ints])]⟩
theorem gs_of_ownI {xs : List Int} (h : w.ownsRow B 3 1 v xs.length (ints xs)) (hb : IntsOk xs) (hn : xs.length ≤ N) (h0 : 0 < xs.length) : GsI B N w v := by
  rcases h.2 with ⟨_, h2⟩ | ⟨g, cap, cur, rfl, h2, h3, h4, h5, h6, h7⟩
  · omega
  · exact ⟨g, _, cap, cur, (0, 0), rfl, h2, h3, h4, h5, by simpa using h6, .inl rfl, hn, xs, hb, by simpa using h7⟩
/-- IntsOk are appended to such a slice. -/
theorem GsI.append (h : GsI B N w v) (A : Option Addr) (m c M : Nat) (us : List Int) (hu : Nums .i64 w A m us) (hm : m ≤ M) (hN : N + M ≤ 1000000000000) (hB : B ≤ w.heap.size) :
    ∃ v' w', (Builtin.append_ #[22, 22] 22 #[v, .slice A m c]).run Try.prog w = .ok v' w' ∧ GsI B (N + M) w' v' ∧ w.grownBy w' v.ownBlock ∧ (∀ k, v'.ownBlock = some k → v.ownBlock = some k ∨ w.heap.size ≤ k) ∧ Below B w w' ∧ slen v' = slen v + m := by
  obtain ⟨i0, hi, hz0, hz1, hz2⟩ := info_parts infoInt2
  rcases Nat.eq_zero_or_pos m with rfl | h0
  · refine ⟨v, w, ?_, h.mono (by omega), ⟨rfl, rfl, rfl, Nat.le_refl _, fun _ _ _ => rfl⟩, fun _ h => .inl h, Below.refl _ _, rfl⟩
    obtain ⟨g, n, cap, cur, fz, rfl, h2, h3, h4, _⟩ := h
    cases A with
    | none => exact run_append_nothing (P := Try.prog) w _ _ _ _ i0 Try.underlying22 hi _ n cap h4 _ (Src.ofNil w Try.underlying22 c)
    | some a => exact run_append_nothing (P := Try.prog) w _ _ _ _ i0 Try.underlying22 hi _ n cap h4 _ (Src.ofSlice w Try.underlying22 a 0 c [] (by simp) (fun j u hj => by simp at hj) (fun u hu => by cases hu))
  · obtain ⟨a, rfl, hc⟩ := hu.2.2 h0
    have hnews : ∀ j u, (ints us)[j]? = some u → w.cell? (a.add j) = some u := by
      intro j u hj
      simp only [ints, List.getElem?_map, Option.map_eq_some_iff] at hj
      obtain ⟨x, hx, rfl⟩ := hj
      exact hc j x hx
    have hone : ∀ u ∈ ints us, u.oneCell' = true := by
      intro u hu; simp only [ints, List.mem_map] at hu; obtain ⟨y, _, rfl⟩ := hu; rfl
    have hul : (ints us).length = m := by rw [ints_len]; exact hu.1
    obtain ⟨g, n, cap, cur, fz, rfl, h2, h3, h4, h5, h6, h7, h8, ys, h9, h10⟩ := h
    have hyl : ys.length = n := by
      have := congrArg List.length h10
      rw [List.length_take, ints_len, Array.length_toList, h6, Nat.min_eq_left h4] at this
      exact this.symm
    have hbys : IntsOk (ys ++ us) := fun x hx => by
      rcases List.mem_append.1 hx with hx | hx
      · exact h9 x hx
      · exact hu.ok x hx
    have hlen : (ys ++ us).length = n + m := by rw [List.length_append, hyl, hu.1]
    have hbv : ints ys ++ ints us = ints (ys ++ us) := by simp [ints]
    by_cases hmk : fz = (0, 0)
    · subst hmk
      have ho : w.ownsRow B 3 1 (.slice (some ⟨g, 0, none⟩) n cap) n (ints ys) := ⟨by rw [ints_len, hyl, Nat.mul_one], .inr ⟨g, cap, cur, rfl, h2, h3, h4, h5, by rw [h6, Nat.mul_one], by rw [Nat.mul_one]; exact h10⟩⟩
      obtain ⟨v', w', hrun, ho', hgr, _, hob⟩ := run_append_own_at (P := Try.prog) w B 22 22 3 i0 _ 1 8 Try.underlying22 hi hz0 hz1 hz2 rfl (by omega) _ n (ints ys) ho
        a m c (ints us) (by rw [hul, Nat.mul_one]) hnews hone (by simp [maxLen]; omega) (by omega) hB
      refine ⟨v', w', hrun, ?_, hgr, fun k hk => hob.elim (fun h => .inl (h ▸ hk)) (fun h => .inr (by rw [h] at hk; injection hk with hk; omega)), below_grown hgr ho hB, by obtain ⟨A', c', hv', _⟩ := own_form ho'; rw [hv']; rfl⟩
      rw [hbv, ← hlen] at ho'
      exact gs_of_ownI ho' hbys (by omega) (by omega)
    · obtain ⟨hnc, _⟩ : n = cap ∧ fz.1 = cap := by rcases h7 with h | h; exact absurd h hmk; exact h
      have hold : ∀ j u, (ints ys)[j]? = some u → w.cell? ((⟨g, 0, none⟩ : Addr).add j) = some u := by
        intro j u hj
        rw [add0, cell_of_row w g j cur _ fz h3]
        have hjn : j < n := by rw [← hyl, ← ints_len]; exact (List.getElem?_eq_some_iff.1 hj).1
        rw [← h10, List.getElem?_take, if_pos hjn] at hj
        simpa using hj
      obtain ⟨v', w', hrun, ho', hgr⟩ := run_append_arg_grows (P := Try.prog) w 22 22 3 i0 _ 1 8 Try.underlying22 hi hz0 hz1 hz2 rfl (by omega)
        ⟨g, 0, none⟩ n cap (ints ys) (by rw [ints_len, hyl, Nat.mul_one]) hold a m c (ints us) (by rw [hul, Nat.mul_one]) hnews (by omega) (by simp [maxLen]; omega) (by omega)
      rw [hbv, ← hlen] at ho'
      refine ⟨v', w', hrun, ?_, ⟨hgr.os, hgr.tape, hgr.output, hgr.size, fun k hk _ => hgr.block k hk (by simp)⟩, fun k hk => .inr (ho'.lt k hk).1, ?_, by obtain ⟨A', c', hv', _⟩ := own_form ho'; rw [hv', hlen]; rfl⟩
      · exact gs_of_ownI (by
          rcases ho'.2 with h' | ⟨g', cap', cur', h1', h2', h3'⟩
          · exact ⟨ho'.1, .inl h'⟩
          · exact ⟨ho'.1, .inr ⟨g', cap', cur', h1', Nat.le_trans hB h2', h3'⟩⟩) hbys (by omega) (by omega)
      · exact ⟨hgr.os, hgr.tape, hgr.output, hgr.size, fun k hk => hgr.block k (Nat.lt_of_lt_of_le hk hB) (by simp)⟩
end
/-- No block of theirs is one. -/
def ApI (v u : Value) : Prop := ∀ k, v.ownBlock = some k → u.ownBlock ≠ some k
theorem ApI.symm {v u : Value} (h : ApI v u) : ApI u v := fun k h1 h2 => h k h2 h1
theorem ApI.ne {B N : Nat} {w : World} {v u : Value} (h : ApI v u) (hu : GsI B N w u) : u.ownBlock ≠ v.ownBlock := by
  obtain ⟨k, hk, _⟩ := hu.lt
  intro e
  exact h k (e ▸ hk) hk
structure BagI (B N : Nat) (w0 w : World) (l : List Value) : Prop where
  bel : Below B w0 w
  low : B ≤ w.heap.size
  all : ∀ v ∈ l, GsI B N w v
  ap : l.Pairwise ApI
section
variable {B N : Nat} {w0 w w' : World} {v : Value} {l l' : List Value}
theorem BagI.perm (h : BagI B N w0 w l) (hp : l.Perm l') : BagI B N w0 w l' :=
  ⟨h.bel, h.low, fun v hv => h.all v (hp.mem_iff.2 hv), hp.pairwise h.ap (fun hxy => ApI.symm hxy)⟩
theorem BagI.tail (h : BagI B N w0 w (v :: l)) : BagI B N w0 w l := ⟨h.bel, h.low, fun u hu => h.all u (by simp [hu]), (List.pairwise_cons.1 h.ap).2⟩
theorem BagI.add (h : BagI B N w0 w l) (xs : List Int) (hx : IntsOk xs) (hn : xs.length ≤ N) (hm : xs.length ≤ 1000) :
    BagI B (2 * N) w0 (w.alloc (.cells (ints xs).toArray 3)) (.slice (some ⟨w.heap.size, 0, none⟩) xs.length xs.length :: l) ∧ True := by
  have hg := World.grownBy_alloc w (.cells (ints xs).toArray 3) none
  refine ⟨⟨h.bel.alloc h.low _, by have := h.low; simp; omega, fun u hu => ?_, List.pairwise_cons.2 ⟨fun u hu k hk => ?_, h.ap⟩⟩, trivial⟩
  · rcases List.mem_cons.1 hu with rfl | hu
    · exact (GsI.lit (N := N) w xs hx h.low hn hm).mono (by omega)
    · obtain ⟨k, hk, _⟩ := (h.all u hu).lt
      exact ((h.all u hu).kept hg (by rw [hk]; simp)).mono (by omega)
  · obtain ⟨k', hk', _, hlt⟩ := (h.all u hu).lt
    simp only [Value.ownBlock, Option.some.injEq] at hk
    rw [hk']
    intro e
    injection e with e
    omega
theorem BagI.rep {M : Nat} {v' : Value} (h : BagI B N w0 w (v :: l)) (hg : w.grownBy w' v.ownBlock) (hb : Below B w w') (hv : GsI B M w' v') (hM : N ≤ M) (ho : ∀ k, v'.ownBlock = some k → v.ownBlock = some k ∨ w.heap.size ≤ k) : BagI B M w0 w' (v' :: l) := by
  have hap := List.pairwise_cons.1 h.ap
  refine ⟨h.bel.trans hb, Nat.le_trans h.low hb.size, fun u hu => ?_, List.pairwise_cons.2 ⟨fun u hu k hk => ?_, hap.2⟩⟩
  · rcases List.mem_cons.1 hu with rfl | hu
    · exact hv
    · exact ((h.all u (by simp [hu])).kept hg ((hap.1 u hu).ne (h.all u (by simp [hu])))).mono hM
  · obtain ⟨k', hk', _, hlt⟩ := (h.all u (by simp [hu])).lt
    rcases ho k hk with h1 | h1
    · exact hap.1 u hu k h1
    · rw [hk']; intro e; injection e with e; omega
theorem BagI.app {s : Value} (h : BagI B N w0 w (v :: l)) (hs : ∃ A m c us, s = .slice A m c ∧ Nums .i64 w A m us ∧ m ≤ N ∧ slen s = m) (hN : 2 * N ≤ 1000000000000) :
    ∃ v' w', (Builtin.append_ #[22, 22] 22 #[v, s]).run Try.prog w = .ok v' w' ∧ BagI B (2 * N) w0 w' (v' :: l) ∧ w.grownBy w' v.ownBlock ∧ slen v' = slen v + slen s := by
  obtain ⟨A, m, c, us, rfl, hu, hm, -⟩ := hs
  obtain ⟨v', w', hrun, hG, hgr, hob, hb, hsl⟩ := (h.all v (by simp)).append A m c N us hu hm (by omega) h.low
  exact ⟨v', w', hrun, h.rep hgr hb (hG.mono (by omega)) (by omega) hob, hgr, hsl⟩
end
theorem BagI.kept {B N : Nat} {w0 w w' : World} {l : List Value} {row : Option Nat} (h : BagI B N w0 w l) (hg : w.grownBy w' row) (hr : ∀ v ∈ l, v.ownBlock ≠ row) (hb : Below B w w') : BagI B N w0 w' l :=
  ⟨h.bel.trans hb, Nat.le_trans h.low hb.size, fun v hv => (h.all v hv).kept hg (hr v hv), h.ap⟩
theorem BagI.mono {B N M : Nat} {w0 w : World} {l : List Value} (h : BagI B N w0 w l) (hm : N ≤ M) : BagI B M w0 w l := ⟨h.bel, h.low, fun v hv => (h.all v hv).mono hm, h.ap⟩
theorem GsI.shape {B N : Nat} {w : World} {v : Value} (h : GsI B N w v) : ∃ g c, v = .slice (some ⟨g, 0, none⟩) (slen v) c := by
  obtain ⟨g, n, cap, cur, fz, rfl, _⟩ := h
  exact ⟨g, cap, rfl⟩
/-- A row is laid that holds two of them. -/
theorem row_box {B N : Nat} {w0 w : World} {l : List Value} (h : BagI B N w0 w l) (kv mv : Value) :
    Box2 33 (((w.alloc (.cells #[.slice none 0 0, .slice none 0 0] 33)).setCell ⟨w.heap.size, 0, none⟩ kv).setCell ⟨w.heap.size, 1, none⟩ mv) w.heap.size kv mv ∧
    BagI B N w0 (((w.alloc (.cells #[.slice none 0 0, .slice none 0 0] 33)).setCell ⟨w.heap.size, 0, none⟩ kv).setCell ⟨w.heap.size, 1, none⟩ mv) l ∧ B ≤ w.heap.size := by
  have hx := ((Box2.new w 33 (.slice none 0 0) (.slice none 0 0)).set0 kv).set1 mv
  have hb := (((Below.refl B w).alloc h.low (.cells #[.slice none 0 0, .slice none 0 0] 33)).setCell (p := ⟨w.heap.size, 0, none⟩) h.low kv).setCell (p := ⟨w.heap.size, 1, none⟩) h.low mv
  refine ⟨hx, h.kept (row := none) ?_ (fun v hv => ?_) hb, h.low⟩
  · refine ⟨rfl, rfl, rfl, by simp [World.setCell], fun k hk _ => ?_⟩
    rw [Below.heap_setCell _ _ _ _ (by show k ≠ w.heap.size; omega), Below.heap_setCell _ _ _ _ (by show k ≠ w.heap.size; omega)]
    exact Below.heap_alloc _ _ _ hk
  · obtain ⟨k, hk, _⟩ := (h.all v hv).lt
    rw [hk]; simp
theorem box_far {T : TypeId} {B N : Nat} {w w' : World} {R : Nat} {a b v : Value} (h : Box2 T w R a b) (hg : w.grownBy w' v.ownBlock) (hv : GsI B N w v) (hT : T ≠ 3) : Box2 T w' R a b := by
  have hne : some R ≠ v.ownBlock := by
    obtain ⟨g, n, cap, cur, fz, rfl, _, h3, _⟩ := hv
    intro e
    simp only [Value.ownBlock, Option.some.injEq] at e
    subst e
    unfold Box2 at h
    rw [h3] at h
    injection h with h
    injection h with _ h2
    exact hT h2.symm
  exact (hg.block R h.lt hne).trans h
/-- One number more is appended to the first of them. -/
theorem grow_key {B N R : Nat} {w0 w : World} {kv a b : Value} {l : List Value} (h : BagI B N w0 w (kv :: l)) (hx : Box2 33 w R a b) (x : Int) (hi : inK .i64 x) (hN : 4 * N ≤ 1000000000000 := by decide) (hN1 : 1 ≤ N := by decide) :
    ∃ v' w', (Builtin.append_ #[22, 22] 22 #[kv, .slice (some ⟨w.heap.size, 0, none⟩) 1 1]).run Try.prog (w.alloc (.cells #[.int .i64 x] 3)) = .ok v' w' ∧ BagI B (4 * N) w0 w' (v' :: l) ∧ Box2 33 w' R a b ∧ slen v' = slen kv + 1 := by
  have h1 := (h.add [x] (by intro y hy; simp at hy; subst hy; exact hi) (by simpa using hN1) (by simp)).1
  have h2 : BagI B (2 * N) w0 (w.alloc (.cells #[.int .i64 x] 3)) (kv :: .slice (some ⟨w.heap.size, 0, none⟩) 1 1 :: l) := h1.perm (List.Perm.swap _ _ _)
  obtain ⟨A, n, c, ys, q1, q2, q3, q4, q5⟩ := (h2.all (.slice (some ⟨w.heap.size, 0, none⟩) 1 1) (by simp)).nums
  obtain ⟨v', w', hrun, hb, hgr, hsl⟩ := h2.app (s := .slice (some ⟨w.heap.size, 0, none⟩) 1 1) ⟨A, n, c, ys, q1, q2, q5, by rw [q1]; rfl⟩ (by omega)
  refine ⟨v', w', hrun, ((hb.mono (by omega)).perm (List.Perm.swap _ _ _)).tail, box_far (hx.alloc _) hgr (h2.all kv (by simp)) (by decide), hsl⟩
/-- A slice is stored into a row's box: the slices themselves stay. -/
theorem row_set {B N R : Nat} {w0 w : World} {a b : Value} {l : List Value} (h : BagI B N w0 w l) (hx : Box2 33 w R a b) (hR : B ≤ R) (i : Nat) (v : Value) : BagI B N w0 (w.setCell ⟨R, i, none⟩ v) l :=
  h.kept (row := some R) ⟨rfl, rfl, rfl, by simp [World.setCell], fun k _ hne => by rw [Below.heap_setCell _ _ _ _ (fun e => hne (by rw [e]))]⟩ (fun u hu e => by
    obtain ⟨g, n, cap, cur, fz, rfl, _, h3, _⟩ := h.all u hu
    simp only [Value.ownBlock, Option.some.injEq] at e
    subst e
    unfold Box2 at hx
    rw [h3] at hx
    injection hx with hx
    injection hx with _ h2
    exact absurd h2 (by decide)) (below_setCell (Below.refl _ _) hR i v)
theorem slice_nums {B N n c : Nat} {w : World} {A : Option Addr} (h : GsI B N w (.slice A n c)) : ∃ xs, Nums .i64 w A n xs ∧ n ≤ N ∧ n ≤ c := by
  obtain ⟨A', n', c', xs, hv, hn, hc, _, hN⟩ := h.nums
  injection hv with h1 h2 h3
  subst h1 h2 h3
  exact ⟨xs, hn, hN, hc⟩
theorem box_set {T : TypeId} {B N R : Nat} {w0 w : World} {a b : Value} {l : List Value} (hT : T ≠ 3) (h : BagI B N w0 w l) (hx : Box2 T w R a b) (hR : B ≤ R) (i : Nat) (v : Value) : BagI B N w0 (w.setCell ⟨R, i, none⟩ v) l :=
  h.kept (row := some R) ⟨rfl, rfl, rfl, by simp [World.setCell], fun k _ hne => by rw [Below.heap_setCell _ _ _ _ (fun e => hne (by rw [e]))]⟩ (fun u hu e => by
    obtain ⟨g, n, cap, cur, fz, rfl, _, h3, _⟩ := h.all u hu
    simp only [Value.ownBlock, Option.some.injEq] at e
    subst e
    unfold Box2 at hx
    rw [h3] at hx
    injection hx with hx
    injection hx with _ h2
    exact absurd h2.symm hT) (below_setCell (Below.refl _ _) hR i v)
/-- A literal's numbers are appended to the first of them. -/
theorem grow_lit {T : TypeId} {B N R : Nat} {w0 w : World} {kv a b : Value} {l : List Value} (hT : T ≠ 3) (h : BagI B N w0 w (kv :: l)) (hx : Box2 T w R a b) (xs : List Int) (hi : IntsOk xs) (hl : xs.length ≤ 10) (hN : 4 * N ≤ 1000000000000) (hN1 : 10 ≤ N) :
    ∃ v' w', (Builtin.append_ #[22, 22] 22 #[kv, .slice (some ⟨w.heap.size, 0, none⟩) xs.length xs.length]).run Try.prog (w.alloc (.cells (ints xs).toArray 3)) = .ok v' w' ∧ BagI B (4 * N) w0 w' (v' :: l) ∧ Box2 T w' R a b ∧ slen v' = slen kv + xs.length := by
  have h1 := (h.add xs hi (by omega) (by omega)).1
  have h2 : BagI B (2 * N) w0 (w.alloc (.cells (ints xs).toArray 3)) (kv :: .slice (some ⟨w.heap.size, 0, none⟩) xs.length xs.length :: l) := h1.perm (List.Perm.swap _ _ _)
  obtain ⟨A, n, c, ys, q1, q2, q3, q4, q5⟩ := (h2.all (.slice (some ⟨w.heap.size, 0, none⟩) xs.length xs.length) (by simp)).nums
  obtain ⟨v', w', hrun, hb, hgr, hsl⟩ := h2.app (s := .slice (some ⟨w.heap.size, 0, none⟩) xs.length xs.length) ⟨A, n, c, ys, q1, q2, q5, by rw [q1]; rfl⟩ (by omega)
  refine ⟨v', w', hrun, ((hb.mono (by omega)).perm (List.Perm.swap _ _ _)).tail, box_far (hx.alloc _) hgr (h2.all kv (by simp)) hT, hsl⟩
theorem oper_append {P : Program} {o : Oper} {a : Act} {w : World} {K : Act → World → Prop} {Q : Exit → Act → World → Prop} (s x : Operand) (t : TypeId)
    (ho : o.op = .call { callee := .builtin .append, args := #[s, x], argTypes := #[t, t] }) (v u v' : Value) (w' : World) (hs : a.eval s = v) (hx : a.eval x = u)
    (hrun : (Builtin.append_ #[t, t] o.type #[v, u]).run P w = .ok v' w') (h : K (a.put o.dst v') w') : Oper.wp P o a w K Q := by
  unfold Oper.wp execOp
  simp only [ho, resolve, invoke, builtin, Sem.run_bind, Sem.run_pure, Result.andThen_ok, List.map_toArray, List.map_cons, List.map_nil, hs, hx, hrun]
  exact h
end Go.Proofs.Ytejjbbomkedpcaa
