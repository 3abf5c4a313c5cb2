/- A row of rows grows in a row; rows that are made anew; numbers that change places. -/
import Derived.Test.YtnjalnnbdmmcmaaMatV
import Derived.Test.YtnjalnnbdmmcmaaRegP
namespace Go.Proofs.Ytnjalnnbdmmcmaa
open Go.RowKit Go.Shelf
set_option maxRecDepth 100000 in
set_option maxHeartbeats 1000000 in
/-- A number is appended to row i, which is stored where it was. -/
theorem om_pushX {B : Nat} {w : World} {v u : Value} {M : List (List Int)} {us : List Value} {i : Nat} {r : List Int} {x : Int} {go co : Nat} (h : OM B w v M us) (hu : us[i]? = some u) (hr : M[i]? = some r) (hv : v = .slice (some ⟨go, 0, none⟩) M.length co)
    (hx : inK .i64 x) (hn : r.length ≤ 1000000) (hB : B ≤ w.heap.size) (hgo : B ≤ go) :
    ∃ g' c' w1, (Builtin.append_ #[22, 22] 22 #[u, .slice (some ⟨w.heap.size, 0, none⟩) 1 1]).run Try.prog (w.alloc (.cells #[.int .i64 x] 3)) = .ok (.slice (some ⟨g', 0, none⟩) (r.length + 1) c') w1 ∧
      OM B (w1.setCell ⟨go, i, none⟩ (.slice (some ⟨g', 0, none⟩) (r.length + 1) c')) v (M.set i (r ++ [x])) (us.set i (.slice (some ⟨g', 0, none⟩) (r.length + 1) c')) ∧
      Below B w (w1.setCell ⟨go, i, none⟩ (.slice (some ⟨g', 0, none⟩) (r.length + 1) c')) ∧ w1.cell? ⟨go, i, none⟩ = some u ∧ w1.frozen? ⟨go, i, none⟩ = false ∧
      (u.ownBlock = some g' ∨ w.heap.size ≤ g') ∧ ∀ k, k < w.heap.size → k ≠ go → u.ownBlock ≠ some k → (w1.setCell ⟨go, i, none⟩ (.slice (some ⟨g', 0, none⟩) (r.length + 1) c')).heap[k]? = w.heap[k]? := by
  have hrow := h.row i u r hu hr
  have hil := (List.getElem?_eq_some_iff.1 hr).1
  obtain ⟨i0, hi, hz0, hz1, hz2⟩ := info_parts infoI
  obtain ⟨u', w1, hrun, ho, hgr, _, hblk⟩ := run_append_own_at (P := Try.prog) (w.alloc (.cells #[.int .i64 x] 3)) B 22 22 3 i0 _ 1 8 Try.underlying22 hi hz0 hz1 hz2 rfl (by omega) u r.length (ints r) (hrow.1.alloc _)
    ⟨w.heap.size, 0, none⟩ 1 1 [.int .i64 x] rfl (fun j y hy => by
      rw [add0, show (w.alloc (.cells #[.int .i64 x] 3)).cell? ⟨w.heap.size, j, none⟩ = #[.int .i64 x][j]? from cell_of_row _ _ _ _ 3 (0, 0) (heap_alloc_new w _)]
      simpa using hy)
    (by intro y hy; simp at hy; subst hy; rfl) (by simp [maxLen]; omega) (by omega) (by simp; omega)
  obtain ⟨g', c', rfl⟩ := ownsRow_succ ho
  have hvo := h.own
  rw [hv] at hvo
  have keepv : w1.ownsRow B 22 1 v M.length us := (h.own.alloc _).kept hgr (own_apart h.own hrow.1 (by decide))
  have hgne : g' ≠ go := fun e => by
    have h2 := own_apart ho keepv (by decide)
    rcases h2 with h2 | h2
    · cases h2
    · exact h2 (by rw [hv, e]; rfl)
  obtain ⟨go', co', u2, e2, -, hgol, hu2, hcu, hfu, -, -⟩ := h.at_ hr
  rw [hv] at e2
  injection e2 with e3 _ _
  injection e3 with e3
  injection e3 with e3
  subst e3
  obtain rfl : u = u2 := Option.some.inj (hu.symm.trans hu2)
  have hue : u.ownBlock ≠ some go := fun e => by
    rcases own_apart hrow.1 h.own (by decide) with h4 | h4
    · rw [e] at h4; cases h4
    · exact h4 (by rw [e, hv]; rfl)
  have hheap : w1.heap[go]? = w.heap[go]? := (hgr.block go (by simp; omega) (fun e => hue e.symm)).trans (Below.heap_alloc _ _ _ hgol)
  refine ⟨g', c', w1, hrun, ⟨?_, fun j y r' hj hr' => ?_, fun j k y y' hjk hy hy' => ?_⟩, ?_, ?_, ?_, ?_, fun k hk hkg hku => ?_⟩
  · rw [List.length_set]
    rcases keepv.2 with ⟨e0, _⟩ | ⟨gg, cap, cur, e0, a1, a2, a3, a4, a5, a6⟩
    · rw [hv] at e0; cases e0
    · refine ⟨by rw [List.length_set]; exact keepv.1, .inr ⟨gg, cap, cur.setIfInBounds i (.slice (some ⟨g', 0, none⟩) (r.length + 1) c'), e0, a1, ?_, a3, a4, by simpa using a5, ?_⟩⟩
      · rw [hv] at e0
        injection e0 with e0 _ _
        injection e0 with e0
        injection e0 with e0
        subst e0
        simp [World.setCell, Array.getElem?_modify, a2]
      · rw [Array.toList_setIfInBounds, List.take_set, a6]
  · by_cases hij : i = j
    · subst hij
      rw [List.getElem?_set_self (by rw [h.len]; exact hil)] at hj
      rw [List.getElem?_set_self hil] at hr'
      injection hj with hj
      injection hr' with hr'
      subst hj hr'
      refine ⟨only_own (by simpa [ints] using ho) (fun e => hgne (by simpa [Value.ownBlock] using e)), fun z hz => ?_⟩
      rcases List.mem_append.1 hz with h5 | h5
      · exact hrow.2 z h5
      · rw [List.mem_singleton.1 h5]; exact hx
    · rw [List.getElem?_set_ne hij] at hj hr'
      have hrj := h.row j y r' hj hr'
      have hyg : y.ownBlock ≠ some go := fun e => by
        rcases own_apart hrj.1 h.own (by decide) with h4 | h4
        · rw [e] at h4; cases h4
        · exact h4 (by rw [e, hv]; rfl)
      refine ⟨only_own ((hrj.1.alloc _).kept hgr ?_) hyg, hrj.2⟩
      rcases hb : y.ownBlock with _ | b
      · exact .inl rfl
      · exact .inr fun e => h.ap j i y u (Ne.symm hij) hj hu b hb e.symm
  · have newb : ∀ (q : Nat) (z : Value), q ≠ i → us[q]? = some z → ∀ b, z.ownBlock = some b → b ≠ g' := fun q z hq hz b hb e => by
      subst e
      rcases hblk with h5 | h5
      · exact h.ap q i z u hq hz hu b hb (h5.symm.trans rfl)
      · have h6 := (h.row q z _ hz (List.getElem?_eq_getElem (by rw [← h.len]; exact (List.getElem?_eq_some_iff.1 hz).1))).1.lt b hb
        simp [Value.ownBlock] at h5
        omega
    by_cases hij : i = j
    · subst hij
      rw [List.getElem?_set_self (by rw [h.len]; exact hil)] at hy
      injection hy with hy
      subst hy
      rw [List.getElem?_set_ne hjk] at hy'
      intro b hb e
      have : b = g' := by simpa [Value.ownBlock] using hb.symm
      exact newb k y' (Ne.symm hjk) hy' b e this
    · rw [List.getElem?_set_ne hij] at hy
      by_cases hik : i = k
      · subst hik
        rw [List.getElem?_set_self (by rw [h.len]; exact hil)] at hy'
        injection hy' with hy'
        subst hy'
        intro b hb e
        exact newb j y hjk hy b hb (by simpa [Value.ownBlock] using e.symm)
      · rw [List.getElem?_set_ne hik] at hy'
        exact h.ap j k y y' hjk hy hy'
  · exact (((Below.refl B w).alloc hB _).grown hgr (by simp; omega) (fun k e => (hrow.1.lt k e).1)).setCell (p := ⟨go, i, none⟩) hgo _
  · rw [World.cell?_of_block hheap]; exact hcu
  · have : w1.frozen? ⟨go, i, none⟩ = w.frozen? ⟨go, i, none⟩ := by simp [World.frozen?, hheap]
    rw [this]; exact hfu
  · rcases hblk with h5 | h5
    · exact .inl (h5.symm.trans rfl)
    · right; simp [Value.ownBlock] at h5; omega
  · rw [Below.heap_setCell _ _ _ _ hkg, hgr.block k (by simp; omega) (fun e => hku e.symm)]
    exact Below.heap_alloc _ _ _ hk
theorem om_push {B : Nat} {w : World} {v u : Value} {M : List (List Int)} {us : List Value} {i : Nat} {r : List Int} {x : Int} {go co : Nat} (h : OM B w v M us) (hu : us[i]? = some u) (hr : M[i]? = some r) (hv : v = .slice (some ⟨go, 0, none⟩) M.length co)
    (hx : inK .i64 x) (hn : r.length ≤ 1000000) (hB : B ≤ w.heap.size) (hgo : B ≤ go) :
    ∃ g' c' w1, (Builtin.append_ #[22, 22] 22 #[u, .slice (some ⟨w.heap.size, 0, none⟩) 1 1]).run Try.prog (w.alloc (.cells #[.int .i64 x] 3)) = .ok (.slice (some ⟨g', 0, none⟩) (r.length + 1) c') w1 ∧
      OM B (w1.setCell ⟨go, i, none⟩ (.slice (some ⟨g', 0, none⟩) (r.length + 1) c')) v (M.set i (r ++ [x])) (us.set i (.slice (some ⟨g', 0, none⟩) (r.length + 1) c')) ∧
      Below B w (w1.setCell ⟨go, i, none⟩ (.slice (some ⟨g', 0, none⟩) (r.length + 1) c')) ∧ w1.cell? ⟨go, i, none⟩ = some u ∧ w1.frozen? ⟨go, i, none⟩ = false :=
  let ⟨g', c', w1, a, b, c, d, e, _⟩ := om_pushX h hu hr hv hx hn hB hgo
  ⟨g', c', w1, a, b, c, d, e⟩
theorem made_slices' (w : World) (T : TypeId) (n : Nat) : (w.alloc (.cells (madeCells #[.slice none 0 0] n) T)).heap[w.heap.size]? = some (.cells (List.replicate n (Value.slice none 0 0)).toArray T (0, 0)) := by
  rw [heap_alloc_new]
  congr 2
  apply Array.ext'
  rw [toList_madeCells_one, List.toList_toArray]
/-- k rows, made anew. -/
theorem om_made (w : World) (n : Nat) (hn : n ≤ 1000) : OM w.heap.size (w.alloc (.cells (madeCells #[.slice none 0 0] n) 22)) (.slice (some ⟨w.heap.size, 0, none⟩) n n) (List.replicate n []) (List.replicate n (.slice none 0 0)) := by
  refine ⟨by rw [List.length_replicate]; exact ⟨by simp, .inr ⟨w.heap.size, n, _, rfl, Nat.le_refl _, made_slices' w _ n, Nat.le_refl _, by simp [maxLen]; omega, by simp, by simp⟩⟩, fun j u r hu hr => ?_, fun i j u u' _ hu _ b hb => ?_⟩
  · rw [(List.mem_replicate.1 (List.mem_of_getElem? hu)).2, (List.mem_replicate.1 (List.mem_of_getElem? hr)).2]
    exact OI.nil _ _
  · rw [(List.mem_replicate.1 (List.mem_of_getElem? hu)).2] at hb
    cases hb
theorem make_rows9 (n : Nat) (hn : n ≤ 1000) (w : World) : (Instr.makeSlice 25 (.int .i64 (n : Int)) (.int .i64 (n : Int))).run Try.prog w = .ok (.slice (some ⟨w.heap.size, 0, none⟩) n n) (w.alloc (.cells (madeCells #[.slice none 0 0] n) 22)) := by
  obtain ⟨i, hi, hz, hs, hb⟩ := info_parts infoS1
  have hr := run_make (P := Try.prog) w 25 22 i (.slice none 0 0) Try.underlying25 hi hz .i64 .i64 n n (by omega) (by omega) (by rw [hb]; omega) (by omega)
  simpa [hs, Value.cells] using hr
/-! ### Numbers that change places -/
def swp (T : List Nat) (a b x y : Nat) : List Nat := (T.set a y).set b x
theorem swp_perm {T : List Nat} {a b x y : Nat} (ha : T[a]? = some x) (hb : T[b]? = some y) : (swp T a b x y).Perm T := by
  obtain ⟨h1, rfl⟩ := List.getElem?_eq_some_iff.1 ha
  obtain ⟨h2, rfl⟩ := List.getElem?_eq_some_iff.1 hb
  exact List.set_set_perm h1 h2
theorem swp_cast (T : List Nat) (a b x y : Nat) : (swp T a b x y).map (fun (k : Nat) => (k : Int)) = ((T.map fun (k : Nat) => (k : Int)).set a (y : Int)).set b (x : Int) := by
  unfold swp
  rw [List.map_set, List.map_set]
theorem perm_spec {T : List Nat} {k : Nat} (h : T.Perm (List.range k)) : T.length = k ∧ T.Nodup ∧ ∀ x ∈ T, x < k :=
  ⟨by rw [h.length_eq, List.length_range], h.nodup_iff.2 List.nodup_range, fun x hx => List.mem_range.1 (h.mem_iff.1 hx)⟩
end Go.Proofs.Ytnjalnnbdmmcmaa
