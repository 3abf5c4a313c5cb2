/- Choices held against one another, as the law does; sums so far. -/
import Derived.Test.YtimffjonhoplpaaMatU
namespace Go.Proofs.Ytimffjonhoplpaa
open Go.RowKit Go.Shelf
attribute [local go_sem] Oper.semAt_some
theorem lex_of : ∀ {A B : List Nat} {i x y : Nat}, A.take i = B.take i → A[i]? = some x → B[i]? = some y → x < y → lexlt A B
  | [], _, _, _, _, _, h, _, _ => by simp at h
  | _ :: _, [], _, _, _, _, _, h, _ => by simp at h
  | a :: A, b :: B, 0, x, y, _, h1, h2, h => by
    simp at h1 h2
    subst h1 h2
    exact .inl h
  | a :: A, b :: B, i + 1, x, y, ht, h1, h2, h => by
    simp only [List.take_succ_cons, List.cons.injEq] at ht
    exact .inr ⟨ht.1, lex_of ht.2 (by simpa using h1) (by simpa using h2) h⟩
theorem take_snoc' {α : Type} {l : List α} {k : Nat} {x : α} (h : l[k]? = some x) : l.take (k + 1) = l.take k ++ [x] := by rw [List.take_add_one, h]; rfl
theorem nums_nat {w : World} {P : Option Addr} {n : Nat} {A : List Nat} (h : Nums .i64 w P n (A.map fun (k : Nat) => (k : Int))) {i : Nat} (hi : i < n) : ∃ ad x, P = some ad ∧ A[i]? = some x ∧ w.cell? (ad.add i) = some (.int .i64 (x : Int)) := by
  obtain ⟨ad, y, e, hy, -, hc⟩ := h.at_ hi
  rw [List.getElem?_map, Option.map_eq_some_iff] at hy
  obtain ⟨x, hx, rfl⟩ := hy
  exact ⟨ad, x, e, hx, hc⟩
set_option maxRecDepth 100000 in
set_option maxHeartbeats 4000000 in
theorem ahead_no (P Q : Option Addr) (n m c d : Nat) (A B : List Nat) (w : World) (hA : Nums .i64 w P n (A.map fun (k : Nat) => (k : Int))) (hB : Nums .i64 w Q m (B.map fun (k : Nat) => (k : Int))) (hnm : n ≤ m) (hn : n ≤ 1000000) (hno : ¬ lexlt A B) :
    Calls Try.prog 19 #[.slice P n c, .slice Q m d] w fun e w' => e = .returned (.bool false) ∧ Below w.heap.size w w' := by
  have HA := Lib.hid hA
  have HBB := Lib.hid hB
  have HNO := Lib.hid hno
  clear hA hB hno
  go_enter Try.func19, Try.ntmps19
  go_wp2
  go_loopw [5] (fun p wr => ∃ i : Nat, p = .int .i64 i ∧ i ≤ n ∧ A.take i = B.take i ∧ Below w.heap.size w wr) (fun p _ => n - (intOf p).toNat)
  case atStart => exact ⟨0, rfl, Nat.zero_le _, rfl, Below.refl _ _⟩
  case round =>
    obtain ⟨i, rfl, hi, ht, hb⟩ := hrel
    rename World => wr
    have HT := Lib.hid ht
    have HB := Lib.hid hb
    clear ht hb
    by_cases hlt : i < n
    · have hltz : (i : Int) < (n : Int) := by omega
      have hltm : (i : Int) < (m : Int) := by omega
      have i0 : (0 : Int) ≤ (i : Int) := by omega
      have i1 : i < n := hlt
      have i2 : i < m := by omega
      obtain ⟨ad, x, rfl, hx, hcx⟩ := nums_nat (HA.out.keep (Keeps.of_below HB.out)) hlt
      obtain ⟨bd, y, rfl, hy, hcy⟩ := nums_nat (HBB.out.keep (Keeps.of_below HB.out)) (show i < m by omega)
      have HCp : Hid (wr.drew.cell? (ad.add i) = some (.int .i64 (x : Int)) ∧ wr.drew.cell? (bd.add i) = some (.int .i64 (y : Int))) := Lib.hid ⟨hcx, hcy⟩
      have HCq : Hid (wr.drew.drew.cell? (ad.add i) = some (.int .i64 (x : Int)) ∧ wr.drew.drew.cell? (bd.add i) = some (.int .i64 (y : Int))) := Lib.hid ⟨hcx, hcy⟩
      have HX := Lib.hid hx
      have HY := Lib.hid hy
      clear hx hy hcx hcy
      obtain ⟨bb, hbb⟩ : ∃ bb, ((x : Int) != (y : Int)) = bb := ⟨_, rfl⟩
      have HBBE := Lib.hid hbb
      go_wp2
      refine wp_region_held_drew (S := fun W => W.cell? (ad.add i) = some (.int .i64 (x : Int)) ∧ W.cell? (bd.add i) = some (.int .i64 (y : Int))) (by kernel_rfl) HCp.out (fun hHeld => ?_)
      refine wpAnyH_take (i := 0) (v := ?vp0) rfl (by kernel_rfl) (by kernel_rfl) (by kernel_rfl) (fun _ _ _ h => h) (Or.inl ⟨by rfl, ?yp0⟩) hHeld ?rp0
      case yp0 => (intro W hW; obtain ⟨hA, hB⟩ := hW; go_simp; first | done | with_reducible rfl)
      try simp only [List.getElem_toArray, List.getElem_cons_zero, Act.put, List.setIfInBounds_toArray, List.set_cons_zero, List.set_cons_succ]
      refine wpAnyH_take (i := 1) (v := ?vp1) rfl (by kernel_rfl) (by kernel_rfl) (by kernel_rfl) (fun _ _ _ h => h) (Or.inl ⟨by rfl, ?yp1⟩) hHeld ?rp1
      case yp1 => (intro W hW; obtain ⟨hA, hB⟩ := hW; go_simp; first | done | with_reducible rfl)
      try simp only [List.getElem_toArray, List.getElem_cons_succ, List.getElem_cons_zero, Act.put, List.setIfInBounds_toArray, List.set_cons_zero, List.set_cons_succ]
      refine wpAnyH_take (i := 2) (v := ?vp2) rfl (by kernel_rfl) (by kernel_rfl) (by kernel_rfl) (fun _ _ _ h => h) (Or.inl ⟨by rfl, ?yp2⟩) hHeld ?rp2
      case yp2 => (intro W hW; obtain ⟨hA, hB⟩ := hW; go_simp; first | done | with_reducible rfl)
      try simp only [List.getElem_toArray, List.getElem_cons_succ, List.getElem_cons_zero, Act.put, List.setIfInBounds_toArray, List.set_cons_zero, List.set_cons_succ]
      refine wpAnyH_take (i := 3) (v := ?vp3) rfl (by kernel_rfl) (by kernel_rfl) (by kernel_rfl) (fun _ _ _ h => h) (Or.inl ⟨by rfl, ?yp3⟩) hHeld ?rp3
      case yp3 => (intro W hW; obtain ⟨hA, hB⟩ := hW; go_simp; first | done | with_reducible rfl)
      try simp only [List.getElem_toArray, List.getElem_cons_succ, List.getElem_cons_zero, Act.put, List.setIfInBounds_toArray, List.set_cons_zero, List.set_cons_succ]
      refine wpAnyH_take (i := 4) (v := ?vp4) rfl (by kernel_rfl) (by kernel_rfl) (by kernel_rfl) (fun _ _ _ h => h) (Or.inl ⟨by rfl, ?yp4⟩) hHeld ?rp4
      case yp4 => (intro W hW; obtain ⟨hA, hB⟩ := hW; go_simp; first | done | with_reducible rfl)
      try simp only [List.getElem_toArray, List.getElem_cons_succ, List.getElem_cons_zero, Act.put, List.setIfInBounds_toArray, List.set_cons_zero, List.set_cons_succ]
      refine wpAnyH_take (i := 5) (v := ?vp5) rfl (by kernel_rfl) (by kernel_rfl) (by kernel_rfl) (fun _ _ _ h => h) (Or.inl ⟨by rfl, ?yp5⟩) hHeld ?rp5
      case yp5 => (intro W hW; obtain ⟨hA, hB⟩ := hW; go_simp; first | done | with_reducible rfl)
      try simp only [List.getElem_toArray, List.getElem_cons_succ, List.getElem_cons_zero, Act.put, List.setIfInBounds_toArray, List.set_cons_zero, List.set_cons_succ]
      refine wpAnyH_take (i := 6) (v := ?vp6) rfl (by kernel_rfl) (by kernel_rfl) (by kernel_rfl) (fun _ _ _ h => h) (Or.inl ⟨by rfl, ?yp6⟩) hHeld ?rp6
      case yp6 => (intro W hW; obtain ⟨hA, hB⟩ := hW; go_simp; first | done | with_reducible rfl)
      try simp only [List.getElem_toArray, List.getElem_cons_succ, List.getElem_cons_zero, Act.put, List.setIfInBounds_toArray, List.set_cons_zero, List.set_cons_succ]
      refine wpAnyH_take (i := 7) (v := ?vp7) rfl (by kernel_rfl) (by kernel_rfl) (by kernel_rfl) (fun _ _ _ h => h) (Or.inl ⟨by rfl, ?yp7⟩) hHeld ?rp7
      case yp7 => (intro W hW; obtain ⟨hA, hB⟩ := hW; go_simp; first | done | with_reducible rfl)
      try simp only [List.getElem_toArray, List.getElem_cons_succ, List.getElem_cons_zero, Act.put, List.setIfInBounds_toArray, List.set_cons_zero, List.set_cons_succ]
      refine wpAnyH_take (i := 8) (v := ?vp8) rfl (by kernel_rfl) (by kernel_rfl) (by kernel_rfl) (fun _ _ _ h => h) (Or.inl ⟨by rfl, ?yp8⟩) hHeld ?rp8
      case yp8 => (intro W hW; obtain ⟨hA, hB⟩ := hW; go_simp; first | done | with_reducible rfl)
      try simp only [List.getElem_toArray, List.getElem_cons_succ, List.getElem_cons_zero, Act.put, List.setIfInBounds_toArray, List.set_cons_zero, List.set_cons_succ]
      refine wpAnyH_done (by kernel_rfl) ?_ _
      cases bb with
      | false =>
        have hxy : x = y := by have := HBBE.out; simp at this; omega
        have HT2 : Hid (A.take (i + 1) = B.take (i + 1)) := Lib.hid (by rw [take_snoc' HX.out, take_snoc' HY.out, HT.out, hxy])
        clear hbb hxy
        go_wp2
        go_roundw
        case rel => exact ⟨i + 1, by go_num, by omega, HT2.out, HB.out.drew⟩
        case measure => simp [intOf]; omega
      | true =>
        have hxy : decide (x < y) = false := decide_eq_false (fun h => HNO.out (lex_of HT.out HX.out HY.out h))
        clear hbb
        go_wp2
        refine wp_region_held_drew (S := fun W => W.cell? (ad.add i) = some (.int .i64 (x : Int)) ∧ W.cell? (bd.add i) = some (.int .i64 (y : Int))) (by kernel_rfl) HCq.out (fun hHeld => ?_)
        refine wpAnyH_take (i := 0) (v := ?vq0) rfl (by kernel_rfl) (by kernel_rfl) (by kernel_rfl) (fun _ _ _ h => h) (Or.inl ⟨by rfl, ?yq0⟩) hHeld ?rq0
        case yq0 => (intro W hW; obtain ⟨hA, hB⟩ := hW; go_simp; first | done | with_reducible rfl)
        try simp only [List.getElem_toArray, List.getElem_cons_zero, Act.put, List.setIfInBounds_toArray, List.set_cons_zero, List.set_cons_succ]
        refine wpAnyH_take (i := 1) (v := ?vq1) rfl (by kernel_rfl) (by kernel_rfl) (by kernel_rfl) (fun _ _ _ h => h) (Or.inl ⟨by rfl, ?yq1⟩) hHeld ?rq1
        case yq1 => (intro W hW; obtain ⟨hA, hB⟩ := hW; go_simp; first | done | with_reducible rfl)
        try simp only [List.getElem_toArray, List.getElem_cons_succ, List.getElem_cons_zero, Act.put, List.setIfInBounds_toArray, List.set_cons_zero, List.set_cons_succ]
        refine wpAnyH_take (i := 2) (v := ?vq2) rfl (by kernel_rfl) (by kernel_rfl) (by kernel_rfl) (fun _ _ _ h => h) (Or.inl ⟨by rfl, ?yq2⟩) hHeld ?rq2
        case yq2 => (intro W hW; obtain ⟨hA, hB⟩ := hW; go_simp; first | done | with_reducible rfl)
        try simp only [List.getElem_toArray, List.getElem_cons_succ, List.getElem_cons_zero, Act.put, List.setIfInBounds_toArray, List.set_cons_zero, List.set_cons_succ]
        refine wpAnyH_take (i := 3) (v := ?vq3) rfl (by kernel_rfl) (by kernel_rfl) (by kernel_rfl) (fun _ _ _ h => h) (Or.inl ⟨by rfl, ?yq3⟩) hHeld ?rq3
        case yq3 => (intro W hW; obtain ⟨hA, hB⟩ := hW; go_simp; first | done | with_reducible rfl)
        try simp only [List.getElem_toArray, List.getElem_cons_succ, List.getElem_cons_zero, Act.put, List.setIfInBounds_toArray, List.set_cons_zero, List.set_cons_succ]
        refine wpAnyH_take (i := 4) (v := ?vq4) rfl (by kernel_rfl) (by kernel_rfl) (by kernel_rfl) (fun _ _ _ h => h) (Or.inl ⟨by rfl, ?yq4⟩) hHeld ?rq4
        case yq4 => (intro W hW; obtain ⟨hA, hB⟩ := hW; go_simp; first | done | with_reducible rfl)
        try simp only [List.getElem_toArray, List.getElem_cons_succ, List.getElem_cons_zero, Act.put, List.setIfInBounds_toArray, List.set_cons_zero, List.set_cons_succ]
        refine wpAnyH_take (i := 5) (v := ?vq5) rfl (by kernel_rfl) (by kernel_rfl) (by kernel_rfl) (fun _ _ _ h => h) (Or.inl ⟨by rfl, ?yq5⟩) hHeld ?rq5
        case yq5 => (intro W hW; obtain ⟨hA, hB⟩ := hW; go_simp; first | done | with_reducible rfl)
        try simp only [List.getElem_toArray, List.getElem_cons_succ, List.getElem_cons_zero, Act.put, List.setIfInBounds_toArray, List.set_cons_zero, List.set_cons_succ]
        refine wpAnyH_take (i := 6) (v := ?vq6) rfl (by kernel_rfl) (by kernel_rfl) (by kernel_rfl) (fun _ _ _ h => h) (Or.inl ⟨by rfl, ?yq6⟩) hHeld ?rq6
        case yq6 => (intro W hW; obtain ⟨hA, hB⟩ := hW; go_simp; first | done | with_reducible rfl)
        try simp only [List.getElem_toArray, List.getElem_cons_succ, List.getElem_cons_zero, Act.put, List.setIfInBounds_toArray, List.set_cons_zero, List.set_cons_succ]
        refine wpAnyH_take (i := 7) (v := ?vq7) rfl (by kernel_rfl) (by kernel_rfl) (by kernel_rfl) (fun _ _ _ h => h) (Or.inl ⟨by rfl, ?yq7⟩) hHeld ?rq7
        case yq7 => (intro W hW; obtain ⟨hA, hB⟩ := hW; go_simp; first | done | with_reducible rfl)
        try simp only [List.getElem_toArray, List.getElem_cons_succ, List.getElem_cons_zero, Act.put, List.setIfInBounds_toArray, List.set_cons_zero, List.set_cons_succ]
        refine wpAnyH_take (i := 8) (v := ?vq8) rfl (by kernel_rfl) (by kernel_rfl) (by kernel_rfl) (fun _ _ _ h => h) (Or.inl ⟨by rfl, ?yq8⟩) hHeld ?rq8
        case yq8 => (intro W hW; obtain ⟨hA, hB⟩ := hW; go_simp; first | done | with_reducible rfl)
        try simp only [List.getElem_toArray, List.getElem_cons_succ, List.getElem_cons_zero, Act.put, List.setIfInBounds_toArray, List.set_cons_zero, List.set_cons_succ]
        refine wpAnyH_take (i := 9) (v := ?vq9) rfl (by kernel_rfl) (by kernel_rfl) (by kernel_rfl) (fun _ _ _ h => h) (Or.inl ⟨by rfl, ?yq9⟩) hHeld ?rq9
        case yq9 => (intro W hW; obtain ⟨hA, hB⟩ := hW; go_simp; first | done | with_reducible rfl)
        try simp only [List.getElem_toArray, List.getElem_cons_succ, List.getElem_cons_zero, Act.put, List.setIfInBounds_toArray, List.set_cons_zero, List.set_cons_succ]
        refine wpAnyH_done (by kernel_rfl) ?_ _
        go_wp2
        go_ret
        exact ⟨rfl, HB.out.drew.drew⟩
    · obtain rfl : i = n := by omega
      have hii : decide ((i : Int) < (i : Int)) = false := by simp
      go_wp2
      go_ret
      exact ⟨rfl, HB.out⟩
theorem sum_snoc : ∀ {M : List (List Int)} {d : List Nat} {i k : Nat} {r : List Int}, M[i]? = some r → d[i]? = some k → sumC (M.take (i + 1)) (d.take (i + 1)) = sumC (M.take i) (d.take i) + cst r k
  | [], _, _, _, _, h, _ => by simp at h
  | _ :: _, [], _, _, _, _, h => by simp at h
  | row :: rows, b :: d, 0, k, r, h1, h2 => by
    simp at h1 h2
    subst h1 h2
    simp [sumC]
  | row :: rows, b :: d, i + 1, k, r, h1, h2 => by
    have ih := sum_snoc (M := rows) (d := d) (by simpa using h1) (by simpa using h2)
    show cst row b + sumC (rows.take (i + 1)) (d.take (i + 1)) = cst row b + sumC (rows.take i) (d.take i) + cst r k
    rw [ih]; omega
theorem sum_bd : ∀ (M : List (List Int)) (d : List Nat), (∀ r ∈ M, ∀ x ∈ r, 0 ≤ x ∧ x ≤ 49) → 0 ≤ sumC M d ∧ sumC M d ≤ 49 * M.length
  | [], [], _ => by simp [sumC]
  | [], _ :: _, _ => by simp [sumC]
  | _ :: _, [], _ => by simp [sumC]; omega
  | row :: rows, k :: d, h => by
    have ih := sum_bd rows d (fun r hr => h r (List.mem_cons_of_mem _ hr))
    have hc : 0 ≤ cst row k ∧ cst row k ≤ 49 := by
      rcases Nat.lt_or_ge k row.length with hk | hk
      · exact h row (List.mem_cons_self ..) _ (cst_mem hk)
      · unfold cst; rw [List.getElem?_eq_none hk]; simp
    show 0 ≤ cst row k + sumC rows d ∧ cst row k + sumC rows d ≤ 49 * ((rows.length + 1 : Nat) : Int)
    omega
/-- Which columns have come. -/
def memB (L : List Nat) (N : Nat) : List Value := (List.range N).map fun v => Value.bool (decide (v ∈ L))
theorem memB_at (L : List Nat) {N v : Nat} (h : v < N) : (memB L N)[v]? = some (Value.bool (decide (v ∈ L))) := by
  unfold memB
  rw [List.getElem?_map, List.getElem?_range h]
  rfl
theorem memB_set (L : List Nat) (N v : Nat) : (memB L N).set v (Value.bool true) = memB (L ++ [v]) N := by
  apply List.ext_getElem
  · simp [memB]
  · intro i h1 h2
    simp only [memB, List.getElem_set, List.getElem_map, List.getElem_range, List.mem_append, List.mem_singleton]
    by_cases h : v = i
    · subst h; simp
    · rw [if_neg h]; congr 2; simp only [eq_iff_iff]; constructor
      · exact .inl
      · rintro (h2 | h2); exact h2; exact absurd h2.symm h
theorem infoB9 : (Try.prog.info? 4).map (fun i => (i.zero, i.size, i.bytes)) = some (some (.bool false), 1, 1) := by kernel_rfl
theorem make_bools9 (n : Nat) (hn : n ≤ 1000) (w : World) : (Instr.makeSlice 30 (.int .i64 (n : Int)) (.int .i64 (n : Int))).run Try.prog w = .ok (.slice (some ⟨w.heap.size, 0, none⟩) n n) (w.alloc (.cells (madeCells #[.bool false] n) 4)) := by
  obtain ⟨i, hi, hz, hs, hb⟩ := info_parts infoB9
  have hr := run_make (P := Try.prog) w 30 4 i (.bool false) Try.underlying30 hi hz .i64 .i64 n n (by omega) (by omega) (by rw [hb]; omega) (by omega)
  simpa [hs, Value.cells] using hr
theorem memB_nil (w : World) (T : TypeId) (N : Nat) : Go.Proofs.Ytimffjonhoplpaa.Own T (w.alloc (.cells (madeCells #[.bool false] N) T)) w.heap.size (memB [] N) := by
  unfold Go.Proofs.Ytimffjonhoplpaa.Own
  rw [heap_alloc_new]
  congr 2
  apply Array.ext'
  rw [toList_madeCells_one, List.toList_toArray]
  apply List.ext_getElem
  · simp [memB]
  · intro i h1 h2
    simp [memB]
end Go.Proofs.Ytimffjonhoplpaa
