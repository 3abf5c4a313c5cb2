/- Package store's face: Trace, Names. -/
import Derived.Test.YtgkgkekgmcldmaaSt8
import Derived.Test.YtgkgkekgmcldmaaStIter
namespace Go.Proofs.Ytgkgkekgmcldmaa
open Go.RowKit
def nmCells (fs : Fs) : List Value := fs.map fun p => .string (str p.1)
theorem nm_enc (fs : Fs) : (fs.map (·.1)).map encStr = nmCells fs := by
  unfold nmCells
  rw [List.map_map]
  rfl
/-! ### The trace -/
theorem append_ops (w : World) (g n c : Nat) (l : List (Int × Nm)) (ho : w.ownsRow 0 48 2 (.slice (some ⟨g, 0, none⟩) n c) l.length (opCells l)) (h0 : 0 < n) (hn : n ≤ 1000000) (hl : l.length = n) :
    ∃ v' w', (Builtin.append_ #[57, 57] 57 #[.slice (some ⟨g, 0, none⟩) 0 0, .slice (some ⟨g, 0, none⟩) n c]).run Try.prog w.drew = .ok v' w' ∧ w'.ownsRow w.heap.size 48 2 v' n (opCells l) ∧ Below w.heap.size w w' := by
  obtain ⟨i0, hi, hz0, hz1, hz2⟩ := info_parts infoOp
  obtain ⟨A, c', hv, _, _, hg⟩ := own_form ho
  injection hv with e1 e2 e3
  obtain ⟨g', e4, _, hcell⟩ := hg (by omega)
  rw [← e1] at e4
  injection e4 with e4
  injection e4 with e4
  subst e4
  have hr := run_append_grow (P := Try.prog) w.drew 57 57 48 i0 _ Try.underlying57 hi hz0 ⟨g, 0, none⟩ 0 0 [] (by simp) (by simp) ⟨g, 0, none⟩ n c (opCells l) (by rw [opCells_len, hz1]; omega) (fun j u hu => by rw [add0]; exact hcell j u hu)
    (by omega) (by omega) (growslice_fits (by omega) (by rw [hz2]; omega))
  simp only [Nat.zero_add, Array.empty_append] at hr
  refine ⟨_, _, hr, ⟨by rw [opCells_len]; omega, .inr ⟨w.heap.size, _, _, rfl, Nat.le_refl _, heap_alloc_new _ _, grownCap_ge _ _ _ _, grownCap_le_maxLen _ _ _ _ (by simp [maxLen]; omega), ?_, ?_⟩⟩, ⟨rfl, rfl, rfl, by simp, fun k hk => ?_⟩⟩
  · have := grownCap_ge w.drew n 0 48
    simp [opCells_len, size_zeroCells, Value.cells, hl]
    omega
  · have e : n * 2 = (opCells l).length := by rw [opCells_len]; omega
    simp [e]
  · exact Below.heap_alloc _ _ _ (by simpa using hk)
set_option maxRecDepth 100000 in
set_option maxHeartbeats 1000000 in
theorem firstO_any (w : World) (v : Value) (l : List (Int × Nm)) (ho : w.ownsRow 0 48 2 v l.length (opCells l)) (hn : l.length ≤ 1000000) :
    Calls Try.prog 50 #[v, .int .i64 l.length] w fun e w' => ∃ v, e = .returned v ∧ w'.ownsRow w.heap.size 48 2 v l.length (opCells l) ∧ Below w.heap.size w w' := by
  rcases own_form0 ho with ⟨rfl, h0⟩ | ⟨g, c, rfl, hnc, hc, _⟩
  · have e : l = [] := List.eq_nil_of_length_eq_zero h0
    subst e
    clear ho h0 hn
    go_enter Try.func50, Try.ntmps50
    go_wp2
    go_ret
    exact ⟨_, rfl, World.ownsRow_nil _ _ _ _, Below.refl _ _⟩
  · by_cases h0 : l.length = 0
    · have e : l = [] := List.eq_nil_of_length_eq_zero h0
      subst e
      clear ho h0 hn hnc hc
      go_enter Try.func50, Try.ntmps50
      go_wp2
      go_ret
      exact ⟨_, rfl, World.ownsRow_nil _ _ _ _, Below.refl _ _⟩
    · obtain ⟨v', w', hrun, hr, hb⟩ := append_ops w g l.length c l ho (by omega) hn rfl
      have s8 := slice00 Try.underlying57 2 Try.sizeOf48 ⟨g, 0, none⟩ l.length c
      have s11 := slice0n Try.underlying57 2 Try.sizeOf48 ⟨g, 0, none⟩ l.length c l.length hnc
      have hne : ((l.length : Int) == 0) = false := by simp; intro e; subst e; simp at h0
      have Hrun := Lib.hid hrun
      have Hr := Lib.hid hr
      have Hb := Lib.hid hb
      generalize l.length = n at *
      clear ho hrun hr hb h0 hnc hc hn
      go_enter Try.func50, Try.ntmps50
      go_wp2_with fail
      clear hne
      go_still_tail 5, (by kernel_rfl)
      clear s8 s11
      go_wp2_with (at_builtin; have _t := Hrun; refine wpList_append_eq rfl (.tmp 8) (.tmp 11) 57 rfl _ _ _ _ rfl rfl Hrun.out ?_; clear _t Hrun)
      go_ret
      exact ⟨_, rfl, Hr.out, Hb.out⟩
set_option maxHeartbeats 1000000 in
theorem sTrace_any {w : World} {p c : Nat} {σ : St} {M A : Nat → Prop} (h : StoreAt w p σ c M A) (hc : c ≤ 1000000) :
    Calls Try.prog 22 #[.pointer (some ⟨p, 0, none⟩)] w fun e w' => ∃ v, e = .returned v ∧ w'.ownsRow w.heap.size 48 2 v σ.ops.length (opCells σ.ops) ∧ Below w.heap.size w w' := by
  obtain ⟨mv, dv, h⟩ := h
  have c3 := h.blk.cell (i := 3) rfl
  have hl := h.ok.ops
  have Hf := Lib.hid (firstO_any w dv σ.ops h.ops (by omega))
  obtain ⟨P1, c1, e1⟩ : ∃ P1 c1, dv = .slice P1 σ.ops.length c1 := by
    obtain ⟨P, c, hv, _⟩ := own_form h.ops
    exact ⟨P, c, hv⟩
  subst e1
  have Hall : Hid (Calls Try.prog 43 #[.slice P1 σ.ops.length c1] w fun e w' => ∃ v, e = .returned v ∧ w'.ownsRow w.heap.size 48 2 v σ.ops.length (opCells σ.ops) ∧ Below w.heap.size w w') := by
    apply Lib.hid
    generalize σ.ops.length = n at *
    clear c3 h
    go_enter Try.func43, Try.ntmps43
    go_wp2_with fail
    refine Hf.out.mono ?_
    rintro e w1 ⟨v1, rfl, h1, h2⟩
    have H1 := Lib.hid h1
    have H2 := Lib.hid h2
    clear h1 h2
    go_wp2
    go_ret
    exact ⟨_, rfl, H1.out, H2.out⟩
  clear h Hf hl
  go_enter Try.func22, Try.ntmps22
  go_wp2_with fail
  refine Hall.out.mono ?_
  rintro e w1 ⟨v1, rfl, h1, h2⟩
  have H1 := Lib.hid h1
  have H2 := Lib.hid h2
  clear h1 h2
  go_wp2
  go_ret
  exact ⟨_, rfl, H1.out, H2.out⟩
/-! ### Names -/
set_option maxHeartbeats 2000000 in
theorem sNames_any {w : World} {p c : Nat} {σ : St} {M A : Nat → Prop} (h : StoreAt w p σ c M A) (hc : c ≤ 1000000) :
    Calls Try.prog 23 #[.pointer (some ⟨p, 0, none⟩)] w fun e w' => ∃ v, e = .returned v ∧ w'.ownsRow w.heap.size 9 1 v σ.fs.length (nmCells σ.fs) ∧ Below w.heap.size w w' := by
  obtain ⟨mv, dv, h⟩ := h
  have q1 := h.blk.cell (i := 1) rfl
  rcases h.map with ⟨e, hfs⟩ | ⟨b, D, k, e, h1, h2, h3, h4⟩
  · subst e
    have Hfs := Lib.hid hfs
    clear h hfs
    refine (callsIn_wide (n := 6)).1 ?_
    have hfK : Fence.wide.fn 45 := trivial
    have hfS : Fence.wide.fn 44 := trivial
    refine callsIn_of_wp Try.func23 rfl trivial ?_ rfl
    simp only [Try.ntmps23, List.size_toArray, List.length_cons, List.length_nil, Nat.reduceAdd, Nat.reduceSub, Array.replicate_succ, Array.replicate_zero, List.push_toArray, List.append_toArray, List.nil_append, List.cons_append]
    gi_wp2_with (first
      | (gi_at_call 45; refine (keys_any _ _).mono ?_; rintro e w' ⟨rfl, rfl⟩)
      | (gi_at_call 44; refine (sorted_keys_nil w).mono ?_; rintro e w' ⟨v, ss, rfl, hS, hrow, hnil, hb⟩))
    go_ret
    subst hS
    rw [Hfs.out]
    have hrow' : w'.ownsRow (w.heap.size + 1) 9 1 v 0 [] := by simpa using hrow
    exact ⟨v, rfl, own_mono hrow' (by omega), ((Below.refl _ w).alloc (Nat.le_refl _) _).trans (hb.mono (by simp))⟩
  · subst e
    have hr := h.ok.rising
    have hsz := h1.size_le
    have heq : ∀ ss : List Nm, ss.Perm (strKeys D) → ss.mergeSort (fun x y => decide (x ≤ y)) = σ.fs.map (·.1) := fun ss hs => names_eq h1 h3 hr hs
    have Heq := Lib.hid heq
    have H1 := Lib.hid h1
    have hmax : Maps.size D ≤ maxLen := by simp [maxLen]; omega
    have hby : Maps.size D * 16 ≤ 140737488355328 := by omega
    have Hmax := Lib.hid hmax
    have Hby := Lib.hid hby
    clear h h1 h2 h3 h4 hr hsz heq hmax hby
    refine (callsIn_wide (n := 6)).1 ?_
    have hfK : Fence.wide.fn 45 := trivial
    have hfS : Fence.wide.fn 44 := trivial
    refine callsIn_of_wp Try.func23 rfl trivial ?_ rfl
    simp only [Try.ntmps23, List.size_toArray, List.length_cons, List.length_nil, Nat.reduceAdd, Nat.reduceSub, Array.replicate_succ, Array.replicate_zero, List.push_toArray, List.append_toArray, List.nil_append, List.cons_append]
    gi_wp2_with (first
      | (gi_at_call 45; refine (keys_any _ _).mono ?_; rintro e w' ⟨rfl, rfl⟩)
      | (gi_at_call 44; refine (sorted_keys b k D RV w H1.out Hmax.out Hby.out).mono ?_; rintro e w' ⟨v, ss, rfl, hS, hrow, hnil, hb⟩))
    go_ret
    rw [Heq.out ss hS, nm_enc] at hrow
    have hlen : ss.length = σ.fs.length := by
      have := congrArg List.length (Heq.out ss hS)
      simpa using this
    rw [hlen] at hrow
    exact ⟨v, rfl, own_mono hrow (by simp), ((Below.refl _ w).alloc (Nat.le_refl _) _).trans (hb.mono (by simp))⟩
end Go.Proofs.Ytgkgkekgmcldmaa
