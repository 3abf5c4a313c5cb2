/- Package sorts: Right. -/
import Derived.Test.YtjllmladhjbnaaaGreatDoorSoA
import Derived.Test.YtjllmladhjbnaaaGreatDoorRegion
import Derived.Test.YtjllmladhjbnaaaGreatDoorRegP
namespace Go.Proofs.YtjllmladhjbnaaaGreatDoor
open Go.RowKit Go.Shelf
attribute [local go_sem] Oper.semAt_some
/-- A block of bools. -/
def BArr (w : World) (g : Nat) (bs : List Bool) : Prop := Own 4 w g (bs.map Value.bool)
theorem BArr.cell {w : World} {g : Nat} {bs : List Bool} (h : BArr w g bs) {i : Nat} {b : Bool} (hb : bs[i]? = some b) : w.cell? ⟨g, i, none⟩ = some (.bool b) := Own.cell h (by rw [List.getElem?_map, hb]; rfl)
theorem BArr.set_ {w : World} {g : Nat} {bs : List Bool} (h : BArr w g bs) (i : Nat) (b : Bool) : BArr (w.setCell ⟨g, i, none⟩ (.bool b)) g (bs.set i b) := by
  have := Own.set_ h i (.bool b)
  rwa [← List.map_set] at this
/-- Which parents are scanned, of the first edges. -/
def scT (es : List Ed) (N k : Nat) : List Bool := (List.range N).map fun (p : Nat) => (es.take k).any fun x => x.sc && x.p == (p : Int)
theorem scT_at (es : List Ed) {N k p : Nat} (h : p < N) : (scT es N k)[p]? = some ((es.take k).any fun x => x.sc && x.p == (p : Int)) := by
  unfold scT
  rw [List.getElem?_map, List.getElem?_range h]; rfl
theorem scT_len (es : List Ed) (N k : Nat) : (scT es N k).length = N := by simp [scT]
theorem scT_set {es : List Ed} {N k p : Nat} {e : Ed} (he : es[k]? = some e) (hp : e.p = (p : Int)) : (scT es N k).set p (((es.take k).any fun x => x.sc && x.p == (p : Int)) || e.sc) = scT es N (k + 1) := by
  apply List.ext_getElem?
  intro i
  by_cases hi : i < N
  · rw [scT_at es hi, List.take_add_one, he]
    by_cases hip : p = i
    · subst hip
      rw [List.getElem?_set_self (by rw [scT_len]; exact hi)]
      simp [hp]
    · rw [List.getElem?_set_ne hip, scT_at es hi]
      have : ¬ e.p = (i : Int) := by omega
      simp [this]
  · rw [List.getElem?_eq_none (by simp [scT]; omega), List.getElem?_eq_none (by simp [scT]; omega)]
theorem scT_zero (es : List Ed) (N : Nat) {d : Nat} (h : es[0]? = some (topE d)) : scT es N 1 = List.replicate N false := by
  rw [List.eq_replicate_iff]
  refine ⟨scT_len _ _ _, fun b hb => ?_⟩
  obtain ⟨p, -, rfl⟩ := List.mem_map.1 hb
  rw [List.take_add_one, h]
  simp [topE]
theorem infoB : (Tryz.prog.info? 4).map (fun i => (i.zero, i.size, i.bytes)) = some (some (.bool false), 1, 1) := by kernel_rfl
theorem make_bools (N : Nat) (hN : N ≤ 1000) (w : World) : (Instr.makeSlice 57 (.int .i64 (N : Int)) (.int .i64 (N : Int))).run Tryz.prog w = .ok (.slice (some ⟨w.heap.size, 0, none⟩) N N) (w.alloc (.cells (madeCells #[.bool false] N) 4)) := by
  obtain ⟨i, hi, hz, hs, hb⟩ := info_parts infoB
  have hr := run_make (P := Tryz.prog) w 57 4 i (.bool false) Tryz.underlying57 hi hz .i64 .i64 N N (by omega) (by omega) (by rw [hb]; omega) (by omega)
  simpa [hs, Value.cells] using hr
set_option maxRecDepth 100000 in
set_option maxHeartbeats 1000000 in
theorem newB_any (d : Nat) (w : World) (h1 : 1 ≤ d) (h4 : d ≤ 4) (hT : Tab w) (hw1 : 1 < w.heap.size) :
    Calls Tryz.prog 25 #[.int .i64 d] w fun e w' => ∃ g, e = .returned (.slice (some ⟨g, 0, none⟩) (2 ^ d) (2 ^ d)) ∧ BArr w' g (List.replicate (2 ^ d) false) ∧ w.heap.size ≤ g ∧ Below w.heap.size w w' := by
  have HS := Lib.hid (sets_any d w h1 h4 hT hw1)
  obtain ⟨N, hN⟩ : ∃ N, N = 2 ^ d := ⟨_, rfl⟩
  have n16 := pow_16 d h4
  rw [← hN] at HS n16 ⊢
  have hmk := fun W => make_bools N (by omega) W
  clear hN hT
  go_enter Tryz.func25, Tryz.ntmps25
  go_wp2_with fail
  refine HS.out.mono ?_
  rintro e w1 ⟨g, rfl, -, hb1, -⟩
  have HB1 := Lib.hid hb1
  have hz := hb1.size
  have hk := hmk w1
  clear hb1 hmk
  go_wp2
  go_ret
  refine ⟨w1.heap.size, rfl, ?_, hz, HB1.out.alloc hz _⟩
  unfold BArr Own
  rw [heap_alloc_new]
  congr 2
  apply Array.ext'
  rw [toList_madeCells_one]
  simp
theorem plan_false {es : List Ed} {d k : Nat} (hk : k < es.length) (h : okAt d es k = false) : planB es d = false := by
  unfold planB
  rw [okTo_false h hk, Bool.and_false]
set_option maxRecDepth 100000 in
set_option maxHeartbeats 8000000 in
theorem right_any (A : Option Addr) (n c d : Nat) (es : List Ed) (w : World) (hE : Edgs w A n es) (hnc : n ≤ c) (hn : n ≤ 1000) (h1 : 1 ≤ d) (h4 : d ≤ 4) (hT : Tab w) (hw1 : 1 < w.heap.size) :
    Calls Tryz.prog 11 #[.slice A n c, .int .i64 d] w fun e w' => e = .returned (.bool (planB es d)) ∧ Below w.heap.size w w' := by
  have HS := Lib.hid (sets_any d w h1 h4 hT hw1)
  have hsl := setsL_len d h1 h4
  obtain ⟨N, hN⟩ : ∃ N, N = 2 ^ d := ⟨_, rfl⟩
  have n16 := pow_16 d h4
  rw [← hN] at HS n16 hsl
  have HNN := Lib.hid hN
  have HE := Lib.hid hE
  have HT := Lib.hid hT
  have hel := hE.1
  have N1 : (1 : Int) ≤ (N : Int) := by omega
  have hN0 : ((N : Int) == 0) = false := by simp; omega
  clear hN hT hE
  by_cases hnN : n = N
  · subst hnN
    have dnn : ((n : Int) != (n : Int)) = false := by simp
    have n0 : 0 < n := by omega
    have n0z : (0 : Int) < (n : Int) := by omega
    obtain ⟨g0, o0, rfl, hcs⟩ := HE.out.2.2 (by omega)
    obtain ⟨e0, he0⟩ : ∃ e, es[0]? = some e := ⟨_, List.getElem?_eq_getElem (by omega)⟩
    obtain ⟨x0, x1, x2⟩ := hcs 0 e0 he0
    rw [Nat.zero_mul, Nat.add_zero] at x0 x1 x2
    have hs0 := sets_head d h1 h4
    have h0 := okAt_spec he0 hs0
    rw [if_pos rfl] at h0
    obtain ⟨b0, hb0⟩ : ∃ b, b = okAt d es 0 := ⟨_, rfl⟩
    rw [← hb0] at h0
    have hif : ∀ W : World, (if e0.s = fullB d then (if e0.p = -1 then (if e0.sc = true then (Result.ok (Next.value (Value.bool true)) W : Result Next) else Result.ok (Next.value (Value.bool false)) W) else Result.ok (Next.value (Value.bool true)) W) else Result.ok (Next.value (Value.bool true)) W) = Result.ok (Next.value (Value.bool (!b0))) W := fun W => by
      rw [h0]
      by_cases q1 : e0.s = fullB d
      · by_cases q2 : e0.p = -1
        · cases q3 : e0.sc <;> simp [q1, q2]
        · simp [q1, q2]
      · simp [q1]
    have HE0 := Lib.hid he0
    have HH0 := Lib.hid h0
    have HB0 := Lib.hid hb0
    clear hcs he0 h0 hb0
    go_enter Tryz.func11, Tryz.ntmps11
    go_wp2_with fail
    refine HS.out.mono ?_
    rintro e w1 ⟨gs, rfl, hns, hb1, -⟩
    have HB1 := Lib.hid hb1
    have k1 := Keeps.of_below hb1
    have y0 := k1 _ _ x0
    have y1 := k1 _ _ x1
    have y2 := k1 _ _ x2
    obtain ⟨ad, s0, e1, hs, -, hcs0⟩ := hns.at_ (k := 0) (by omega)
    injection e1 with e1
    subst e1
    rw [hs0] at hs
    injection hs with hs
    subst hs
    rw [add0] at hcs0
    have HNS := Lib.hid hns
    have hz1 := hb1.size
    clear hb1 k1 x0 x1 x2 hns hs0
    go_wp2_with fail
    refine wp_region_held_drew (S := fun W => W.cell? ⟨g0, o0, none⟩ = some (.int .i64 e0.s) ∧ W.cell? ⟨g0, o0 + 1, none⟩ = some (.int .i64 e0.p) ∧ W.cell? ⟨g0, o0 + 2, none⟩ = some (.bool e0.sc) ∧ W.cell? ⟨gs, 0, none⟩ = some (.int .i64 (fullB d))) (by kernel_rfl) ⟨y0, y1, y2, hcs0⟩ (fun hHeld => ?_)
    refine wpAnyH_take (i := 0) (v := ?va0) rfl (by kernel_rfl) (by kernel_rfl) (by kernel_rfl) (fun _ _ _ h => h) (Or.inl ⟨by rfl, ?ya0⟩) hHeld ?ra0
    case ya0 => (intro W hW; obtain ⟨hW0, hW1, hW2, hW3⟩ := hW; go_simp; first | done | with_reducible rfl)
    try simp only [List.getElem_toArray, List.getElem_cons_zero, Act.put, List.setIfInBounds_toArray, List.set_cons_zero, List.set_cons_succ]
    refine wpAnyH_take (i := 1) (v := ?va1) rfl (by kernel_rfl) (by kernel_rfl) (by kernel_rfl) (fun _ _ _ h => h) (Or.inl ⟨by rfl, ?ya1⟩) hHeld ?ra1
    case ya1 => (intro W hW; obtain ⟨hW0, hW1, hW2, hW3⟩ := hW; go_simp; first | done | with_reducible rfl)
    try simp only [List.getElem_toArray, List.getElem_cons_succ, List.getElem_cons_zero, Act.put, List.setIfInBounds_toArray, List.set_cons_zero, List.set_cons_succ]
    refine wpAnyH_take (i := 2) (v := ?va2) rfl (by kernel_rfl) (by kernel_rfl) (by kernel_rfl) (fun _ _ _ h => h) (Or.inl ⟨by rfl, ?ya2⟩) hHeld ?ra2
    case ya2 => (intro W hW; obtain ⟨hW0, hW1, hW2, hW3⟩ := hW; go_simp; first | done | with_reducible rfl)
    try simp only [List.getElem_toArray, List.getElem_cons_succ, List.getElem_cons_zero, Act.put, List.setIfInBounds_toArray, List.set_cons_zero, List.set_cons_succ]
    refine wpAnyH_take (i := 3) (v := ?va3) rfl (by kernel_rfl) (by kernel_rfl) (by kernel_rfl) (fun _ _ _ h => h) (Or.inl ⟨by rfl, ?ya3⟩) hHeld ?ra3
    case ya3 => (intro W hW; obtain ⟨hW0, hW1, hW2, hW3⟩ := hW; go_simp; first | done | with_reducible rfl)
    try simp only [List.getElem_toArray, List.getElem_cons_succ, List.getElem_cons_zero, Act.put, List.setIfInBounds_toArray, List.set_cons_zero, List.set_cons_succ]
    refine wpAnyH_take (i := 4) (v := ?va4) rfl (by kernel_rfl) (by kernel_rfl) (by kernel_rfl) (fun _ _ _ h => h) (Or.inl ⟨by rfl, ?ya4⟩) hHeld ?ra4
    case ya4 => (intro W hW; obtain ⟨hW0, hW1, hW2, hW3⟩ := hW; go_simp; first | done | with_reducible rfl)
    try simp only [List.getElem_toArray, List.getElem_cons_succ, List.getElem_cons_zero, Act.put, List.setIfInBounds_toArray, List.set_cons_zero, List.set_cons_succ]
    refine wpAnyH_take (i := 5) (v := ?va5) rfl (by kernel_rfl) (by kernel_rfl) (by kernel_rfl) (fun _ _ _ h => h) (Or.inl ⟨by rfl, ?ya5⟩) hHeld ?ra5
    case ya5 => (intro W hW; obtain ⟨hW0, hW1, hW2, hW3⟩ := hW; go_simp; first | done | with_reducible rfl)
    try simp only [List.getElem_toArray, List.getElem_cons_succ, List.getElem_cons_zero, Act.put, List.setIfInBounds_toArray, List.set_cons_zero, List.set_cons_succ]
    refine wpAnyH_take (i := 6) (v := ?va6) rfl (by kernel_rfl) (by kernel_rfl) (by kernel_rfl) (fun _ _ _ h => h) (Or.inl ⟨by rfl, ?ya6⟩) hHeld ?ra6
    case ya6 => (intro W hW; obtain ⟨hW0, hW1, hW2, hW3⟩ := hW; go_simp; first | done | with_reducible rfl)
    try simp only [List.getElem_toArray, List.getElem_cons_succ, List.getElem_cons_zero, Act.put, List.setIfInBounds_toArray, List.set_cons_zero, List.set_cons_succ]
    refine wpAnyH_take (i := 7) (v := ?va7) rfl (by kernel_rfl) (by kernel_rfl) (by kernel_rfl) (fun _ _ _ h => h) (Or.inl ⟨by rfl, ?ya7⟩) hHeld ?ra7
    case ya7 => (intro W hW; obtain ⟨hW0, hW1, hW2, hW3⟩ := hW; go_simp; first | done | with_reducible rfl)
    try simp only [List.getElem_toArray, List.getElem_cons_succ, List.getElem_cons_zero, Act.put, List.setIfInBounds_toArray, List.set_cons_zero, List.set_cons_succ]
    refine wpAnyH_take (i := 8) (v := ?va8) rfl (by kernel_rfl) (by kernel_rfl) (by kernel_rfl) (fun _ _ _ h => h) (Or.inl ⟨by rfl, ?ya8⟩) hHeld ?ra8
    case ya8 => (intro W hW; obtain ⟨hW0, hW1, hW2, hW3⟩ := hW; go_simp; first | done | with_reducible rfl)
    try simp only [List.getElem_toArray, List.getElem_cons_succ, List.getElem_cons_zero, Act.put, List.setIfInBounds_toArray, List.set_cons_zero, List.set_cons_succ]
    refine wpAnyH_take (i := 9) (v := ?va9) rfl (by kernel_rfl) (by kernel_rfl) (by kernel_rfl) (fun _ _ _ h => h) (Or.inl ⟨by rfl, ?ya9⟩) hHeld ?ra9
    case ya9 => (intro W hW; obtain ⟨hW0, hW1, hW2, hW3⟩ := hW; go_simp; first | done | with_reducible rfl)
    try simp only [List.getElem_toArray, List.getElem_cons_succ, List.getElem_cons_zero, Act.put, List.setIfInBounds_toArray, List.set_cons_zero, List.set_cons_succ]
    refine wpAnyH_take (i := 10) (v := ?va10) rfl (by kernel_rfl) (by kernel_rfl) (by kernel_rfl) (fun _ _ _ h => h) (Or.inl ⟨by rfl, ?ya10⟩) hHeld ?ra10
    case ya10 => (intro W hW; obtain ⟨hW0, hW1, hW2, hW3⟩ := hW; go_simp; first | done | with_reducible rfl)
    try simp only [List.getElem_toArray, List.getElem_cons_succ, List.getElem_cons_zero, Act.put, List.setIfInBounds_toArray, List.set_cons_zero, List.set_cons_succ]
    refine wpAnyH_take (i := 11) (v := ?va11) rfl (by kernel_rfl) (by kernel_rfl) (by kernel_rfl) (fun _ _ _ h => h) (Or.inl ⟨by rfl, ?ya11⟩) hHeld ?ra11
    case ya11 => (intro W hW; obtain ⟨hW0, hW1, hW2, hW3⟩ := hW; go_simp; first | done | with_reducible rfl)
    try simp only [List.getElem_toArray, List.getElem_cons_succ, List.getElem_cons_zero, Act.put, List.setIfInBounds_toArray, List.set_cons_zero, List.set_cons_succ]
    refine wpAnyH_take (i := 12) (v := ?va12) rfl (by kernel_rfl) (by kernel_rfl) (by kernel_rfl) (fun _ _ _ h => h) (Or.inl ⟨by rfl, ?ya12⟩) hHeld ?ra12
    case ya12 => (intro W hW; obtain ⟨hW0, hW1, hW2, hW3⟩ := hW; go_simp; first | done | with_reducible rfl)
    try simp only [List.getElem_toArray, List.getElem_cons_succ, List.getElem_cons_zero, Act.put, List.setIfInBounds_toArray, List.set_cons_zero, List.set_cons_succ]
    refine wpAnyH_take (i := 13) (v := ?va13) rfl (by kernel_rfl) (by kernel_rfl) (by kernel_rfl) (fun _ _ _ h => h) (Or.inl ⟨by rfl, ?ya13⟩) hHeld ?ra13
    case ya13 => (intro W hW; obtain ⟨hW0, hW1, hW2, hW3⟩ := hW; go_simp; first | done | with_reducible rfl)
    try simp only [List.getElem_toArray, List.getElem_cons_succ, List.getElem_cons_zero, Act.put, List.setIfInBounds_toArray, List.set_cons_zero, List.set_cons_succ]
    refine wpAnyH_take (i := 14) (v := ?va14) rfl (by kernel_rfl) (by kernel_rfl) (by kernel_rfl) (fun _ _ _ h => h) (Or.inl ⟨by rfl, ?ya14⟩) hHeld ?ra14
    case ya14 => (intro W hW; obtain ⟨hW0, hW1, hW2, hW3⟩ := hW; go_simp; first | done | with_reducible rfl)
    try simp only [List.getElem_toArray, List.getElem_cons_succ, List.getElem_cons_zero, Act.put, List.setIfInBounds_toArray, List.set_cons_zero, List.set_cons_succ]
    refine wpAnyH_take (i := 15) (v := ?va15) rfl (by kernel_rfl) (by kernel_rfl) (by kernel_rfl) (fun _ _ _ h => h) (Or.inl ⟨by rfl, ?ya15⟩) hHeld ?ra15
    case ya15 => (intro W hW; obtain ⟨hW0, hW1, hW2, hW3⟩ := hW; go_simp; first | done | with_reducible rfl)
    try simp only [List.getElem_toArray, List.getElem_cons_succ, List.getElem_cons_zero, Act.put, List.setIfInBounds_toArray, List.set_cons_zero, List.set_cons_succ]
    refine wpAnyH_take (i := 16) (v := ?va16) rfl (by kernel_rfl) (by kernel_rfl) (by kernel_rfl) (fun _ _ _ h => h) (Or.inl ⟨by rfl, ?ya16⟩) hHeld ?ra16
    case ya16 => (intro W hW; obtain ⟨hW0, hW1, hW2, hW3⟩ := hW; go_simp; first | done | with_reducible rfl)
    try simp only [List.getElem_toArray, List.getElem_cons_succ, List.getElem_cons_zero, Act.put, List.setIfInBounds_toArray, List.set_cons_zero, List.set_cons_succ]
    refine wpAnyH_take (i := 17) (v := ?va17) rfl (by kernel_rfl) (by kernel_rfl) (by kernel_rfl) (fun _ _ _ h => h) (Or.inl ⟨by rfl, ?ya17⟩) hHeld ?ra17
    case ya17 => (intro W hW; obtain ⟨hW0, hW1, hW2, hW3⟩ := hW; go_simp; first | done | with_reducible rfl)
    try simp only [List.getElem_toArray, List.getElem_cons_succ, List.getElem_cons_zero, Act.put, List.setIfInBounds_toArray, List.set_cons_zero, List.set_cons_succ]
    refine wpAnyH_take (i := 18) (v := ?va18) rfl (by kernel_rfl) (by kernel_rfl) (by kernel_rfl) (fun _ _ _ h => h) (Or.inl ⟨by rfl, ?ya18⟩) hHeld ?ra18
    case ya18 => (intro W hW; obtain ⟨hW0, hW1, hW2, hW3⟩ := hW; go_simp; first | done | with_reducible rfl)
    try simp only [List.getElem_toArray, List.getElem_cons_succ, List.getElem_cons_zero, Act.put, List.setIfInBounds_toArray, List.set_cons_zero, List.set_cons_succ]
    refine wpAnyH_take (i := 19) (v := ?va19) rfl (by kernel_rfl) (by kernel_rfl) (by kernel_rfl) (fun _ _ _ h => h) (Or.inl ⟨by rfl, ?ya19⟩) hHeld ?ra19
    case ya19 => (intro W hW; obtain ⟨hW0, hW1, hW2, hW3⟩ := hW; go_simp; first | done | with_reducible rfl)
    try simp only [List.getElem_toArray, List.getElem_cons_succ, List.getElem_cons_zero, Act.put, List.setIfInBounds_toArray, List.set_cons_zero, List.set_cons_succ]
    refine wpAnyH_done (by kernel_rfl) ?_ _
    clear hHeld
    cases hb0 : b0 with
    | false =>
      have hpf := plan_false (d := d) (es := es) (k := 0) (by omega) (by rw [← HB0.out]; exact hb0)
      have HPF := Lib.hid hpf
      have hbd := HB1.out.drew
      have HBD := Lib.hid hbd
      clear hpf hbd hb0
      simp only [Bool.not_false]
      go_wp2
      go_ret
      exact ⟨by rw [HPF.out]; rfl, HBD.out⟩
    | true =>
      have h0 := HH0.out
      rw [hb0] at h0
      have ht0 : e0 = topE d := by
        obtain ⟨a, b, c'⟩ := e0
        simp only [Bool.true_eq, Bool.and_eq_true, decide_eq_true_eq, Bool.not_eq_true'] at h0
        rw [topE, h0.1, h0.2.1, h0.2.2]
      have hez : es[0]? = some (topE d) := by rw [← ht0]; exact HE0.out
      have hok1 : okTo d es 1 = true := by
        rw [okTo_succ, ← HB0.out, hb0]
        rfl
      have hsc1 := scT_zero es n hez
      have HOK1 := Lib.hid hok1
      have HSC1 := Lib.hid hsc1
      obtain ⟨wA, hwA⟩ : ∃ wA, wA = w1.drew := ⟨_, rfl⟩
      have hbA : Below w1.heap.size w1 wA := by rw [hwA]; exact (Below.refl _ w1).drew
      have HbA := Lib.hid hbA
      have hbwA := HB1.out.trans (hbA.mono hz1)
      have HBA := Lib.hid hbwA
      have HNB := Lib.hid (newB_any d wA h1 h4 (HT.out.below hbwA hw1) (by have := hbwA.size; omega))
      rw [← HNN.out] at HNB
      simp only [Bool.not_true]
      rw [← hwA]
      have hzA := hbwA.size
      have HEA := Lib.hid (HE.out.keep (Keeps.of_below hbwA))
      have HNA := Lib.hid (HNS.out.keep (Keeps.of_below hbA))
      clear hwA hbA h0 ht0 hez hok1 hsc1 hb0 HB0 HH0 HE0 hif hbwA HNS y0 y1 y2 hcs0 HB1
      go_wp2_with fail
      refine HNB.out.mono ?_
      rintro e w2 ⟨gb, rfl, hbt, hgb, hb2⟩
      rw [← HSC1.out] at hbt
      have HBT := Lib.hid hbt
      have HB2 := Lib.hid hb2
      have hz2 := hb2.size
      have n1z : (1 : Int) ≤ (n : Int) := by omega
      have n2 : 2 ≤ n := by
        rw [HNN.out]
        rcases (by omega : d = 1 ∨ d = 2 ∨ d = 3 ∨ d = 4) with rfl | rfl | rfl | rfl <;> decide
      have hc1 : ¬ c = 1 := by omega
      clear hbt hb2
      go_wp2_with fail
      go_loopw [36] (fun i wr => ∃ k : Nat, i = .int .i64 k ∧ k + 1 ≤ n ∧ okTo d es (k + 1) = true ∧ BArr wr gb (scT es n (k + 1)) ∧ Only gb w2 wr) (fun i _ => n - (intOf i).toNat)
      case atStart => exact ⟨0, rfl, by omega, HOK1.out, HBT.out, Only.refl _ _⟩
      case round =>
        obtain ⟨k, rfl, hk, hok, hbt, hon⟩ := hrel
        rename World => wr
        have HOK := Lib.hid hok
        have HBR := Lib.hid hbt
        have HON := Lib.hid hon
        have hzr := hon.size
        have hkp := hon.keeps (w4 := wA) (Keeps.of_below HB2.out) hgb
        have HKP := Lib.hid hkp
        have hbr := (HB2.out.trans (hon.below (B := wA.heap.size) hgb hz2))
        have HBW := Lib.hid (HBA.out.trans (hbr.mono hzA))
        clear hok hbt hon hkp hbr HBT HOK1 HSC1
        have k0 : (0 : Int) ≤ (k : Int) := by omega
        by_cases hkn : k + 1 < n
        · obtain ⟨e, he⟩ : ∃ e, es[k + 1]? = some e := ⟨_, List.getElem?_eq_getElem (by omega)⟩
          have hEr := HEA.out.keep HKP.out
          have heb := hEr.2.1 e (List.mem_of_getElem? he)
          obtain ⟨g', o', e1, hcs⟩ := hEr.2.2 (by omega)
          injection e1 with e1
          injection e1 with e1 e2
          subst e1 e2
          obtain ⟨y0, y1, y2⟩ := hcs (k + 1) e he
          rw [show o0 + (k + 1) * 3 = o0 + 3 + k * 3 by omega] at y0 y1 y2
          obtain ⟨ad, s, e1, hs, -, hcs0⟩ := (HNA.out.keep HKP.out).at_ hkn
          injection e1 with e1
          subst e1
          rw [add0] at hcs0
          have hat := okAt_spec he hs
          rw [if_neg (by omega)] at hat
          obtain ⟨K1, hK1⟩ : ∃ K1, K1 = k + 1 := ⟨_, rfl⟩
          have hkw : IntKind.i64.wrap ((k : Int) + 1) = (K1 : Int) := by rw [IntWalk.i64_in _ (by omega)]; omega
          have kk0 : (0 : Int) ≤ (K1 : Int) := by omega
          have k1 : (K1 : Int) < (n : Int) := by omega
          rw [← hK1] at hcs0
          have HK1 := Lib.hid hK1
          have k2 : (k : Int) < (n : Int) - 1 := by omega
          obtain ⟨wb, hwb⟩ : ∃ wb, wb = wr.alloc (.cells #[.int .i64 e.s, .int .i64 e.p, .bool e.sc] 42) := ⟨_, rfl⟩
          have hbb : Below wr.heap.size wr wb := by rw [hwb]; exact below_box wr _
          have hxb : Bx wb wr.heap.size #[.int .i64 e.s, .int .i64 e.p, .bool e.sc] := by rw [hwb]; exact Bx.new _ _ _
          have b0' : wb.cell? ⟨wr.heap.size, 0, none⟩ = some (.int .i64 e.s) := hxb 0 _ rfl
          have b1' : wb.cell? ⟨wr.heap.size, 1, none⟩ = some (.int .i64 e.p) := hxb 1 _ rfl
          have b2' : wb.cell? ⟨wr.heap.size, 2, none⟩ = some (.bool e.sc) := hxb 2 _ rfl
          have hsb : wb.cell? ⟨gs, K1, none⟩ = some (.int .i64 s) := (Keeps.of_below hbb) _ _ hcs0
          have HWB := Lib.hid hwb
          have HBB := Lib.hid hbb
          have HES := Lib.hid he
          have HSS := Lib.hid hs
          have HAT := Lib.hid hat
          clear hEr hcs he hs hat hcs0 hbb hxb hwb hK1
          by_cases hes : e.s = s
          · have dne : (e.s != s) = false := by simpa using hes
            have hsm := List.mem_of_getElem? HSS.out
            have hsb2 := sets_bd d h1 h4 s hsm
            rw [← hes] at hsb2
            have hbf := HBW.out.trans ((HBB.out.mono HBW.out.size).drew)
            have HBF := Lib.hid hbf
            have HPA := Lib.hid (par_any e.s d wb.drew hsb2.1 hsb2.2 h1 h4 (HT.out.below hbf hw1) (by have := hbf.size; omega))
            have hf15 := fullB_15 d h4
            have HIN := Lib.hid (parL_in e.s d hsb2.1 (by omega))
            have HHE := Lib.hid hes
            have hpl4 : (parL e.s d).length ≤ 1000000 := by unfold parL; rw [List.length_map]; have := dimsL_le (lackI e.s d); omega
            have hgbl : gb < wr.heap.size := Own.lt HBR.out
            clear hes hbf hsm
            go_wp2_with fail
            rw [← HWB.out]
            refine wp_region_held_drew (S := fun W => W.cell? ⟨wr.heap.size, 0, none⟩ = some (.int .i64 e.s) ∧ W.cell? ⟨gs, K1, none⟩ = some (.int .i64 s) ∧ W.cell? ⟨wr.heap.size, 1, none⟩ = some (.int .i64 e.p)) (by kernel_rfl) ⟨b0', hsb, b1'⟩ (fun hHeld => ?_)
            refine wpAnyH_take (i := 0) (v := ?ve0) rfl (by kernel_rfl) (by kernel_rfl) (by kernel_rfl) (fun _ _ _ h => h) (Or.inl ⟨by rfl, ?ye0⟩) hHeld ?re0
            case ye0 => (intro W hW; obtain ⟨hW0, hW1, hW2⟩ := hW; go_simp; first | done | with_reducible rfl)
            try simp only [List.getElem_toArray, List.getElem_cons_zero, Act.put, List.setIfInBounds_toArray, List.set_cons_zero, List.set_cons_succ]
            refine wpAnyH_take (i := 1) (v := ?ve1) rfl (by kernel_rfl) (by kernel_rfl) (by kernel_rfl) (fun _ _ _ h => h) (Or.inl ⟨by rfl, ?ye1⟩) hHeld ?re1
            case ye1 => (intro W hW; obtain ⟨hW0, hW1, hW2⟩ := hW; go_simp; first | done | with_reducible rfl)
            try simp only [List.getElem_toArray, List.getElem_cons_succ, List.getElem_cons_zero, Act.put, List.setIfInBounds_toArray, List.set_cons_zero, List.set_cons_succ]
            refine wpAnyH_take (i := 2) (v := ?ve2) rfl (by kernel_rfl) (by kernel_rfl) (by kernel_rfl) (fun _ _ _ h => h) (Or.inl ⟨by rfl, ?ye2⟩) hHeld ?re2
            case ye2 => (intro W hW; obtain ⟨hW0, hW1, hW2⟩ := hW; go_simp; first | done | with_reducible rfl)
            try simp only [List.getElem_toArray, List.getElem_cons_succ, List.getElem_cons_zero, Act.put, List.setIfInBounds_toArray, List.set_cons_zero, List.set_cons_succ]
            refine wpAnyH_take (i := 3) (v := ?ve3) rfl (by kernel_rfl) (by kernel_rfl) (by kernel_rfl) (fun _ _ _ h => h) (Or.inl ⟨by rfl, ?ye3⟩) hHeld ?re3
            case ye3 => (intro W hW; obtain ⟨hW0, hW1, hW2⟩ := hW; go_simp; first | done | with_reducible rfl)
            try simp only [List.getElem_toArray, List.getElem_cons_succ, List.getElem_cons_zero, Act.put, List.setIfInBounds_toArray, List.set_cons_zero, List.set_cons_succ]
            refine wpAnyH_take (i := 4) (v := ?ve4) rfl (by kernel_rfl) (by kernel_rfl) (by kernel_rfl) (fun _ _ _ h => h) (Or.inl ⟨by rfl, ?ye4⟩) hHeld ?re4
            case ye4 => (intro W hW; obtain ⟨hW0, hW1, hW2⟩ := hW; go_simp; first | done | with_reducible rfl)
            try simp only [List.getElem_toArray, List.getElem_cons_succ, List.getElem_cons_zero, Act.put, List.setIfInBounds_toArray, List.set_cons_zero, List.set_cons_succ]
            refine wpAnyH_take (i := 5) (v := ?ve5) rfl (by kernel_rfl) (by kernel_rfl) (by kernel_rfl) (fun _ _ _ h => h) (Or.inl ⟨by rfl, ?ye5⟩) hHeld ?re5
            case ye5 => (intro W hW; obtain ⟨hW0, hW1, hW2⟩ := hW; go_simp; first | done | with_reducible rfl)
            try simp only [List.getElem_toArray, List.getElem_cons_succ, List.getElem_cons_zero, Act.put, List.setIfInBounds_toArray, List.set_cons_zero, List.set_cons_succ]
            refine wpAnyH_take (i := 6) (v := ?ve6) rfl (by kernel_rfl) (by kernel_rfl) (by kernel_rfl) (fun _ _ _ h => h) (Or.inl ⟨by rfl, ?ye6⟩) hHeld ?re6
            case ye6 => (intro W hW; obtain ⟨hW0, hW1, hW2⟩ := hW; go_simp; first | done | with_reducible rfl)
            try simp only [List.getElem_toArray, List.getElem_cons_succ, List.getElem_cons_zero, Act.put, List.setIfInBounds_toArray, List.set_cons_zero, List.set_cons_succ]
            refine wpAnyH_take (i := 7) (v := ?ve7) rfl (by kernel_rfl) (by kernel_rfl) (by kernel_rfl) (fun _ _ _ h => h) (Or.inl ⟨by rfl, ?ye7⟩) hHeld ?re7
            case ye7 => (intro W hW; obtain ⟨hW0, hW1, hW2⟩ := hW; go_simp; first | done | with_reducible rfl)
            try simp only [List.getElem_toArray, List.getElem_cons_succ, List.getElem_cons_zero, Act.put, List.setIfInBounds_toArray, List.set_cons_zero, List.set_cons_succ]
            refine wpAnyH_take (i := 8) (v := ?ve8) rfl (by kernel_rfl) (by kernel_rfl) (by kernel_rfl) (fun _ _ _ h => h) (Or.inl ⟨by rfl, ?ye8⟩) hHeld ?re8
            case ye8 => (intro W hW; obtain ⟨hW0, hW1, hW2⟩ := hW; go_simp; first | done | with_reducible rfl)
            try simp only [List.getElem_toArray, List.getElem_cons_succ, List.getElem_cons_zero, Act.put, List.setIfInBounds_toArray, List.set_cons_zero, List.set_cons_succ]
            refine wpAnyH_take (i := 9) (v := ?ve9) rfl (by kernel_rfl) (by kernel_rfl) (by kernel_rfl) (fun _ _ _ h => h) (Or.inl ⟨by rfl, ?ye9⟩) hHeld ?re9
            case ye9 => (intro W hW; obtain ⟨hW0, hW1, hW2⟩ := hW; go_simp; first | done | with_reducible rfl)
            try simp only [List.getElem_toArray, List.getElem_cons_succ, List.getElem_cons_zero, Act.put, List.setIfInBounds_toArray, List.set_cons_zero, List.set_cons_succ]
            refine wpAnyH_take (i := 10) (v := ?ve10) rfl (by kernel_rfl) (by kernel_rfl) (by kernel_rfl) (fun _ _ _ h => h) (Or.inl ⟨by rfl, ?ye10⟩) hHeld ?re10
            case ye10 => (intro W hW; obtain ⟨hW0, hW1, hW2⟩ := hW; go_simp; first | done | with_reducible rfl)
            try simp only [List.getElem_toArray, List.getElem_cons_succ, List.getElem_cons_zero, Act.put, List.setIfInBounds_toArray, List.set_cons_zero, List.set_cons_succ]
            refine wpAnyH_take (i := 11) (v := ?ve11) rfl (by kernel_rfl) (by kernel_rfl) (by kernel_rfl) (fun _ _ _ h => h) (Or.inl ⟨by rfl, ?ye11⟩) hHeld ?re11
            case ye11 => (intro W hW; obtain ⟨hW0, hW1, hW2⟩ := hW; go_simp; first | done | with_reducible rfl)
            try simp only [List.getElem_toArray, List.getElem_cons_succ, List.getElem_cons_zero, Act.put, List.setIfInBounds_toArray, List.set_cons_zero, List.set_cons_succ]
            refine wpAnyH_take (i := 13) (v := ?ve13) rfl (by kernel_rfl) (by kernel_rfl) (by kernel_rfl) (fun _ _ _ h => h) (Or.inl ⟨by rfl, ?ye13⟩) hHeld ?re13
            case ye13 => (intro W hW; obtain ⟨hW0, hW1, hW2⟩ := hW; go_simp; first | done | with_reducible rfl)
            try simp only [List.getElem_toArray, List.getElem_cons_succ, List.getElem_cons_zero, Act.put, List.setIfInBounds_toArray, List.set_cons_zero, List.set_cons_succ]
            refine wpAnyH_take (i := 14) (v := ?ve14) rfl (by kernel_rfl) (by kernel_rfl) (by kernel_rfl) (fun _ _ _ h => h) (Or.inl ⟨by rfl, ?ye14⟩) hHeld ?re14
            case ye14 => (intro W hW; obtain ⟨hW0, hW1, hW2⟩ := hW; go_simp; first | done | with_reducible rfl)
            try simp only [List.getElem_toArray, List.getElem_cons_succ, List.getElem_cons_zero, Act.put, List.setIfInBounds_toArray, List.set_cons_zero, List.set_cons_succ]
            refine wpAnyH_ready (rs := [12]) (by kernel_rfl) (by simp) ?_
            refine AllReadyH.cons rfl (fun K hK => ?_) (AllReadyH.nil)
            go_simp
            refine HPA.out.mono ?_
            rintro e9 w4 ⟨v, rfl, ho, hb4⟩
            have k4 := Keeps.of_below hb4
            have hO : OI wb.drew.heap.size w4 v (parL e.s d) := ⟨ho, fun x hx => by have := HIN.out x hx; exact ⟨by omega, by omega⟩⟩
            obtain ⟨P, c', rfl, -, -, hnp, -⟩ := hO.form
            have HCT := Lib.hid (contains_any P _ c' (parL e.s d) e.p w4 hnp hpl4)
            have HB4 := Lib.hid hb4
            clear hb4 ho hO hnp
            refine hK.out _ _ (⟨k4 _ _ b0', k4 _ _ hsb, k4 _ _ b1'⟩) (fun hHeld => ?_)
            clear hK K
            try simp only [List.getElem_toArray, List.getElem_cons_succ, List.getElem_cons_zero, Act.put, List.setIfInBounds_toArray, List.set_cons_zero, List.set_cons_succ]
            refine wpAnyH_ready (rs := [15]) (by kernel_rfl) (by simp) ?_
            refine AllReadyH.cons rfl (fun K hK => ?_) (AllReadyH.nil)
            go_simp
            refine HCT.out.mono ?_
            rintro e9 w' ⟨rfl, rfl⟩
            refine hK.out _ _ (hHeld) (fun hHeld => ?_)
            clear hK K
            try simp only [List.getElem_toArray, List.getElem_cons_succ, List.getElem_cons_zero, Act.put, List.setIfInBounds_toArray, List.set_cons_zero, List.set_cons_succ]
            refine wpAnyH_take (i := 16) (v := ?ve16) rfl (by kernel_rfl) (by kernel_rfl) (by kernel_rfl) (fun _ _ _ h => h) (Or.inl ⟨by rfl, ?ye16⟩) hHeld ?re16
            case ye16 => (intro W hW; obtain ⟨hW0, hW1, hW2⟩ := hW; go_simp; first | done | with_reducible rfl)
            try simp only [List.getElem_toArray, List.getElem_cons_succ, List.getElem_cons_zero, Act.put, List.setIfInBounds_toArray, List.set_cons_zero, List.set_cons_succ]
            refine wpAnyH_take (i := 17) (v := ?ve17) rfl (by kernel_rfl) (by kernel_rfl) (by kernel_rfl) (fun _ _ _ h => h) (Or.inl ⟨by rfl, ?ye17⟩) hHeld ?re17
            case ye17 => (intro W hW; obtain ⟨hW0, hW1, hW2⟩ := hW; go_simp; first | done | with_reducible rfl)
            try simp only [List.getElem_toArray, List.getElem_cons_succ, List.getElem_cons_zero, Act.put, List.setIfInBounds_toArray, List.set_cons_zero, List.set_cons_succ]
            refine wpAnyH_done (by kernel_rfl) ?_ _
            have k4 := Keeps.of_below HB4.out
            have z1 : w4.cell? ⟨wr.heap.size, 1, none⟩ = some (.int .i64 e.p) := k4 _ _ b1'
            have z2 : w4.cell? ⟨wr.heap.size, 2, none⟩ = some (.bool e.sc) := k4 _ _ b2'
            have hb34 : Below wr.heap.size wr w4 := (HBB.out.drew).trans (HB4.out.mono HBB.out.size)
            have HB34 := Lib.hid hb34
            have hbt4 := (show BArr wr gb (scT es n (k + 1)) from HBR.out)
            have hbt5 : BArr w4 gb (scT es n (k + 1)) := Own.below hbt4 hb34 hgbl
            have HBT4 := Lib.hid hbt5
            clear k4 hHeld b0' b1' b2' hsb HCT HPA hb34 hbt4 hbt5
            clear k4 hHeld
            try clear hHeld
            by_cases hmem : e.p ∈ parL e.s d
            · rw [decide_eq_true hmem]
              simp only [Bool.not_true]
              have hps := (par_lvl d h1 h4 _ (by rw [HHE.out]; exact List.mem_of_getElem? HSS.out) _ hmem).2
              obtain ⟨p0, p1⟩ := sets_bd d h1 h4 _ hps
              have hfn : fullB d = (n : Int) - 1 := by rw [HNN.out]; unfold fullB; push_cast; rfl
              obtain ⟨pN, hpN⟩ : ∃ pN : Nat, e.p = (pN : Int) := ⟨e.p.toNat, by omega⟩
              have hpn : pN < n := by omega
              have hscat := scT_at es (N := n) (k := k + 1) hpn
              obtain ⟨sb, hsb⟩ : ∃ sb, sb = (es.take (k + 1)).any fun x => x.sc && x.p == (pN : Int) := ⟨_, rfl⟩
              obtain ⟨sc, hsc⟩ : ∃ sc, sc = e.sc := ⟨_, rfl⟩
              rw [← hsb] at hscat
              have hcell := HBT4.out.cell hscat
              have hfz := Own.frozen HBT4.out pN
              have hate : okAt d es (k + 1) = !(e.sc && (es.take (k + 1)).any fun x => x.sc && x.p == (pN : Int)) := by
                rw [HAT.out, decide_eq_true HHE.out]
                unfold edOk
                rw [decide_eq_true hmem, ← hpN]
                simp
              rw [hpN] at z1
              rw [← hsc] at z2
              have HATE := Lib.hid hate
              have HSBE := Lib.hid hsb
              have HSCE := Lib.hid hsc
              have HPN := Lib.hid hpN
              have hpz : (pN : Int) < (n : Int) := by omega
              have hpz0 : (0 : Int) ≤ (pN : Int) := by omega
              clear hps p0 p1 hfn hscat hsb hsc hate hpN hmem HIN
              cases sc with
              | false =>
                cases sb with
                | false =>
                  have hok2 : okTo d es (k + 1 + 1) = true := by rw [okTo_succ, HOK.out, HATE.out, ← HSCE.out, ← HSBE.out]; rfl
                  have hset := scT_set (N := n) HES.out HPN.out
                  rw [← HSBE.out, ← HSCE.out] at hset
                  have hbt6 := HBT4.out.set_ pN ((false : Bool) || false)
                  rw [hset] at hbt6
                  have HBT6 := Lib.hid (show BArr (w4.drew.setCell ⟨gb, pN, none⟩ (.bool false)) gb (scT es n (k + 1 + 1)) from hbt6)
                  have HOK2 := Lib.hid hok2
                  have HON6 := Lib.hid (((HON.out.trans (Only.of_below HB34.out)).trans (Only.of_below (Below.refl w4.heap.size w4).drew)).setCell pN (.bool false))
                  clear hok2 hset hbt6
                  go_wp2_with fail
                  refine region_P (S := fun W => W.cell? ⟨wr.heap.size, 1, none⟩ = some (.int .i64 (pN : Int)) ∧ W.cell? ⟨wr.heap.size, 2, none⟩ = some (.bool false) ∧ W.cell? ⟨gb, pN, none⟩ = some (.bool false)) (kill := [13]) (by kernel_rfl) ⟨z1, z2, hcell⟩ (fun hHeld => ?_)
                  refine anyP_take (i := 0) (v := ?vfff0) rfl (by kernel_rfl) (by kernel_rfl) (by kernel_rfl) (by kernel_rfl) (by kernel_rfl) (fun _ _ _ h => h) (Or.inl ⟨by rfl, ?yfff0⟩) hHeld ?rfff0
                  case yfff0 => (intro W hW; obtain ⟨hW0, hW1, hW2⟩ := hW; go_simp; first | done | with_reducible rfl)
                  try simp only [List.getElem_toArray, List.getElem_cons_zero, Act.put, List.setIfInBounds_toArray, List.set_cons_zero, List.set_cons_succ]
                  refine anyP_take (i := 1) (v := ?vfff1) rfl (by kernel_rfl) (by kernel_rfl) (by kernel_rfl) (by kernel_rfl) (by kernel_rfl) (fun _ _ _ h => h) (Or.inl ⟨by rfl, ?yfff1⟩) hHeld ?rfff1
                  case yfff1 => (intro W hW; obtain ⟨hW0, hW1, hW2⟩ := hW; go_simp; first | done | with_reducible rfl)
                  try simp only [List.getElem_toArray, List.getElem_cons_succ, List.getElem_cons_zero, Act.put, List.setIfInBounds_toArray, List.set_cons_zero, List.set_cons_succ]
                  refine anyP_take (i := 2) (v := ?vfff2) rfl (by kernel_rfl) (by kernel_rfl) (by kernel_rfl) (by kernel_rfl) (by kernel_rfl) (fun _ _ _ h => h) (Or.inl ⟨by rfl, ?yfff2⟩) hHeld ?rfff2
                  case yfff2 => (intro W hW; obtain ⟨hW0, hW1, hW2⟩ := hW; go_simp; first | done | with_reducible rfl)
                  try simp only [List.getElem_toArray, List.getElem_cons_succ, List.getElem_cons_zero, Act.put, List.setIfInBounds_toArray, List.set_cons_zero, List.set_cons_succ]
                  refine anyP_take (i := 3) (v := ?vfff3) rfl (by kernel_rfl) (by kernel_rfl) (by kernel_rfl) (by kernel_rfl) (by kernel_rfl) (fun _ _ _ h => h) (Or.inl ⟨by rfl, ?yfff3⟩) hHeld ?rfff3
                  case yfff3 => (intro W hW; obtain ⟨hW0, hW1, hW2⟩ := hW; go_simp; first | done | with_reducible rfl)
                  try simp only [List.getElem_toArray, List.getElem_cons_succ, List.getElem_cons_zero, Act.put, List.setIfInBounds_toArray, List.set_cons_zero, List.set_cons_succ]
                  refine anyP_take (i := 4) (v := ?vfff4) rfl (by kernel_rfl) (by kernel_rfl) (by kernel_rfl) (by kernel_rfl) (by kernel_rfl) (fun _ _ _ h => h) (Or.inl ⟨by rfl, ?yfff4⟩) hHeld ?rfff4
                  case yfff4 => (intro W hW; obtain ⟨hW0, hW1, hW2⟩ := hW; go_simp; first | done | with_reducible rfl)
                  try simp only [List.getElem_toArray, List.getElem_cons_succ, List.getElem_cons_zero, Act.put, List.setIfInBounds_toArray, List.set_cons_zero, List.set_cons_succ]
                  refine anyP_take (i := 5) (v := ?vfff5) rfl (by kernel_rfl) (by kernel_rfl) (by kernel_rfl) (by kernel_rfl) (by kernel_rfl) (fun _ _ _ h => h) (Or.inl ⟨by rfl, ?yfff5⟩) hHeld ?rfff5
                  case yfff5 => (intro W hW; obtain ⟨hW0, hW1, hW2⟩ := hW; go_simp; first | done | with_reducible rfl)
                  try simp only [List.getElem_toArray, List.getElem_cons_succ, List.getElem_cons_zero, Act.put, List.setIfInBounds_toArray, List.set_cons_zero, List.set_cons_succ]
                  refine anyP_take (i := 6) (v := ?vfff6) rfl (by kernel_rfl) (by kernel_rfl) (by kernel_rfl) (by kernel_rfl) (by kernel_rfl) (fun _ _ _ h => h) (Or.inl ⟨by rfl, ?yfff6⟩) hHeld ?rfff6
                  case yfff6 => (intro W hW; obtain ⟨hW0, hW1, hW2⟩ := hW; go_simp; first | done | with_reducible rfl)
                  try simp only [List.getElem_toArray, List.getElem_cons_succ, List.getElem_cons_zero, Act.put, List.setIfInBounds_toArray, List.set_cons_zero, List.set_cons_succ]
                  refine anyP_take (i := 7) (v := ?vfff7) rfl (by kernel_rfl) (by kernel_rfl) (by kernel_rfl) (by kernel_rfl) (by kernel_rfl) (fun _ _ _ h => h) (Or.inl ⟨by rfl, ?yfff7⟩) hHeld ?rfff7
                  case yfff7 => (intro W hW; obtain ⟨hW0, hW1, hW2⟩ := hW; go_simp; first | done | with_reducible rfl)
                  try simp only [List.getElem_toArray, List.getElem_cons_succ, List.getElem_cons_zero, Act.put, List.setIfInBounds_toArray, List.set_cons_zero, List.set_cons_succ]
                  refine anyP_take (i := 8) (v := ?vfff8) rfl (by kernel_rfl) (by kernel_rfl) (by kernel_rfl) (by kernel_rfl) (by kernel_rfl) (fun _ _ _ h => h) (Or.inl ⟨by rfl, ?yfff8⟩) hHeld ?rfff8
                  case yfff8 => (intro W hW; obtain ⟨hW0, hW1, hW2⟩ := hW; go_simp; first | done | with_reducible rfl)
                  try simp only [List.getElem_toArray, List.getElem_cons_succ, List.getElem_cons_zero, Act.put, List.setIfInBounds_toArray, List.set_cons_zero, List.set_cons_succ]
                  refine anyP_take (i := 9) (v := ?vfff9) rfl (by kernel_rfl) (by kernel_rfl) (by kernel_rfl) (by kernel_rfl) (by kernel_rfl) (fun _ _ _ h => h) (Or.inl ⟨by rfl, ?yfff9⟩) hHeld ?rfff9
                  case yfff9 => (intro W hW; obtain ⟨hW0, hW1, hW2⟩ := hW; go_simp; first | done | with_reducible rfl)
                  try simp only [List.getElem_toArray, List.getElem_cons_succ, List.getElem_cons_zero, Act.put, List.setIfInBounds_toArray, List.set_cons_zero, List.set_cons_succ]
                  refine anyP_take (i := 10) (v := ?vfff10) rfl (by kernel_rfl) (by kernel_rfl) (by kernel_rfl) (by kernel_rfl) (by kernel_rfl) (fun _ _ _ h => h) (Or.inl ⟨by rfl, ?yfff10⟩) hHeld ?rfff10
                  case yfff10 => (intro W hW; obtain ⟨hW0, hW1, hW2⟩ := hW; go_simp; first | done | with_reducible rfl)
                  try simp only [List.getElem_toArray, List.getElem_cons_succ, List.getElem_cons_zero, Act.put, List.setIfInBounds_toArray, List.set_cons_zero, List.set_cons_succ]
                  refine anyP_take (i := 11) (v := ?vfff11) rfl (by kernel_rfl) (by kernel_rfl) (by kernel_rfl) (by kernel_rfl) (by kernel_rfl) (fun _ _ _ h => h) (Or.inl ⟨by rfl, ?yfff11⟩) hHeld ?rfff11
                  case yfff11 => (intro W hW; obtain ⟨hW0, hW1, hW2⟩ := hW; go_simp; first | done | with_reducible rfl)
                  try simp only [List.getElem_toArray, List.getElem_cons_succ, List.getElem_cons_zero, Act.put, List.setIfInBounds_toArray, List.set_cons_zero, List.set_cons_succ]
                  refine anyP_take (i := 12) (v := ?vfff12) rfl (by kernel_rfl) (by kernel_rfl) (by kernel_rfl) (by kernel_rfl) (by kernel_rfl) (fun _ _ _ h => h) (Or.inl ⟨by rfl, ?yfff12⟩) hHeld ?rfff12
                  case yfff12 => (intro W hW; obtain ⟨hW0, hW1, hW2⟩ := hW; go_simp; first | done | with_reducible rfl)
                  try simp only [List.getElem_toArray, List.getElem_cons_succ, List.getElem_cons_zero, Act.put, List.setIfInBounds_toArray, List.set_cons_zero, List.set_cons_succ]
                  refine anyP_ready (rs := [13]) (by kernel_rfl) (by simp) ?_
                  refine AllP.cons rfl (fun K hK => ?_) (AllP.nil)
                  go_simp
                  refine hK.out _ _ (fun h => absurd (by decide) h) ?_
                  clear hK K
                  try simp only [List.getElem_toArray, List.getElem_cons_succ, List.getElem_cons_zero, Act.put, List.setIfInBounds_toArray, List.set_cons_zero, List.set_cons_succ]
                  refine anyP_done (by kernel_rfl) ?_ _
                  go_wp2
                  go_roundw
                  case rel =>
                    obtain rfl : K1 = k + 1 := HK1.out
                    exact ⟨k + 1, rfl, by omega, HOK2.out, HBT6.out, HON6.out⟩
                  case measure => (have := HK1.out; simp [intOf]; omega)
                | true =>
                  have hok2 : okTo d es (k + 1 + 1) = true := by rw [okTo_succ, HOK.out, HATE.out, ← HSCE.out, ← HSBE.out]; rfl
                  have hset := scT_set (N := n) HES.out HPN.out
                  rw [← HSBE.out, ← HSCE.out] at hset
                  have hbt6 := HBT4.out.set_ pN ((true : Bool) || false)
                  rw [hset] at hbt6
                  have HBT6 := Lib.hid (show BArr (w4.drew.setCell ⟨gb, pN, none⟩ (.bool true)) gb (scT es n (k + 1 + 1)) from hbt6)
                  have HOK2 := Lib.hid hok2
                  have HON6 := Lib.hid (((HON.out.trans (Only.of_below HB34.out)).trans (Only.of_below (Below.refl w4.heap.size w4).drew)).setCell pN (.bool true))
                  clear hok2 hset hbt6
                  go_wp2_with fail
                  refine region_P (S := fun W => W.cell? ⟨wr.heap.size, 1, none⟩ = some (.int .i64 (pN : Int)) ∧ W.cell? ⟨wr.heap.size, 2, none⟩ = some (.bool false) ∧ W.cell? ⟨gb, pN, none⟩ = some (.bool true)) (kill := [13]) (by kernel_rfl) ⟨z1, z2, hcell⟩ (fun hHeld => ?_)
                  refine anyP_take (i := 0) (v := ?vfft0) rfl (by kernel_rfl) (by kernel_rfl) (by kernel_rfl) (by kernel_rfl) (by kernel_rfl) (fun _ _ _ h => h) (Or.inl ⟨by rfl, ?yfft0⟩) hHeld ?rfft0
                  case yfft0 => (intro W hW; obtain ⟨hW0, hW1, hW2⟩ := hW; go_simp; first | done | with_reducible rfl)
                  try simp only [List.getElem_toArray, List.getElem_cons_zero, Act.put, List.setIfInBounds_toArray, List.set_cons_zero, List.set_cons_succ]
                  refine anyP_take (i := 1) (v := ?vfft1) rfl (by kernel_rfl) (by kernel_rfl) (by kernel_rfl) (by kernel_rfl) (by kernel_rfl) (fun _ _ _ h => h) (Or.inl ⟨by rfl, ?yfft1⟩) hHeld ?rfft1
                  case yfft1 => (intro W hW; obtain ⟨hW0, hW1, hW2⟩ := hW; go_simp; first | done | with_reducible rfl)
                  try simp only [List.getElem_toArray, List.getElem_cons_succ, List.getElem_cons_zero, Act.put, List.setIfInBounds_toArray, List.set_cons_zero, List.set_cons_succ]
                  refine anyP_take (i := 2) (v := ?vfft2) rfl (by kernel_rfl) (by kernel_rfl) (by kernel_rfl) (by kernel_rfl) (by kernel_rfl) (fun _ _ _ h => h) (Or.inl ⟨by rfl, ?yfft2⟩) hHeld ?rfft2
                  case yfft2 => (intro W hW; obtain ⟨hW0, hW1, hW2⟩ := hW; go_simp; first | done | with_reducible rfl)
                  try simp only [List.getElem_toArray, List.getElem_cons_succ, List.getElem_cons_zero, Act.put, List.setIfInBounds_toArray, List.set_cons_zero, List.set_cons_succ]
                  refine anyP_take (i := 3) (v := ?vfft3) rfl (by kernel_rfl) (by kernel_rfl) (by kernel_rfl) (by kernel_rfl) (by kernel_rfl) (fun _ _ _ h => h) (Or.inl ⟨by rfl, ?yfft3⟩) hHeld ?rfft3
                  case yfft3 => (intro W hW; obtain ⟨hW0, hW1, hW2⟩ := hW; go_simp; first | done | with_reducible rfl)
                  try simp only [List.getElem_toArray, List.getElem_cons_succ, List.getElem_cons_zero, Act.put, List.setIfInBounds_toArray, List.set_cons_zero, List.set_cons_succ]
                  refine anyP_take (i := 4) (v := ?vfft4) rfl (by kernel_rfl) (by kernel_rfl) (by kernel_rfl) (by kernel_rfl) (by kernel_rfl) (fun _ _ _ h => h) (Or.inl ⟨by rfl, ?yfft4⟩) hHeld ?rfft4
                  case yfft4 => (intro W hW; obtain ⟨hW0, hW1, hW2⟩ := hW; go_simp; first | done | with_reducible rfl)
                  try simp only [List.getElem_toArray, List.getElem_cons_succ, List.getElem_cons_zero, Act.put, List.setIfInBounds_toArray, List.set_cons_zero, List.set_cons_succ]
                  refine anyP_take (i := 5) (v := ?vfft5) rfl (by kernel_rfl) (by kernel_rfl) (by kernel_rfl) (by kernel_rfl) (by kernel_rfl) (fun _ _ _ h => h) (Or.inl ⟨by rfl, ?yfft5⟩) hHeld ?rfft5
                  case yfft5 => (intro W hW; obtain ⟨hW0, hW1, hW2⟩ := hW; go_simp; first | done | with_reducible rfl)
                  try simp only [List.getElem_toArray, List.getElem_cons_succ, List.getElem_cons_zero, Act.put, List.setIfInBounds_toArray, List.set_cons_zero, List.set_cons_succ]
                  refine anyP_take (i := 6) (v := ?vfft6) rfl (by kernel_rfl) (by kernel_rfl) (by kernel_rfl) (by kernel_rfl) (by kernel_rfl) (fun _ _ _ h => h) (Or.inl ⟨by rfl, ?yfft6⟩) hHeld ?rfft6
                  case yfft6 => (intro W hW; obtain ⟨hW0, hW1, hW2⟩ := hW; go_simp; first | done | with_reducible rfl)
                  try simp only [List.getElem_toArray, List.getElem_cons_succ, List.getElem_cons_zero, Act.put, List.setIfInBounds_toArray, List.set_cons_zero, List.set_cons_succ]
                  refine anyP_take (i := 7) (v := ?vfft7) rfl (by kernel_rfl) (by kernel_rfl) (by kernel_rfl) (by kernel_rfl) (by kernel_rfl) (fun _ _ _ h => h) (Or.inl ⟨by rfl, ?yfft7⟩) hHeld ?rfft7
                  case yfft7 => (intro W hW; obtain ⟨hW0, hW1, hW2⟩ := hW; go_simp; first | done | with_reducible rfl)
                  try simp only [List.getElem_toArray, List.getElem_cons_succ, List.getElem_cons_zero, Act.put, List.setIfInBounds_toArray, List.set_cons_zero, List.set_cons_succ]
                  refine anyP_take (i := 8) (v := ?vfft8) rfl (by kernel_rfl) (by kernel_rfl) (by kernel_rfl) (by kernel_rfl) (by kernel_rfl) (fun _ _ _ h => h) (Or.inl ⟨by rfl, ?yfft8⟩) hHeld ?rfft8
                  case yfft8 => (intro W hW; obtain ⟨hW0, hW1, hW2⟩ := hW; go_simp; first | done | with_reducible rfl)
                  try simp only [List.getElem_toArray, List.getElem_cons_succ, List.getElem_cons_zero, Act.put, List.setIfInBounds_toArray, List.set_cons_zero, List.set_cons_succ]
                  refine anyP_take (i := 9) (v := undef) rfl (by kernel_rfl) (by kernel_rfl) (by kernel_rfl) (by kernel_rfl) (by kernel_rfl) (fun _ _ _ h => h) (Or.inr ⟨by rfl, rfl⟩) hHeld ?rfft9
                  try simp only [List.getElem_toArray, List.getElem_cons_succ, List.getElem_cons_zero, Act.put, List.setIfInBounds_toArray, List.set_cons_zero, List.set_cons_succ]
                  refine anyP_take (i := 10) (v := undef) rfl (by kernel_rfl) (by kernel_rfl) (by kernel_rfl) (by kernel_rfl) (by kernel_rfl) (fun _ _ _ h => h) (Or.inr ⟨by rfl, rfl⟩) hHeld ?rfft10
                  try simp only [List.getElem_toArray, List.getElem_cons_succ, List.getElem_cons_zero, Act.put, List.setIfInBounds_toArray, List.set_cons_zero, List.set_cons_succ]
                  refine anyP_take (i := 11) (v := ?vfft11) rfl (by kernel_rfl) (by kernel_rfl) (by kernel_rfl) (by kernel_rfl) (by kernel_rfl) (fun _ _ _ h => h) (Or.inl ⟨by rfl, ?yfft11⟩) hHeld ?rfft11
                  case yfft11 => (intro W hW; obtain ⟨hW0, hW1, hW2⟩ := hW; go_simp; first | done | with_reducible rfl)
                  try simp only [List.getElem_toArray, List.getElem_cons_succ, List.getElem_cons_zero, Act.put, List.setIfInBounds_toArray, List.set_cons_zero, List.set_cons_succ]
                  refine anyP_take (i := 12) (v := ?vfft12) rfl (by kernel_rfl) (by kernel_rfl) (by kernel_rfl) (by kernel_rfl) (by kernel_rfl) (fun _ _ _ h => h) (Or.inl ⟨by rfl, ?yfft12⟩) hHeld ?rfft12
                  case yfft12 => (intro W hW; obtain ⟨hW0, hW1, hW2⟩ := hW; go_simp; first | done | with_reducible rfl)
                  try simp only [List.getElem_toArray, List.getElem_cons_succ, List.getElem_cons_zero, Act.put, List.setIfInBounds_toArray, List.set_cons_zero, List.set_cons_succ]
                  refine anyP_ready (rs := [13]) (by kernel_rfl) (by simp) ?_
                  refine AllP.cons rfl (fun K hK => ?_) (AllP.nil)
                  go_simp
                  refine hK.out _ _ (fun h => absurd (by decide) h) ?_
                  clear hK K
                  try simp only [List.getElem_toArray, List.getElem_cons_succ, List.getElem_cons_zero, Act.put, List.setIfInBounds_toArray, List.set_cons_zero, List.set_cons_succ]
                  refine anyP_done (by kernel_rfl) ?_ _
                  go_wp2
                  go_roundw
                  case rel =>
                    obtain rfl : K1 = k + 1 := HK1.out
                    exact ⟨k + 1, rfl, by omega, HOK2.out, HBT6.out, HON6.out⟩
                  case measure => (have := HK1.out; simp [intOf]; omega)
              | true =>
                cases sb with
                | false =>
                  have hok2 : okTo d es (k + 1 + 1) = true := by rw [okTo_succ, HOK.out, HATE.out, ← HSCE.out, ← HSBE.out]; rfl
                  have hset := scT_set (N := n) HES.out HPN.out
                  rw [← HSBE.out, ← HSCE.out] at hset
                  have hbt6 := HBT4.out.set_ pN ((false : Bool) || true)
                  rw [hset] at hbt6
                  have HBT6 := Lib.hid (show BArr (w4.drew.setCell ⟨gb, pN, none⟩ (.bool true)) gb (scT es n (k + 1 + 1)) from hbt6)
                  have HOK2 := Lib.hid hok2
                  have HON6 := Lib.hid (((HON.out.trans (Only.of_below HB34.out)).trans (Only.of_below (Below.refl w4.heap.size w4).drew)).setCell pN (.bool true))
                  clear hok2 hset hbt6
                  go_wp2_with fail
                  refine region_P (S := fun W => W.cell? ⟨wr.heap.size, 1, none⟩ = some (.int .i64 (pN : Int)) ∧ W.cell? ⟨wr.heap.size, 2, none⟩ = some (.bool true) ∧ W.cell? ⟨gb, pN, none⟩ = some (.bool false)) (kill := [13]) (by kernel_rfl) ⟨z1, z2, hcell⟩ (fun hHeld => ?_)
                  refine anyP_take (i := 0) (v := ?vftf0) rfl (by kernel_rfl) (by kernel_rfl) (by kernel_rfl) (by kernel_rfl) (by kernel_rfl) (fun _ _ _ h => h) (Or.inl ⟨by rfl, ?yftf0⟩) hHeld ?rftf0
                  case yftf0 => (intro W hW; obtain ⟨hW0, hW1, hW2⟩ := hW; go_simp; first | done | with_reducible rfl)
                  try simp only [List.getElem_toArray, List.getElem_cons_zero, Act.put, List.setIfInBounds_toArray, List.set_cons_zero, List.set_cons_succ]
                  refine anyP_take (i := 1) (v := ?vftf1) rfl (by kernel_rfl) (by kernel_rfl) (by kernel_rfl) (by kernel_rfl) (by kernel_rfl) (fun _ _ _ h => h) (Or.inl ⟨by rfl, ?yftf1⟩) hHeld ?rftf1
                  case yftf1 => (intro W hW; obtain ⟨hW0, hW1, hW2⟩ := hW; go_simp; first | done | with_reducible rfl)
                  try simp only [List.getElem_toArray, List.getElem_cons_succ, List.getElem_cons_zero, Act.put, List.setIfInBounds_toArray, List.set_cons_zero, List.set_cons_succ]
                  refine anyP_take (i := 2) (v := ?vftf2) rfl (by kernel_rfl) (by kernel_rfl) (by kernel_rfl) (by kernel_rfl) (by kernel_rfl) (fun _ _ _ h => h) (Or.inl ⟨by rfl, ?yftf2⟩) hHeld ?rftf2
                  case yftf2 => (intro W hW; obtain ⟨hW0, hW1, hW2⟩ := hW; go_simp; first | done | with_reducible rfl)
                  try simp only [List.getElem_toArray, List.getElem_cons_succ, List.getElem_cons_zero, Act.put, List.setIfInBounds_toArray, List.set_cons_zero, List.set_cons_succ]
                  refine anyP_take (i := 3) (v := ?vftf3) rfl (by kernel_rfl) (by kernel_rfl) (by kernel_rfl) (by kernel_rfl) (by kernel_rfl) (fun _ _ _ h => h) (Or.inl ⟨by rfl, ?yftf3⟩) hHeld ?rftf3
                  case yftf3 => (intro W hW; obtain ⟨hW0, hW1, hW2⟩ := hW; go_simp; first | done | with_reducible rfl)
                  try simp only [List.getElem_toArray, List.getElem_cons_succ, List.getElem_cons_zero, Act.put, List.setIfInBounds_toArray, List.set_cons_zero, List.set_cons_succ]
                  refine anyP_take (i := 4) (v := ?vftf4) rfl (by kernel_rfl) (by kernel_rfl) (by kernel_rfl) (by kernel_rfl) (by kernel_rfl) (fun _ _ _ h => h) (Or.inl ⟨by rfl, ?yftf4⟩) hHeld ?rftf4
                  case yftf4 => (intro W hW; obtain ⟨hW0, hW1, hW2⟩ := hW; go_simp; first | done | with_reducible rfl)
                  try simp only [List.getElem_toArray, List.getElem_cons_succ, List.getElem_cons_zero, Act.put, List.setIfInBounds_toArray, List.set_cons_zero, List.set_cons_succ]
                  refine anyP_take (i := 5) (v := ?vftf5) rfl (by kernel_rfl) (by kernel_rfl) (by kernel_rfl) (by kernel_rfl) (by kernel_rfl) (fun _ _ _ h => h) (Or.inl ⟨by rfl, ?yftf5⟩) hHeld ?rftf5
                  case yftf5 => (intro W hW; obtain ⟨hW0, hW1, hW2⟩ := hW; go_simp; first | done | with_reducible rfl)
                  try simp only [List.getElem_toArray, List.getElem_cons_succ, List.getElem_cons_zero, Act.put, List.setIfInBounds_toArray, List.set_cons_zero, List.set_cons_succ]
                  refine anyP_take (i := 6) (v := ?vftf6) rfl (by kernel_rfl) (by kernel_rfl) (by kernel_rfl) (by kernel_rfl) (by kernel_rfl) (fun _ _ _ h => h) (Or.inl ⟨by rfl, ?yftf6⟩) hHeld ?rftf6
                  case yftf6 => (intro W hW; obtain ⟨hW0, hW1, hW2⟩ := hW; go_simp; first | done | with_reducible rfl)
                  try simp only [List.getElem_toArray, List.getElem_cons_succ, List.getElem_cons_zero, Act.put, List.setIfInBounds_toArray, List.set_cons_zero, List.set_cons_succ]
                  refine anyP_take (i := 7) (v := ?vftf7) rfl (by kernel_rfl) (by kernel_rfl) (by kernel_rfl) (by kernel_rfl) (by kernel_rfl) (fun _ _ _ h => h) (Or.inl ⟨by rfl, ?yftf7⟩) hHeld ?rftf7
                  case yftf7 => (intro W hW; obtain ⟨hW0, hW1, hW2⟩ := hW; go_simp; first | done | with_reducible rfl)
                  try simp only [List.getElem_toArray, List.getElem_cons_succ, List.getElem_cons_zero, Act.put, List.setIfInBounds_toArray, List.set_cons_zero, List.set_cons_succ]
                  refine anyP_take (i := 8) (v := ?vftf8) rfl (by kernel_rfl) (by kernel_rfl) (by kernel_rfl) (by kernel_rfl) (by kernel_rfl) (fun _ _ _ h => h) (Or.inl ⟨by rfl, ?yftf8⟩) hHeld ?rftf8
                  case yftf8 => (intro W hW; obtain ⟨hW0, hW1, hW2⟩ := hW; go_simp; first | done | with_reducible rfl)
                  try simp only [List.getElem_toArray, List.getElem_cons_succ, List.getElem_cons_zero, Act.put, List.setIfInBounds_toArray, List.set_cons_zero, List.set_cons_succ]
                  refine anyP_take (i := 9) (v := ?vftf9) rfl (by kernel_rfl) (by kernel_rfl) (by kernel_rfl) (by kernel_rfl) (by kernel_rfl) (fun _ _ _ h => h) (Or.inl ⟨by rfl, ?yftf9⟩) hHeld ?rftf9
                  case yftf9 => (intro W hW; obtain ⟨hW0, hW1, hW2⟩ := hW; go_simp; first | done | with_reducible rfl)
                  try simp only [List.getElem_toArray, List.getElem_cons_succ, List.getElem_cons_zero, Act.put, List.setIfInBounds_toArray, List.set_cons_zero, List.set_cons_succ]
                  refine anyP_take (i := 10) (v := ?vftf10) rfl (by kernel_rfl) (by kernel_rfl) (by kernel_rfl) (by kernel_rfl) (by kernel_rfl) (fun _ _ _ h => h) (Or.inl ⟨by rfl, ?yftf10⟩) hHeld ?rftf10
                  case yftf10 => (intro W hW; obtain ⟨hW0, hW1, hW2⟩ := hW; go_simp; first | done | with_reducible rfl)
                  try simp only [List.getElem_toArray, List.getElem_cons_succ, List.getElem_cons_zero, Act.put, List.setIfInBounds_toArray, List.set_cons_zero, List.set_cons_succ]
                  refine anyP_take (i := 11) (v := ?vftf11) rfl (by kernel_rfl) (by kernel_rfl) (by kernel_rfl) (by kernel_rfl) (by kernel_rfl) (fun _ _ _ h => h) (Or.inl ⟨by rfl, ?yftf11⟩) hHeld ?rftf11
                  case yftf11 => (intro W hW; obtain ⟨hW0, hW1, hW2⟩ := hW; go_simp; first | done | with_reducible rfl)
                  try simp only [List.getElem_toArray, List.getElem_cons_succ, List.getElem_cons_zero, Act.put, List.setIfInBounds_toArray, List.set_cons_zero, List.set_cons_succ]
                  refine anyP_take (i := 12) (v := ?vftf12) rfl (by kernel_rfl) (by kernel_rfl) (by kernel_rfl) (by kernel_rfl) (by kernel_rfl) (fun _ _ _ h => h) (Or.inl ⟨by rfl, ?yftf12⟩) hHeld ?rftf12
                  case yftf12 => (intro W hW; obtain ⟨hW0, hW1, hW2⟩ := hW; go_simp; first | done | with_reducible rfl)
                  try simp only [List.getElem_toArray, List.getElem_cons_succ, List.getElem_cons_zero, Act.put, List.setIfInBounds_toArray, List.set_cons_zero, List.set_cons_succ]
                  refine anyP_ready (rs := [13]) (by kernel_rfl) (by simp) ?_
                  refine AllP.cons rfl (fun K hK => ?_) (AllP.nil)
                  go_simp
                  refine hK.out _ _ (fun h => absurd (by decide) h) ?_
                  clear hK K
                  try simp only [List.getElem_toArray, List.getElem_cons_succ, List.getElem_cons_zero, Act.put, List.setIfInBounds_toArray, List.set_cons_zero, List.set_cons_succ]
                  refine anyP_done (by kernel_rfl) ?_ _
                  go_wp2
                  go_roundw
                  case rel =>
                    obtain rfl : K1 = k + 1 := HK1.out
                    exact ⟨k + 1, rfl, by omega, HOK2.out, HBT6.out, HON6.out⟩
                  case measure => (have := HK1.out; simp [intOf]; omega)
                | true =>
                  have hpf := plan_false (d := d) (es := es) (k := k + 1) (by omega) (by rw [HATE.out, ← HSCE.out, ← HSBE.out]; rfl)
                  have HPF := Lib.hid hpf
                  have HBG := Lib.hid (HBW.out.trans (HB34.out.mono HBW.out.size))
                  clear hpf
                  go_wp2
                  go_ret
                  exact ⟨by rw [HPF.out]; rfl, HBG.out⟩
            · rw [decide_eq_false hmem]
              have hpf := plan_false (d := d) (es := es) (k := k + 1) (by omega) (by rw [HAT.out]; unfold edOk; simp [hmem])
              have HPF := Lib.hid hpf
              have HBG := Lib.hid (HBW.out.trans (HB34.out.mono HBW.out.size))
              clear hpf hmem
              simp only [Bool.not_false]
              go_wp2
              go_ret
              exact ⟨by rw [HPF.out]; rfl, HBG.out⟩
          · have dne : (e.s != s) = true := by simpa using hes
            have hpf := plan_false (d := d) (es := es) (k := k + 1) (by omega) (by rw [HAT.out]; simp [hes])
            have HPF := Lib.hid hpf
            have hbf := HBW.out.trans ((HBB.out.mono (by have := HBW.out.size; exact this)).drew)
            have HBF := Lib.hid hbf
            clear hpf hbf hes
            go_wp2_with fail
            rw [← HWB.out]
            refine wp_region_held_drew (S := fun W => W.cell? ⟨wr.heap.size, 0, none⟩ = some (.int .i64 e.s) ∧ W.cell? ⟨gs, K1, none⟩ = some (.int .i64 s)) (by kernel_rfl) ⟨b0', hsb⟩ (fun hHeld => ?_)
            refine wpAnyH_take (i := 0) (v := ?vc0) rfl (by kernel_rfl) (by kernel_rfl) (by kernel_rfl) (fun _ _ _ h => h) (Or.inl ⟨by rfl, ?yc0⟩) hHeld ?rc0
            case yc0 => (intro W hW; obtain ⟨hW0, hW1⟩ := hW; go_simp; first | done | with_reducible rfl)
            try simp only [List.getElem_toArray, List.getElem_cons_zero, Act.put, List.setIfInBounds_toArray, List.set_cons_zero, List.set_cons_succ]
            refine wpAnyH_take (i := 1) (v := ?vc1) rfl (by kernel_rfl) (by kernel_rfl) (by kernel_rfl) (fun _ _ _ h => h) (Or.inl ⟨by rfl, ?yc1⟩) hHeld ?rc1
            case yc1 => (intro W hW; obtain ⟨hW0, hW1⟩ := hW; go_simp; first | done | with_reducible rfl)
            try simp only [List.getElem_toArray, List.getElem_cons_succ, List.getElem_cons_zero, Act.put, List.setIfInBounds_toArray, List.set_cons_zero, List.set_cons_succ]
            refine wpAnyH_take (i := 2) (v := ?vc2) rfl (by kernel_rfl) (by kernel_rfl) (by kernel_rfl) (fun _ _ _ h => h) (Or.inl ⟨by rfl, ?yc2⟩) hHeld ?rc2
            case yc2 => (intro W hW; obtain ⟨hW0, hW1⟩ := hW; go_simp; first | done | with_reducible rfl)
            try simp only [List.getElem_toArray, List.getElem_cons_succ, List.getElem_cons_zero, Act.put, List.setIfInBounds_toArray, List.set_cons_zero, List.set_cons_succ]
            refine wpAnyH_take (i := 3) (v := ?vc3) rfl (by kernel_rfl) (by kernel_rfl) (by kernel_rfl) (fun _ _ _ h => h) (Or.inl ⟨by rfl, ?yc3⟩) hHeld ?rc3
            case yc3 => (intro W hW; obtain ⟨hW0, hW1⟩ := hW; go_simp; first | done | with_reducible rfl)
            try simp only [List.getElem_toArray, List.getElem_cons_succ, List.getElem_cons_zero, Act.put, List.setIfInBounds_toArray, List.set_cons_zero, List.set_cons_succ]
            refine wpAnyH_take (i := 4) (v := ?vc4) rfl (by kernel_rfl) (by kernel_rfl) (by kernel_rfl) (fun _ _ _ h => h) (Or.inl ⟨by rfl, ?yc4⟩) hHeld ?rc4
            case yc4 => (intro W hW; obtain ⟨hW0, hW1⟩ := hW; go_simp; first | done | with_reducible rfl)
            try simp only [List.getElem_toArray, List.getElem_cons_succ, List.getElem_cons_zero, Act.put, List.setIfInBounds_toArray, List.set_cons_zero, List.set_cons_succ]
            refine wpAnyH_take (i := 5) (v := ?vc5) rfl (by kernel_rfl) (by kernel_rfl) (by kernel_rfl) (fun _ _ _ h => h) (Or.inl ⟨by rfl, ?yc5⟩) hHeld ?rc5
            case yc5 => (intro W hW; obtain ⟨hW0, hW1⟩ := hW; go_simp; first | done | with_reducible rfl)
            try simp only [List.getElem_toArray, List.getElem_cons_succ, List.getElem_cons_zero, Act.put, List.setIfInBounds_toArray, List.set_cons_zero, List.set_cons_succ]
            refine wpAnyH_take (i := 6) (v := ?vc6) rfl (by kernel_rfl) (by kernel_rfl) (by kernel_rfl) (fun _ _ _ h => h) (Or.inl ⟨by rfl, ?yc6⟩) hHeld ?rc6
            case yc6 => (intro W hW; obtain ⟨hW0, hW1⟩ := hW; go_simp; first | done | with_reducible rfl)
            try simp only [List.getElem_toArray, List.getElem_cons_succ, List.getElem_cons_zero, Act.put, List.setIfInBounds_toArray, List.set_cons_zero, List.set_cons_succ]
            refine wpAnyH_take (i := 7) (v := ?vc7) rfl (by kernel_rfl) (by kernel_rfl) (by kernel_rfl) (fun _ _ _ h => h) (Or.inl ⟨by rfl, ?yc7⟩) hHeld ?rc7
            case yc7 => (intro W hW; obtain ⟨hW0, hW1⟩ := hW; go_simp; first | done | with_reducible rfl)
            try simp only [List.getElem_toArray, List.getElem_cons_succ, List.getElem_cons_zero, Act.put, List.setIfInBounds_toArray, List.set_cons_zero, List.set_cons_succ]
            refine wpAnyH_take (i := 8) (v := ?vc8) rfl (by kernel_rfl) (by kernel_rfl) (by kernel_rfl) (fun _ _ _ h => h) (Or.inl ⟨by rfl, ?yc8⟩) hHeld ?rc8
            case yc8 => (intro W hW; obtain ⟨hW0, hW1⟩ := hW; go_simp; first | done | with_reducible rfl)
            try simp only [List.getElem_toArray, List.getElem_cons_succ, List.getElem_cons_zero, Act.put, List.setIfInBounds_toArray, List.set_cons_zero, List.set_cons_succ]
            refine wpAnyH_take (i := 9) (v := undef) rfl (by kernel_rfl) (by kernel_rfl) (by kernel_rfl) (fun _ _ _ h => h) (Or.inr ⟨by rfl, rfl⟩) hHeld ?rc9
            try simp only [List.getElem_toArray, List.getElem_cons_succ, List.getElem_cons_zero, Act.put, List.setIfInBounds_toArray, List.set_cons_zero, List.set_cons_succ]
            refine wpAnyH_take (i := 10) (v := undef) rfl (by kernel_rfl) (by kernel_rfl) (by kernel_rfl) (fun _ _ _ h => h) (Or.inr ⟨by rfl, rfl⟩) hHeld ?rc10
            try simp only [List.getElem_toArray, List.getElem_cons_succ, List.getElem_cons_zero, Act.put, List.setIfInBounds_toArray, List.set_cons_zero, List.set_cons_succ]
            refine wpAnyH_take (i := 11) (v := undef) rfl (by kernel_rfl) (by kernel_rfl) (by kernel_rfl) (fun _ _ _ h => h) (Or.inr ⟨by rfl, rfl⟩) hHeld ?rc11
            try simp only [List.getElem_toArray, List.getElem_cons_succ, List.getElem_cons_zero, Act.put, List.setIfInBounds_toArray, List.set_cons_zero, List.set_cons_succ]
            refine wpAnyH_take (i := 12) (v := undef) rfl (by kernel_rfl) (by kernel_rfl) (by kernel_rfl) (fun _ _ _ h => h) (Or.inr ⟨by rfl, rfl⟩) hHeld ?rc12
            try simp only [List.getElem_toArray, List.getElem_cons_succ, List.getElem_cons_zero, Act.put, List.setIfInBounds_toArray, List.set_cons_zero, List.set_cons_succ]
            refine wpAnyH_take (i := 13) (v := undef) rfl (by kernel_rfl) (by kernel_rfl) (by kernel_rfl) (fun _ _ _ h => h) (Or.inr ⟨by rfl, rfl⟩) hHeld ?rc13
            try simp only [List.getElem_toArray, List.getElem_cons_succ, List.getElem_cons_zero, Act.put, List.setIfInBounds_toArray, List.set_cons_zero, List.set_cons_succ]
            refine wpAnyH_take (i := 14) (v := undef) rfl (by kernel_rfl) (by kernel_rfl) (by kernel_rfl) (fun _ _ _ h => h) (Or.inr ⟨by rfl, rfl⟩) hHeld ?rc14
            try simp only [List.getElem_toArray, List.getElem_cons_succ, List.getElem_cons_zero, Act.put, List.setIfInBounds_toArray, List.set_cons_zero, List.set_cons_succ]
            refine wpAnyH_take (i := 15) (v := undef) rfl (by kernel_rfl) (by kernel_rfl) (by kernel_rfl) (fun _ _ _ h => h) (Or.inr ⟨by rfl, rfl⟩) hHeld ?rc15
            try simp only [List.getElem_toArray, List.getElem_cons_succ, List.getElem_cons_zero, Act.put, List.setIfInBounds_toArray, List.set_cons_zero, List.set_cons_succ]
            refine wpAnyH_take (i := 16) (v := undef) rfl (by kernel_rfl) (by kernel_rfl) (by kernel_rfl) (fun _ _ _ h => h) (Or.inr ⟨by rfl, rfl⟩) hHeld ?rc16
            try simp only [List.getElem_toArray, List.getElem_cons_succ, List.getElem_cons_zero, Act.put, List.setIfInBounds_toArray, List.set_cons_zero, List.set_cons_succ]
            refine wpAnyH_take (i := 17) (v := ?vc17) rfl (by kernel_rfl) (by kernel_rfl) (by kernel_rfl) (fun _ _ _ h => h) (Or.inl ⟨by rfl, ?yc17⟩) hHeld ?rc17
            case yc17 => (intro W hW; obtain ⟨hW0, hW1⟩ := hW; go_simp; first | done | with_reducible rfl)
            try simp only [List.getElem_toArray, List.getElem_cons_succ, List.getElem_cons_zero, Act.put, List.setIfInBounds_toArray, List.set_cons_zero, List.set_cons_succ]
            refine wpAnyH_done (by kernel_rfl) ?_ _
            go_wp2
            go_ret
            exact ⟨by rw [HPF.out]; rfl, HBF.out⟩
        · obtain rfl : n = k + 1 := by omega
          have hpt : planB es d = true := by
            unfold planB
            rw [hel, hsl, HOK.out]
            simp
          have HPT := Lib.hid hpt
          have kk : ((k + 1 - 1 : Nat) : Int) = (k : Int) := by omega
          clear hpt
          go_wp2
          go_ret
          exact ⟨by rw [HPT.out]; rfl, HBW.out⟩
  · have dnn : ((n : Int) != (N : Int)) = true := by simp; omega
    have hpf : planB es d = false := by
      unfold planB
      rw [hel, hsl]
      simp [hnN]
    have HPF := Lib.hid hpf
    clear hpf
    go_enter Tryz.func11, Tryz.ntmps11
    go_wp2_with fail
    refine HS.out.mono ?_
    rintro e w1 ⟨gs, rfl, -, hb1, -⟩
    have HB1 := Lib.hid hb1.drew
    clear hb1
    go_wp2_with fail
    refine wp_region_held_drew (S := fun _ => True) (by kernel_rfl) trivial (fun hHeld => ?_)
    refine wpAnyH_take (i := 0) (v := ?vb0) rfl (by kernel_rfl) (by kernel_rfl) (by kernel_rfl) (fun _ _ _ h => h) (Or.inl ⟨by rfl, ?yb0⟩) hHeld ?rb0
    case yb0 => (intro W hW; go_simp; first | done | with_reducible rfl)
    try simp only [List.getElem_toArray, List.getElem_cons_zero, Act.put, List.setIfInBounds_toArray, List.set_cons_zero, List.set_cons_succ]
    refine wpAnyH_take (i := 1) (v := ?vb1) rfl (by kernel_rfl) (by kernel_rfl) (by kernel_rfl) (fun _ _ _ h => h) (Or.inl ⟨by rfl, ?yb1⟩) hHeld ?rb1
    case yb1 => (intro W hW; go_simp; first | done | with_reducible rfl)
    try simp only [List.getElem_toArray, List.getElem_cons_succ, List.getElem_cons_zero, Act.put, List.setIfInBounds_toArray, List.set_cons_zero, List.set_cons_succ]
    refine wpAnyH_take (i := 2) (v := ?vb2) rfl (by kernel_rfl) (by kernel_rfl) (by kernel_rfl) (fun _ _ _ h => h) (Or.inl ⟨by rfl, ?yb2⟩) hHeld ?rb2
    case yb2 => (intro W hW; go_simp; first | done | with_reducible rfl)
    try simp only [List.getElem_toArray, List.getElem_cons_succ, List.getElem_cons_zero, Act.put, List.setIfInBounds_toArray, List.set_cons_zero, List.set_cons_succ]
    refine wpAnyH_take (i := 3) (v := ?vb3) rfl (by kernel_rfl) (by kernel_rfl) (by kernel_rfl) (fun _ _ _ h => h) (Or.inl ⟨by rfl, ?yb3⟩) hHeld ?rb3
    case yb3 => (intro W hW; go_simp; first | done | with_reducible rfl)
    try simp only [List.getElem_toArray, List.getElem_cons_succ, List.getElem_cons_zero, Act.put, List.setIfInBounds_toArray, List.set_cons_zero, List.set_cons_succ]
    refine wpAnyH_take (i := 4) (v := ?vb4) rfl (by kernel_rfl) (by kernel_rfl) (by kernel_rfl) (fun _ _ _ h => h) (Or.inl ⟨by rfl, ?yb4⟩) hHeld ?rb4
    case yb4 => (intro W hW; go_simp; first | done | with_reducible rfl)
    try simp only [List.getElem_toArray, List.getElem_cons_succ, List.getElem_cons_zero, Act.put, List.setIfInBounds_toArray, List.set_cons_zero, List.set_cons_succ]
    refine wpAnyH_take (i := 5) (v := ?vb5) rfl (by kernel_rfl) (by kernel_rfl) (by kernel_rfl) (fun _ _ _ h => h) (Or.inl ⟨by rfl, ?yb5⟩) hHeld ?rb5
    case yb5 => (intro W hW; go_simp; first | done | with_reducible rfl)
    try simp only [List.getElem_toArray, List.getElem_cons_succ, List.getElem_cons_zero, Act.put, List.setIfInBounds_toArray, List.set_cons_zero, List.set_cons_succ]
    refine wpAnyH_take (i := 6) (v := ?vb6) rfl (by kernel_rfl) (by kernel_rfl) (by kernel_rfl) (fun _ _ _ h => h) (Or.inl ⟨by rfl, ?yb6⟩) hHeld ?rb6
    case yb6 => (intro W hW; go_simp; first | done | with_reducible rfl)
    try simp only [List.getElem_toArray, List.getElem_cons_succ, List.getElem_cons_zero, Act.put, List.setIfInBounds_toArray, List.set_cons_zero, List.set_cons_succ]
    refine wpAnyH_take (i := 7) (v := ?vb7) rfl (by kernel_rfl) (by kernel_rfl) (by kernel_rfl) (fun _ _ _ h => h) (Or.inl ⟨by rfl, ?yb7⟩) hHeld ?rb7
    case yb7 => (intro W hW; go_simp; first | done | with_reducible rfl)
    try simp only [List.getElem_toArray, List.getElem_cons_succ, List.getElem_cons_zero, Act.put, List.setIfInBounds_toArray, List.set_cons_zero, List.set_cons_succ]
    refine wpAnyH_take (i := 8) (v := ?vb8) rfl (by kernel_rfl) (by kernel_rfl) (by kernel_rfl) (fun _ _ _ h => h) (Or.inl ⟨by rfl, ?yb8⟩) hHeld ?rb8
    case yb8 => (intro W hW; go_simp; first | done | with_reducible rfl)
    try simp only [List.getElem_toArray, List.getElem_cons_succ, List.getElem_cons_zero, Act.put, List.setIfInBounds_toArray, List.set_cons_zero, List.set_cons_succ]
    refine wpAnyH_take (i := 9) (v := ?vb9) rfl (by kernel_rfl) (by kernel_rfl) (by kernel_rfl) (fun _ _ _ h => h) (Or.inl ⟨by rfl, ?yb9⟩) hHeld ?rb9
    case yb9 => (intro W hW; go_simp; first | done | with_reducible rfl)
    try simp only [List.getElem_toArray, List.getElem_cons_succ, List.getElem_cons_zero, Act.put, List.setIfInBounds_toArray, List.set_cons_zero, List.set_cons_succ]
    refine wpAnyH_take (i := 10) (v := ?vb10) rfl (by kernel_rfl) (by kernel_rfl) (by kernel_rfl) (fun _ _ _ h => h) (Or.inl ⟨by rfl, ?yb10⟩) hHeld ?rb10
    case yb10 => (intro W hW; go_simp; first | done | with_reducible rfl)
    try simp only [List.getElem_toArray, List.getElem_cons_succ, List.getElem_cons_zero, Act.put, List.setIfInBounds_toArray, List.set_cons_zero, List.set_cons_succ]
    refine wpAnyH_take (i := 11) (v := undef) rfl (by kernel_rfl) (by kernel_rfl) (by kernel_rfl) (fun _ _ _ h => h) (Or.inr ⟨by rfl, rfl⟩) hHeld ?rb11
    try simp only [List.getElem_toArray, List.getElem_cons_succ, List.getElem_cons_zero, Act.put, List.setIfInBounds_toArray, List.set_cons_zero, List.set_cons_succ]
    refine wpAnyH_take (i := 12) (v := undef) rfl (by kernel_rfl) (by kernel_rfl) (by kernel_rfl) (fun _ _ _ h => h) (Or.inr ⟨by rfl, rfl⟩) hHeld ?rb12
    try simp only [List.getElem_toArray, List.getElem_cons_succ, List.getElem_cons_zero, Act.put, List.setIfInBounds_toArray, List.set_cons_zero, List.set_cons_succ]
    refine wpAnyH_take (i := 13) (v := undef) rfl (by kernel_rfl) (by kernel_rfl) (by kernel_rfl) (fun _ _ _ h => h) (Or.inr ⟨by rfl, rfl⟩) hHeld ?rb13
    try simp only [List.getElem_toArray, List.getElem_cons_succ, List.getElem_cons_zero, Act.put, List.setIfInBounds_toArray, List.set_cons_zero, List.set_cons_succ]
    refine wpAnyH_take (i := 14) (v := undef) rfl (by kernel_rfl) (by kernel_rfl) (by kernel_rfl) (fun _ _ _ h => h) (Or.inr ⟨by rfl, rfl⟩) hHeld ?rb14
    try simp only [List.getElem_toArray, List.getElem_cons_succ, List.getElem_cons_zero, Act.put, List.setIfInBounds_toArray, List.set_cons_zero, List.set_cons_succ]
    refine wpAnyH_take (i := 15) (v := undef) rfl (by kernel_rfl) (by kernel_rfl) (by kernel_rfl) (fun _ _ _ h => h) (Or.inr ⟨by rfl, rfl⟩) hHeld ?rb15
    try simp only [List.getElem_toArray, List.getElem_cons_succ, List.getElem_cons_zero, Act.put, List.setIfInBounds_toArray, List.set_cons_zero, List.set_cons_succ]
    refine wpAnyH_take (i := 16) (v := undef) rfl (by kernel_rfl) (by kernel_rfl) (by kernel_rfl) (fun _ _ _ h => h) (Or.inr ⟨by rfl, rfl⟩) hHeld ?rb16
    try simp only [List.getElem_toArray, List.getElem_cons_succ, List.getElem_cons_zero, Act.put, List.setIfInBounds_toArray, List.set_cons_zero, List.set_cons_succ]
    refine wpAnyH_take (i := 17) (v := undef) rfl (by kernel_rfl) (by kernel_rfl) (by kernel_rfl) (fun _ _ _ h => h) (Or.inr ⟨by rfl, rfl⟩) hHeld ?rb17
    try simp only [List.getElem_toArray, List.getElem_cons_succ, List.getElem_cons_zero, Act.put, List.setIfInBounds_toArray, List.set_cons_zero, List.set_cons_succ]
    refine wpAnyH_take (i := 18) (v := undef) rfl (by kernel_rfl) (by kernel_rfl) (by kernel_rfl) (fun _ _ _ h => h) (Or.inr ⟨by rfl, rfl⟩) hHeld ?rb18
    try simp only [List.getElem_toArray, List.getElem_cons_succ, List.getElem_cons_zero, Act.put, List.setIfInBounds_toArray, List.set_cons_zero, List.set_cons_succ]
    refine wpAnyH_take (i := 19) (v := ?vb19) rfl (by kernel_rfl) (by kernel_rfl) (by kernel_rfl) (fun _ _ _ h => h) (Or.inl ⟨by rfl, ?yb19⟩) hHeld ?rb19
    case yb19 => (intro W hW; go_simp; first | done | with_reducible rfl)
    try simp only [List.getElem_toArray, List.getElem_cons_succ, List.getElem_cons_zero, Act.put, List.setIfInBounds_toArray, List.set_cons_zero, List.set_cons_succ]
    refine wpAnyH_done (by kernel_rfl) ?_ _
    go_wp2
    go_ret
    exact ⟨by rw [HPF.out]; rfl, HB1.out⟩
end Go.Proofs.YtjllmladhjbnaaaGreatDoor
/- Package sorts: Cost. -/
namespace Go.Proofs.YtjllmladhjbnaaaGreatDoor
open Go.RowKit Go.Shelf
attribute [local go_sem] Oper.semAt_some
def sumTo (cs : List Int) (n : Int) (es : List Ed) (k : Nat) : Int := ((es.take k).map (costE cs n)).sum
theorem sumTo_succ {cs : List Int} {n : Int} {es : List Ed} {k : Nat} {e : Ed} (h : es[k]? = some e) : sumTo cs n es (k + 1) = sumTo cs n es k + costE cs n e := by
  unfold sumTo
  rw [List.take_add_one, h]
  simp
theorem sumTo_bd {cs : List Int} {n : Int} {es : List Ed} (h : ∀ e ∈ es, 0 ≤ costE cs n e ∧ costE cs n e ≤ 3000) : ∀ k, k ≤ es.length → 0 ≤ sumTo cs n es k ∧ sumTo cs n es k ≤ 3000 * (k : Int)
  | 0, _ => by simp [sumTo]
  | k + 1, hk => by
    have ih := sumTo_bd h k (by omega)
    have he : es[k]? = some es[k] := List.getElem?_eq_getElem (by omega)
    have := h es[k] (List.getElem_mem _)
    rw [sumTo_succ he]
    omega
theorem right_p {cs : List Int} {es : List Ed} (g1 : 1 ≤ cs.length) (g4 : cs.length ≤ 4) (h : RightP cs.length es) {e : Ed} (he : e ∈ es.tail) : 0 ≤ e.p ∧ e.p ≤ fullB cs.length := by
  have hm := h.mem (List.mem_of_mem_tail he)
  exact sets_bd _ g1 g4 _ (par_lvl _ g1 g4 _ hm _ (h.par e he)).2
theorem costE_bd {cs : List Int} {n : Int} {es : List Ed} (g : Good cs n) (h : RightP cs.length es) : ∀ e ∈ es, 0 ≤ costE cs n e ∧ costE cs n e ≤ 3000 := by
  intro e he
  unfold costE
  split
  · omega
  · rename_i hp
    have ht : e ∈ es.tail := by
      rw [h.cons] at he
      rcases List.mem_cons.1 he with rfl | h2
      · exact absurd (show (-1 : Int) < 0 by omega) hp
      · exact h2
    obtain ⟨p0, p1⟩ := right_p g.d1 g.d4 h ht
    have a := sortB_bd g.c p0 p1 g.d4 g.n0 g.n3
    have b := sizeB_bd g.c p0 p1 g.d4 g.n0 g.n3
    split <;> omega
/-- What Cost answers. -/
def costB (cs : List Int) (n : Int) (es : List Ed) : Int := if planB es cs.length then costP cs n es else 0
set_option maxRecDepth 100000 in
set_option maxHeartbeats 4000000 in
theorem price_any (A : Option Addr) (q c mm : Nat) (n : Int) (e : Ed) (w : World) :
    Calls Tryz.prog 28 #[.agg #[.slice A q c, .int .i64 mm, .int .i64 n], eV e] w fun x w' => x = .returned (.func (.func (if e.sc then 59 else 60)) #[.agg #[.slice A q c, .int .i64 mm, .int .i64 n]] #[]) ∧ Below w.heap.size w w' := by
  have hb : Below w.heap.size w ((w.alloc (.cells #[.slice A q c, .int .i64 mm, .int .i64 n] 50)).alloc (.cells #[.int .i64 e.s, .int .i64 e.p, .bool e.sc] 42)) := (below_box w _).alloc (by simp) _
  have HB := Lib.hid hb
  unfold eV
  obtain ⟨sc, hsc⟩ : ∃ sc, sc = e.sc := ⟨_, rfl⟩
  rw [← hsc] at HB ⊢
  clear hb hsc
  cases sc with
  | true =>
    go_enter Tryz.func28, Tryz.ntmps28
    go_wp2
    go_ret
    exact ⟨rfl, HB.out⟩
  | false =>
    go_enter Tryz.func28, Tryz.ntmps28
    go_wp2
    go_ret
    exact ⟨rfl, HB.out⟩
theorem priced_any (A : Option Addr) (q c mm : Nat) (cs : List Int) (n p : Int) (sc : Bool) (w : World) (h : FQ w A q mm cs n) (h1 : 0 ≤ p) (h2 : p ≤ fullB q) :
    Calls Tryz.prog (if sc then 59 else 60) #[.agg #[.slice A q c, .int .i64 mm, .int .i64 n], .int .i64 p] w fun e w' => e = .returned (.int .i64 (costE cs n ⟨0, p, sc⟩)) ∧ Below w.heap.size w w' := by
  cases sc with
  | true =>
    have e1 : costE cs n ⟨0, p, true⟩ = sizeB cs n p := by unfold costE; rw [if_neg (by show ¬ p < 0; omega), if_pos rfl]
    rw [e1, if_pos rfl]
    exact fscan_any A q c mm cs n p w h h1 h2
  | false =>
    have e1 : costE cs n ⟨0, p, false⟩ = sortB cs n p := by unfold costE; rw [if_neg (by show ¬ p < 0; omega)]; rfl
    rw [e1, if_neg (by simp)]
    exact fsort_any A q c mm cs n p w h h1 h2
set_option maxRecDepth 100000 in
set_option maxHeartbeats 8000000 in
theorem cost_any (A : Option Addr) (q c mm : Nat) (cs : List Int) (n : Int) (P : Option Addr) (m d : Nat) (es : List Ed) (w : World) (h : FQ w A q mm cs n) (hck : checkB cs (mm : Int) = true) (hE : Edgs w P m es) (hmd : m ≤ d) (hm : m ≤ 1000) :
    Calls Tryz.prog 12 #[.agg #[.slice A q c, .int .i64 mm], .int .i64 n, .slice P m d] w fun e w' => e = .returned (.int .i64 (costB cs n es)) ∧ Below w.heap.size w w' := by
  have hcl := h.len
  have hg := h.good
  have q1 := h.q1
  have q4 := h.q4
  obtain ⟨w0, hw0⟩ : ∃ w0, w0 = w.alloc (.cells #[.slice A q c, .int .i64 mm] 25) := ⟨_, rfl⟩
  have hb0 : Below w.heap.size w w0 := by rw [hw0]; exact below_box w _
  have hbx : Bx w0 w.heap.size #[.slice A q c, .int .i64 mm] := by rw [hw0]; exact Bx.new _ _ _
  have HP := Lib.hid (proper_any' A q c mm cs n w0 (h.below hb0 (Nat.le_refl _)) hck)
  have HF := Lib.hid h
  have HE := Lib.hid hE
  have hE1 := Lib.hid hE.1
  have HB0 := Lib.hid hb0
  have HX0 := Lib.hid hbx
  have HW0 := Lib.hid hw0
  have HG := Lib.hid hg
  unfold costB
  rw [hcl]
  obtain ⟨b, hb⟩ : ∃ b, b = planB es q := ⟨_, rfl⟩
  rw [← hb]
  have HBB := Lib.hid hb
  clear h hb0 hbx hck hw0 hE hg hb
  go_enter Tryz.func12, Tryz.ntmps12
  go_wp2_with fail
  rw [← HW0.out]
  refine HP.out.mono ?_
  rintro e w1 ⟨rfl, hb1⟩
  have hb1w := HB0.out.trans (hb1.mono HB0.out.size)
  have hf1 := HF.out.below hb1w (Nat.le_refl _)
  have HR := Lib.hid (right_any P m d q es w1 (HE.out.keep (Keeps.of_below hb1w)) hmd hm q1 q4 hf1.tab hf1.w1)
  rw [← HBB.out] at HR
  have hx1 := HX0.out.keep (Keeps.of_below hb1)
  have HX1 := Lib.hid hx1
  have HB1 := Lib.hid hb1w
  have x0 : w1.cell? ⟨w.heap.size, 0, none⟩ = some (.slice A q c) := hx1 0 _ rfl
  clear hb1 hb1w hf1 hx1
  go_wp2_with fail
  refine HR.out.mono ?_
  rintro e w2 ⟨rfl, hb2⟩
  have HB2 := Lib.hid (HB1.out.trans (hb2.mono HB1.out.size))
  have HX2 := Lib.hid (HX1.out.keep (Keeps.of_below hb2))
  clear hb2 x0
  cases b with
  | false =>
    go_wp2
    go_ret
    exact ⟨rfl, HB2.out⟩
  | true =>
    have hrp : RightP q es := (plan_iff q1 q4 es).1 HBB.out.symm
    have hsl := setsL_len q q1 q4
    have hml : m = 2 ^ q := by rw [← hE1.out, ← hsl, ← hrp.sets, List.length_map]
    have m2 : 2 ≤ m := by
      rw [hml]
      rcases (by omega : q = 1 ∨ q = 2 ∨ q = 3 ∨ q = 4) with rfl | rfl | rfl | rfl <;> decide
    have m16 : m ≤ 16 := by rw [hml]; exact (pow_16 q q4).1
    obtain ⟨g0, o0, rfl, -⟩ := HE.out.2.2 (by omega)
    have d1 : ¬ d = 1 := by omega
    have m1z : (1 : Int) ≤ (m : Int) := by omega
    have HRP := Lib.hid hrp
    have hbd := costE_bd (cs := cs) (n := n) HG.out (by rw [hcl]; exact hrp)
    have HBD := Lib.hid (sumTo_bd hbd)
    have hel := hE1.out
    obtain ⟨wF, hwF⟩ : ∃ wF, wF = w2.alloc (.cells #[.slice A q c, .int .i64 mm, .int .i64 n] 50) := ⟨_, rfl⟩
    have hbF : Below w2.heap.size w2 wF := by rw [hwF]; exact below_box w2 _
    have hxF : Bx wF w2.heap.size #[.slice A q c, .int .i64 mm, .int .i64 n] := by rw [hwF]; exact Bx.new _ _ _
    have HWF := Lib.hid hwF
    have HBF := Lib.hid hbF
    have HXF := Lib.hid hxF
    have x0 : w2.cell? ⟨w.heap.size, 0, none⟩ = some (.slice A q c) := HX2.out 0 _ rfl
    have x1 : w2.cell? ⟨w.heap.size, 1, none⟩ = some (.int .i64 mm) := HX2.out 1 _ rfl
    have hs1 : sumTo cs n es 1 = 0 := by
      have h0 : es[0]? = some (topE q) := by rw [← List.head?_eq_getElem?]; exact hrp.head
      rw [sumTo_succ h0, costE_top]
      rfl
    have HS1 := Lib.hid hs1
    clear hrp hsl hml hbd hwF hbF hxF hs1 hE1
    go_wp2_with fail
    rw [← HWF.out]
    go_loopw [8, 30] (fun sm i wr => ∃ k : Nat, i = .int .i64 k ∧ k + 1 ≤ m ∧ sm = .int .i64 (sumTo cs n es (k + 1)) ∧ Below wF.heap.size wF wr) (fun _ i _ => m - (intOf i).toNat)
    case atStart => exact ⟨0, rfl, by omega, by rw [HS1.out], Below.refl _ _⟩
    case round =>
      obtain ⟨k, rfl, hk, rfl, hb⟩ := hrel
      rename World => wr
      have HB := Lib.hid hb
      have hz := hb.size
      clear hb
      have k0 : (0 : Int) ≤ (k : Int) := by omega
      by_cases hkm : k + 1 < m
      · obtain ⟨e, he⟩ : ∃ e, es[k + 1]? = some e := ⟨_, List.getElem?_eq_getElem (by omega)⟩
        have hbw : Below w.heap.size w wr := HB2.out.trans ((HBF.out.mono HB2.out.size).trans (HB.out.mono (Nat.le_trans HB2.out.size HBF.out.size)))
        have HBW := Lib.hid hbw
        obtain ⟨g', o', e1, hcs⟩ := (HE.out.keep (Keeps.of_below hbw)).2.2 (by omega)
        injection e1 with e1
        injection e1 with e1 e2
        subst e1 e2
        obtain ⟨y0, y1, y2⟩ := hcs (k + 1) e he
        rw [show o0 + (k + 1) * 3 = o0 + 3 + k * 3 by omega] at y0 y1 y2
        have hxr := HXF.out.keep (Keeps.of_below HB.out)
        have f0 : wr.cell? ⟨w2.heap.size, 0, none⟩ = some (.slice A q c) := hxr 0 _ rfl
        have f1 : wr.cell? ⟨w2.heap.size, 1, none⟩ = some (.int .i64 mm) := hxr 1 _ rfl
        have f2 : wr.cell? ⟨w2.heap.size, 2, none⟩ = some (.int .i64 n) := hxr 2 _ rfl
        have hlt2 : w2.heap.size < wr.heap.size := block_lt f0
        obtain ⟨wb, hwb⟩ : ∃ wb, wb = wr.alloc (.cells #[.int .i64 e.s, .int .i64 e.p, .bool e.sc] 42) := ⟨_, rfl⟩
        have hbb : Below wr.heap.size wr wb := by rw [hwb]; exact below_box wr _
        have HWB := Lib.hid hwb
        have HBB2 := Lib.hid hbb
        have het : e ∈ es.tail := by
          refine List.mem_iff_getElem?.2 ⟨k, ?_⟩
          rw [List.getElem?_tail]
          exact he
        obtain ⟨p0, p1⟩ := right_p (cs := cs) (by omega) (by omega) (by rw [hcl]; exact HRP.out) het
        rw [hcl] at p1
        have HPR := Lib.hid (price_any A q c mm n e wb)
        unfold eV at HPR
        have hss := sumTo_succ (cs := cs) (n := n) he
        have HSS := Lib.hid hss
        have hsb1 := HBD.out (k + 1) (by omega)
        have hsb2 := HBD.out (k + 1 + 1) (by omega)
        rw [hss] at hsb2
        have hxb : Bx wb wr.heap.size #[.int .i64 e.s, .int .i64 e.p, .bool e.sc] := by rw [hwb]; exact Bx.new _ _ _
        have HXB := Lib.hid hxb
        have hce : costE cs n ⟨0, e.p, e.sc⟩ = costE cs n e := rfl
        have k2 : (k : Int) < (m : Int) - 1 := by omega
        clear hcs he hxr hwb hbb het hss hbw hxb
        go_wp2_with fail
        rw [← HWB.out]
        refine HPR.out.mono ?_
        rintro x w4 ⟨rfl, hb4⟩
        have HB4 := Lib.hid (HBB2.out.trans (hb4.mono HBB2.out.size))
        have hx4 := HXB.out.keep (Keeps.of_below hb4)
        have b1' : w4.cell? ⟨wr.heap.size, 1, none⟩ = some (.int .i64 e.p) := hx4 1 _ rfl
        have hb4w := HBW.out.trans (HB4.out.mono HBW.out.size)
        have HPC := Lib.hid (priced_any A q c mm cs n e.p e.sc w4 (HF.out.below hb4w (Nat.le_refl _)) p0 p1)
        rw [hce] at HPC
        obtain ⟨ce, hcee⟩ : ∃ ce, ce = costE cs n e := ⟨_, rfl⟩
        rw [← hcee] at HPC hsb2
        have HCE := Lib.hid hcee
        obtain ⟨sm, hsm⟩ : ∃ sm, sm = sumTo cs n es (k + 1) := ⟨_, rfl⟩
        rw [← hsm] at hsb1 hsb2 ⊢
        have HSM := Lib.hid hsm
        obtain ⟨ff, hff⟩ : ∃ ff, ff = (if e.sc then 59 else 60) := ⟨_, rfl⟩
        have hen : ∀ args W, (callFunc ff args).run Tryz.prog W = .ok (.enter ff args) W := by
          rw [hff]
          cases e.sc with
          | true => exact enters_of Tryz.func59 (by kernel_rfl) rfl
          | false => exact enters_of Tryz.func60 (by kernel_rfl) rfl
        rw [← hff] at HPC ⊢
        clear hb4 hx4 hb4w hce hcee hsm hff y0 y1 y2 f0 f1 f2
        go_wp2_with fail
        refine HPC.out.mono ?_
        rintro x w5 ⟨rfl, hb5⟩
        have hbf := (HB.out.trans (HB4.out.mono hz)).trans (hb5.mono (show wF.heap.size ≤ w4.heap.size from Nat.le_trans hz HB4.out.size))
        have HBf := Lib.hid hbf
        have hss2 : sumTo cs n es (k + 1 + 1) = sm + ce := by rw [HSS.out, HSM.out, HCE.out]
        have HS2 := Lib.hid hss2
        have hw64 : IntKind.i64.wrap (sm + ce) = sm + ce := IntWalk.i64_in _ (by omega)
        clear hb5 hbf hen hss2 b1'
        go_wp2
        go_roundw
        case rel => exact ⟨k + 1, by go_num, by omega, by rw [HS2.out], HBf.out⟩
        case measure => simp [intOf]; omega
      · obtain rfl : m = k + 1 := by omega
        have hfin : sumTo cs n es (k + 1) = costP cs n es := by
          unfold sumTo costP
          rw [List.take_of_length_le (by omega)]
        have HFI := Lib.hid hfin
        have hbw : Below w.heap.size w wr := HB2.out.trans ((HBF.out.mono HB2.out.size).trans (HB.out.mono (Nat.le_trans HB2.out.size HBF.out.size)))
        have HBW := Lib.hid hbw
        clear hfin hbw
        rw [HFI.out]
        go_wp2
        go_ret
        exact ⟨rfl, HBW.out⟩
end Go.Proofs.YtjllmladhjbnaaaGreatDoor
