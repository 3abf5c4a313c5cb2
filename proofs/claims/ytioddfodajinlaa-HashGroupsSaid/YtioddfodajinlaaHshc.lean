/- Package hash: the position at which a part's keys differ. -/
import Derived.IntWalk
import Derived.Test.YtioddfodajinlaaHsh2
import Derived.Test.YtioddfodajinlaaHshR
namespace Go.Proofs.Ytioddfodajinlaa
open Go.RowKit
attribute [local go_sem] Oper.semAt_some
def alikeB (L : List Cel) (a : Nat) : Bool := L.all fun c => valK c a == valK (L[0]?.getD ⟨[], 0, [], [], []⟩) a
theorem alikeB_iff {L : List Cel} {a : Nat} : alikeB L a = true ↔ ∀ c ∈ L, ∀ c' ∈ L, valK c a = valK c' a := by
  unfold alikeB
  rw [List.all_eq_true]
  constructor
  · intro h c hc c' hc'
    have h1 := h c hc
    have h2 := h c' hc'
    rw [beq_iff_eq] at h1 h2
    rw [h1, h2]
  · intro h c hc
    match L, hc with
    | x :: t, hc =>
      rw [beq_iff_eq]
      exact h c hc x (by simp)
/-- Where cells do not fit into so many slots there is a first position at which they differ. -/
theorem parting_is {slots d : Nat} (hs : 1 ≤ slots) {l : List Cel} (hn : ¬ (grpR l).length ≤ slots) : ∀ (f a : Nat), a + f = d → Fit d a l → ∃ q f', q + (f' + 1) = d ∧ a ≤ q ∧ (∀ p, a ≤ p → p < q → alikeB l p = true) ∧ alikeB l q = false ∧ Fit d q l ∧ partsP slots f a l = partsP slots (f' + 1) q l
  | 0, a, hd, h => by
    have := fit_lt hs (by omega) h hn
    omega
  | f + 1, a, hd, h => by
    cases hb : alikeB l a with
    | false => exact ⟨a, f, hd, Nat.le_refl _, fun p h1 h2 => by omega, hb, h, rfl⟩
    | true =>
      have hal := alikeB_iff.1 hb
      obtain ⟨q, f', h1, h2, h3, h4, h5, h6⟩ := parting_is hs hn f (a + 1) (by omega) (h.next (by omega) hal)
      refine ⟨q, f', h1, by omega, fun p p1 p2 => ?_, h4, h5, ?_⟩
      · by_cases e : p = a
        · rw [e]; exact hb
        · exact h3 p (by omega) p2
      · rw [parts_skip hd h hal hn, h6]
theorem alike_not {L : List Cel} {a i : Nat} {x y : Cel} (hx : L[i]? = some x) (hy : L[0]? = some y) (hne : valK x a ≠ valK y a) : alikeB L a = false := by
  cases h : alikeB L a with
  | false => rfl
  | true => exact absurd (alikeB_iff.1 h x (List.mem_of_getElem? hx) y (List.mem_of_getElem? hy)) hne
set_option maxRecDepth 100000 in
set_option maxHeartbeats 4000000 in
theorem halike_any (ad : Addr) (c N : Nat) (L : List Cel) (d a : Nat) (pos : Int) (w : World) (hl : CellsR w ad L) (hN : N = L.length) (hd : ∀ x ∈ L, x.key.length = d) (ha : a < d) (hn : N ≤ 1000000) :
    Calls Try.prog 64 #[.agg #[.slice (some ad) N c, .int .i64 pos], .int .i64 a] w fun e w' => e = .returned (.bool (alikeB L a)) ∧ Below w.heap.size w w' := by
  have HN := Lib.hid hN
  have HD := Lib.hid hd
  have a0 : (0 : Int) ≤ (a : Int) := by omega
  have a1 : (a : Int) < (d : Int) := by omega
  obtain ⟨w1, hw1⟩ : ∃ w1, w1 = w.alloc (.cells #[.slice (some ad) N c, .int .i64 pos] 84) := ⟨_, rfl⟩
  have o1 : Own 84 w1 w.heap.size [.slice (some ad) N c, .int .i64 pos] := by rw [hw1]; exact heap_alloc_new w _
  have hb1 : Below w.heap.size w w1 := by rw [hw1]; exact (Below.refl _ w).alloc (Nat.le_refl _) _
  have HL := Lib.hid (hl.keep (Keeps.of_below hb1))
  have HB1 := Lib.hid hb1
  obtain ⟨b, eb⟩ : ∃ b, b = w.heap.size := ⟨_, rfl⟩
  rw [← eb] at o1
  have O1 := Lib.hid o1
  have s0 := o1.cell (i := 0) rfl
  clear hl hN hd hb1 o1
  go_enter Try.func64, Try.ntmps64
  go_upto_region 1 with (fail)
  rw [← hw1, ← eb]
  clear hw1 eb
  go_wp2
  clear s0
  go_loopw [10] (fun i wr => ∃ k : Nat, k ≤ N ∧ i = .int .i64 k ∧ (∀ x ∈ L.take k, valK x a = valK (L[0]?.getD ⟨[], 0, [], [], []⟩) a) ∧ Below w1.heap.size w1 wr) (fun i _ => N - (intOf i).toNat)
  case atStart => exact ⟨0, by omega, rfl, by simp, Below.refl _ _⟩
  case round =>
    obtain ⟨k, hk, rfl, hall, hb⟩ := hrel
    rename World => wr
    have Hb := Lib.hid hb
    have HA := Lib.hid hall
    clear hb hall
    by_cases hlt : k < N
    · obtain ⟨x, hx⟩ : ∃ x, L[k]? = some x := ⟨_, List.getElem?_eq_getElem (by have := HN.out; omega)⟩
      obtain ⟨y, hy⟩ : ∃ y, L[0]? = some y := ⟨_, List.getElem?_eq_getElem (by have := HN.out; omega)⟩
      have hdx := HD.out x (List.mem_of_getElem? hx)
      have hdy := HD.out y (List.mem_of_getElem? hy)
      have kp := Keeps.of_below Hb.out
      obtain ⟨vk, vs, vn, vm, p0, p1, p2, p3, p4, ⟨⟨Pk, ck, rfl, nk, -⟩, ⟨Ps, cs, rfl, _⟩, ⟨Pn, cn, rfl, _⟩, ⟨Pm, cm, rfl, _⟩⟩, _⟩ := (HL.out k x hx).keep kp
      have hy0 := (HL.out 0 y hy).keep kp
      rw [show ad.add (0 * 5) = ad from by simp [Addr.add]] at hy0
      obtain ⟨uk, us, un, um, c0, c1, c2, c3, c4, ⟨⟨Qk, dk, rfl, mk, -⟩, ⟨Qs, ds, rfl, _⟩, ⟨Qn, dn, rfl, _⟩, ⟨Qm, dm, rfl, _⟩⟩, _⟩ := hy0
      rw [hdx] at p0 nk
      rw [hdy] at c0 mk
      obtain ⟨A1, v1, rfl, hv1, -, g1⟩ := nk.at_ (k := a) ha
      obtain ⟨A2, v2, rfl, hv2, -, g2⟩ := mk.at_ (k := a) ha
      have e1 : valK x a = v1 := by unfold valK; rw [hv1]; rfl
      have e2 : valK y a = v2 := by unfold valK; rw [hv2]; rfl
      obtain ⟨w5, hw5⟩ : ∃ w5, w5 = wr.alloc (.cells #[.slice (some A1) d ck, .int .i64 x.cnt, .slice Ps x.sum.length cs, .slice Pn x.mn.length cn, .slice Pm x.mx.length cm] 39) := ⟨_, rfl⟩
      have o5 : Own 39 w5 wr.heap.size [.slice (some A1) d ck, .int .i64 x.cnt, .slice Ps x.sum.length cs, .slice Pn x.mn.length cn, .slice Pm x.mx.length cm] := by rw [hw5]; exact heap_alloc_new wr _
      have hb5 : Below wr.heap.size wr w5 := by rw [hw5]; exact (Below.refl _ _).alloc (Nat.le_refl _) _
      have k5 := Keeps.of_below hb5
      have r0 := o5.cell (i := 0) rfl
      have t0 := (O1.out.below Hb.out O1.out.lt).below hb5 (Nat.lt_of_lt_of_le O1.out.lt Hb.out.size)
      have s0 := t0.cell (i := 0) rfl
      have c0' := k5 _ _ c0
      have g1' := k5 _ _ g1
      have g2' := k5 _ _ g2
      have Hb5 := Lib.hid (Hb.out.trans (hb5.mono Hb.out.size))
      have i0 : (0 : Int) ≤ (k : Int) := by omega
      have i1 : (k : Int) < (N : Int) := by omega
      have d1 : decide ((k : Int) < (N : Int)) = true := decide_eq_true i1
      have d2 : decide (k < N) = true := by simp; omega
      have q0 : 0 < N := by omega
      have q1 : (0 : Int) < (N : Int) := by omega
      have hw5' := Lib.hid hw5
      generalize x.cnt = cnt at *
      generalize x.sum.length = l2 at *
      generalize x.mn.length = l3 at *
      generalize x.mx.length = l4 at *
      clear nk mk hdx hdy kp c0 c1 c2 c3 c4 g1 g2 o5 hb5 k5 t0 hv1 hv2 hw5
      go_upto_region 4 with (fail)
      rw [← hw5'.out]
      by_cases hv : v1 = v2
      · have dv : (v1 != v2) = false := by simp [hv]
        refine wp_region_held_drew (S := fun W => W.cell? ⟨wr.heap.size, 0, none⟩ = some (.slice (some A1) d ck) ∧ W.cell? ⟨b, 0, none⟩ = some (.slice (some ad) N c) ∧ W.cell? ad = some (.slice (some A2) d dk) ∧ W.cell? (A1.add a) = some (.int .i64 v1) ∧ W.cell? (A2.add a) = some (.int .i64 v2)) (by kernel_rfl) ⟨r0, s0, c0', g1', g2'⟩ (fun hHeld => ?_)
        refine wpAnyH_take (i := 0) (v := ?vpa0) rfl (by kernel_rfl) (by kernel_rfl) (by kernel_rfl) (fun _ _ _ h => h) (Or.inl ⟨by rfl, ?ypa0⟩) hHeld ?rpa0
        case ypa0 => (intro W hW; obtain ⟨h0, h1, h2, h3, h4⟩ := hW; go_simp; first | done | with_reducible rfl)
        try simp only [List.getElem_toArray, List.getElem_cons_zero, Act.put, List.setIfInBounds_toArray, List.set_cons_zero, List.set_cons_succ]
        refine wpAnyH_take (i := 1) (v := ?vpa1) rfl (by kernel_rfl) (by kernel_rfl) (by kernel_rfl) (fun _ _ _ h => h) (Or.inl ⟨by rfl, ?ypa1⟩) hHeld ?rpa1
        case ypa1 => (intro W hW; obtain ⟨h0, h1, h2, h3, h4⟩ := hW; go_simp; first | done | with_reducible rfl)
        try simp only [List.getElem_toArray, List.getElem_cons_succ, List.getElem_cons_zero, Act.put, List.setIfInBounds_toArray, List.set_cons_zero, List.set_cons_succ]
        refine wpAnyH_take (i := 2) (v := ?vpa2) rfl (by kernel_rfl) (by kernel_rfl) (by kernel_rfl) (fun _ _ _ h => h) (Or.inl ⟨by rfl, ?ypa2⟩) hHeld ?rpa2
        case ypa2 => (intro W hW; obtain ⟨h0, h1, h2, h3, h4⟩ := hW; go_simp; first | done | with_reducible rfl)
        try simp only [List.getElem_toArray, List.getElem_cons_succ, List.getElem_cons_zero, Act.put, List.setIfInBounds_toArray, List.set_cons_zero, List.set_cons_succ]
        refine wpAnyH_take (i := 3) (v := ?vpa3) rfl (by kernel_rfl) (by kernel_rfl) (by kernel_rfl) (fun _ _ _ h => h) (Or.inl ⟨by rfl, ?ypa3⟩) hHeld ?rpa3
        case ypa3 => (intro W hW; obtain ⟨h0, h1, h2, h3, h4⟩ := hW; go_simp; first | done | with_reducible rfl)
        try simp only [List.getElem_toArray, List.getElem_cons_succ, List.getElem_cons_zero, Act.put, List.setIfInBounds_toArray, List.set_cons_zero, List.set_cons_succ]
        refine wpAnyH_take (i := 4) (v := ?vpa4) rfl (by kernel_rfl) (by kernel_rfl) (by kernel_rfl) (fun _ _ _ h => h) (Or.inl ⟨by rfl, ?ypa4⟩) hHeld ?rpa4
        case ypa4 => (intro W hW; obtain ⟨h0, h1, h2, h3, h4⟩ := hW; go_simp; first | done | with_reducible rfl)
        try simp only [List.getElem_toArray, List.getElem_cons_succ, List.getElem_cons_zero, Act.put, List.setIfInBounds_toArray, List.set_cons_zero, List.set_cons_succ]
        refine wpAnyH_take (i := 5) (v := ?vpa5) rfl (by kernel_rfl) (by kernel_rfl) (by kernel_rfl) (fun _ _ _ h => h) (Or.inl ⟨by rfl, ?ypa5⟩) hHeld ?rpa5
        case ypa5 => (intro W hW; obtain ⟨h0, h1, h2, h3, h4⟩ := hW; go_simp; first | done | with_reducible rfl)
        try simp only [List.getElem_toArray, List.getElem_cons_succ, List.getElem_cons_zero, Act.put, List.setIfInBounds_toArray, List.set_cons_zero, List.set_cons_succ]
        refine wpAnyH_take (i := 6) (v := ?vpa6) rfl (by kernel_rfl) (by kernel_rfl) (by kernel_rfl) (fun _ _ _ h => h) (Or.inl ⟨by rfl, ?ypa6⟩) hHeld ?rpa6
        case ypa6 => (intro W hW; obtain ⟨h0, h1, h2, h3, h4⟩ := hW; go_simp; first | done | with_reducible rfl)
        try simp only [List.getElem_toArray, List.getElem_cons_succ, List.getElem_cons_zero, Act.put, List.setIfInBounds_toArray, List.set_cons_zero, List.set_cons_succ]
        refine wpAnyH_take (i := 7) (v := ?vpa7) rfl (by kernel_rfl) (by kernel_rfl) (by kernel_rfl) (fun _ _ _ h => h) (Or.inl ⟨by rfl, ?ypa7⟩) hHeld ?rpa7
        case ypa7 => (intro W hW; obtain ⟨h0, h1, h2, h3, h4⟩ := hW; go_simp; first | done | with_reducible rfl)
        try simp only [List.getElem_toArray, List.getElem_cons_succ, List.getElem_cons_zero, Act.put, List.setIfInBounds_toArray, List.set_cons_zero, List.set_cons_succ]
        refine wpAnyH_take (i := 8) (v := ?vpa8) rfl (by kernel_rfl) (by kernel_rfl) (by kernel_rfl) (fun _ _ _ h => h) (Or.inl ⟨by rfl, ?ypa8⟩) hHeld ?rpa8
        case ypa8 => (intro W hW; obtain ⟨h0, h1, h2, h3, h4⟩ := hW; go_simp; first | done | with_reducible rfl)
        try simp only [List.getElem_toArray, List.getElem_cons_succ, List.getElem_cons_zero, Act.put, List.setIfInBounds_toArray, List.set_cons_zero, List.set_cons_succ]
        refine wpAnyH_take (i := 9) (v := ?vpa9) rfl (by kernel_rfl) (by kernel_rfl) (by kernel_rfl) (fun _ _ _ h => h) (Or.inl ⟨by rfl, ?ypa9⟩) hHeld ?rpa9
        case ypa9 => (intro W hW; obtain ⟨h0, h1, h2, h3, h4⟩ := hW; go_simp; first | done | with_reducible rfl)
        try simp only [List.getElem_toArray, List.getElem_cons_succ, List.getElem_cons_zero, Act.put, List.setIfInBounds_toArray, List.set_cons_zero, List.set_cons_succ]
        refine wpAnyH_take (i := 10) (v := ?vpa10) rfl (by kernel_rfl) (by kernel_rfl) (by kernel_rfl) (fun _ _ _ h => h) (Or.inl ⟨by rfl, ?ypa10⟩) hHeld ?rpa10
        case ypa10 => (intro W hW; obtain ⟨h0, h1, h2, h3, h4⟩ := hW; go_simp; first | done | with_reducible rfl)
        try simp only [List.getElem_toArray, List.getElem_cons_succ, List.getElem_cons_zero, Act.put, List.setIfInBounds_toArray, List.set_cons_zero, List.set_cons_succ]
        refine wpAnyH_take (i := 11) (v := ?vpa11) rfl (by kernel_rfl) (by kernel_rfl) (by kernel_rfl) (fun _ _ _ h => h) (Or.inl ⟨by rfl, ?ypa11⟩) hHeld ?rpa11
        case ypa11 => (intro W hW; obtain ⟨h0, h1, h2, h3, h4⟩ := hW; go_simp; first | done | with_reducible rfl)
        try simp only [List.getElem_toArray, List.getElem_cons_succ, List.getElem_cons_zero, Act.put, List.setIfInBounds_toArray, List.set_cons_zero, List.set_cons_succ]
        refine wpAnyH_take (i := 12) (v := ?vpa12) rfl (by kernel_rfl) (by kernel_rfl) (by kernel_rfl) (fun _ _ _ h => h) (Or.inl ⟨by rfl, ?ypa12⟩) hHeld ?rpa12
        case ypa12 => (intro W hW; obtain ⟨h0, h1, h2, h3, h4⟩ := hW; go_simp; first | done | with_reducible rfl)
        try simp only [List.getElem_toArray, List.getElem_cons_succ, List.getElem_cons_zero, Act.put, List.setIfInBounds_toArray, List.set_cons_zero, List.set_cons_succ]
        refine wpAnyH_take (i := 13) (v := ?vpa13) rfl (by kernel_rfl) (by kernel_rfl) (by kernel_rfl) (fun _ _ _ h => h) (Or.inl ⟨by rfl, ?ypa13⟩) hHeld ?rpa13
        case ypa13 => (intro W hW; obtain ⟨h0, h1, h2, h3, h4⟩ := hW; go_simp; first | done | with_reducible rfl)
        try simp only [List.getElem_toArray, List.getElem_cons_succ, List.getElem_cons_zero, Act.put, List.setIfInBounds_toArray, List.set_cons_zero, List.set_cons_succ]
        refine wpAnyH_done (by kernel_rfl) ?_ _
        clear hHeld
        have HALL : Hid (∀ z ∈ L.take (k + 1), valK z a = valK (L[0]?.getD ⟨[], 0, [], [], []⟩) a) := Lib.hid (fun z hz => by
          rw [List.take_add_one, hx] at hz
          rcases List.mem_append.1 hz with h | h
          · exact HA.out z h
          · rw [Option.toList_some, List.mem_singleton] at h
            subst h
            rw [hy, Option.getD_some, e1, e2, hv])
        clear hx hy e1 e2 r0 s0 c0' g1' g2' p0 p1 p2 p3 p4
        go_wp2
        go_roundw
        case rel => exact ⟨k + 1, by omega, by go_num, HALL.out, Hb5.out.drew⟩
        case measure => simp [intOf]; omega
      · have dv : (v1 != v2) = true := by simp [hv]
        refine wp_region_held_drew (S := fun W => W.cell? ⟨wr.heap.size, 0, none⟩ = some (.slice (some A1) d ck) ∧ W.cell? ⟨b, 0, none⟩ = some (.slice (some ad) N c) ∧ W.cell? ad = some (.slice (some A2) d dk) ∧ W.cell? (A1.add a) = some (.int .i64 v1) ∧ W.cell? (A2.add a) = some (.int .i64 v2)) (by kernel_rfl) ⟨r0, s0, c0', g1', g2'⟩ (fun hHeld => ?_)
        refine wpAnyH_take (i := 0) (v := ?vpb0) rfl (by kernel_rfl) (by kernel_rfl) (by kernel_rfl) (fun _ _ _ h => h) (Or.inl ⟨by rfl, ?ypb0⟩) hHeld ?rpb0
        case ypb0 => (intro W hW; obtain ⟨h0, h1, h2, h3, h4⟩ := hW; go_simp; first | done | with_reducible rfl)
        try simp only [List.getElem_toArray, List.getElem_cons_zero, Act.put, List.setIfInBounds_toArray, List.set_cons_zero, List.set_cons_succ]
        refine wpAnyH_take (i := 1) (v := ?vpb1) rfl (by kernel_rfl) (by kernel_rfl) (by kernel_rfl) (fun _ _ _ h => h) (Or.inl ⟨by rfl, ?ypb1⟩) hHeld ?rpb1
        case ypb1 => (intro W hW; obtain ⟨h0, h1, h2, h3, h4⟩ := hW; go_simp; first | done | with_reducible rfl)
        try simp only [List.getElem_toArray, List.getElem_cons_succ, List.getElem_cons_zero, Act.put, List.setIfInBounds_toArray, List.set_cons_zero, List.set_cons_succ]
        refine wpAnyH_take (i := 2) (v := ?vpb2) rfl (by kernel_rfl) (by kernel_rfl) (by kernel_rfl) (fun _ _ _ h => h) (Or.inl ⟨by rfl, ?ypb2⟩) hHeld ?rpb2
        case ypb2 => (intro W hW; obtain ⟨h0, h1, h2, h3, h4⟩ := hW; go_simp; first | done | with_reducible rfl)
        try simp only [List.getElem_toArray, List.getElem_cons_succ, List.getElem_cons_zero, Act.put, List.setIfInBounds_toArray, List.set_cons_zero, List.set_cons_succ]
        refine wpAnyH_take (i := 3) (v := ?vpb3) rfl (by kernel_rfl) (by kernel_rfl) (by kernel_rfl) (fun _ _ _ h => h) (Or.inl ⟨by rfl, ?ypb3⟩) hHeld ?rpb3
        case ypb3 => (intro W hW; obtain ⟨h0, h1, h2, h3, h4⟩ := hW; go_simp; first | done | with_reducible rfl)
        try simp only [List.getElem_toArray, List.getElem_cons_succ, List.getElem_cons_zero, Act.put, List.setIfInBounds_toArray, List.set_cons_zero, List.set_cons_succ]
        refine wpAnyH_take (i := 4) (v := ?vpb4) rfl (by kernel_rfl) (by kernel_rfl) (by kernel_rfl) (fun _ _ _ h => h) (Or.inl ⟨by rfl, ?ypb4⟩) hHeld ?rpb4
        case ypb4 => (intro W hW; obtain ⟨h0, h1, h2, h3, h4⟩ := hW; go_simp; first | done | with_reducible rfl)
        try simp only [List.getElem_toArray, List.getElem_cons_succ, List.getElem_cons_zero, Act.put, List.setIfInBounds_toArray, List.set_cons_zero, List.set_cons_succ]
        refine wpAnyH_take (i := 5) (v := ?vpb5) rfl (by kernel_rfl) (by kernel_rfl) (by kernel_rfl) (fun _ _ _ h => h) (Or.inl ⟨by rfl, ?ypb5⟩) hHeld ?rpb5
        case ypb5 => (intro W hW; obtain ⟨h0, h1, h2, h3, h4⟩ := hW; go_simp; first | done | with_reducible rfl)
        try simp only [List.getElem_toArray, List.getElem_cons_succ, List.getElem_cons_zero, Act.put, List.setIfInBounds_toArray, List.set_cons_zero, List.set_cons_succ]
        refine wpAnyH_take (i := 6) (v := ?vpb6) rfl (by kernel_rfl) (by kernel_rfl) (by kernel_rfl) (fun _ _ _ h => h) (Or.inl ⟨by rfl, ?ypb6⟩) hHeld ?rpb6
        case ypb6 => (intro W hW; obtain ⟨h0, h1, h2, h3, h4⟩ := hW; go_simp; first | done | with_reducible rfl)
        try simp only [List.getElem_toArray, List.getElem_cons_succ, List.getElem_cons_zero, Act.put, List.setIfInBounds_toArray, List.set_cons_zero, List.set_cons_succ]
        refine wpAnyH_take (i := 7) (v := ?vpb7) rfl (by kernel_rfl) (by kernel_rfl) (by kernel_rfl) (fun _ _ _ h => h) (Or.inl ⟨by rfl, ?ypb7⟩) hHeld ?rpb7
        case ypb7 => (intro W hW; obtain ⟨h0, h1, h2, h3, h4⟩ := hW; go_simp; first | done | with_reducible rfl)
        try simp only [List.getElem_toArray, List.getElem_cons_succ, List.getElem_cons_zero, Act.put, List.setIfInBounds_toArray, List.set_cons_zero, List.set_cons_succ]
        refine wpAnyH_take (i := 8) (v := ?vpb8) rfl (by kernel_rfl) (by kernel_rfl) (by kernel_rfl) (fun _ _ _ h => h) (Or.inl ⟨by rfl, ?ypb8⟩) hHeld ?rpb8
        case ypb8 => (intro W hW; obtain ⟨h0, h1, h2, h3, h4⟩ := hW; go_simp; first | done | with_reducible rfl)
        try simp only [List.getElem_toArray, List.getElem_cons_succ, List.getElem_cons_zero, Act.put, List.setIfInBounds_toArray, List.set_cons_zero, List.set_cons_succ]
        refine wpAnyH_take (i := 9) (v := ?vpb9) rfl (by kernel_rfl) (by kernel_rfl) (by kernel_rfl) (fun _ _ _ h => h) (Or.inl ⟨by rfl, ?ypb9⟩) hHeld ?rpb9
        case ypb9 => (intro W hW; obtain ⟨h0, h1, h2, h3, h4⟩ := hW; go_simp; first | done | with_reducible rfl)
        try simp only [List.getElem_toArray, List.getElem_cons_succ, List.getElem_cons_zero, Act.put, List.setIfInBounds_toArray, List.set_cons_zero, List.set_cons_succ]
        refine wpAnyH_take (i := 10) (v := ?vpb10) rfl (by kernel_rfl) (by kernel_rfl) (by kernel_rfl) (fun _ _ _ h => h) (Or.inl ⟨by rfl, ?ypb10⟩) hHeld ?rpb10
        case ypb10 => (intro W hW; obtain ⟨h0, h1, h2, h3, h4⟩ := hW; go_simp; first | done | with_reducible rfl)
        try simp only [List.getElem_toArray, List.getElem_cons_succ, List.getElem_cons_zero, Act.put, List.setIfInBounds_toArray, List.set_cons_zero, List.set_cons_succ]
        refine wpAnyH_take (i := 11) (v := ?vpb11) rfl (by kernel_rfl) (by kernel_rfl) (by kernel_rfl) (fun _ _ _ h => h) (Or.inl ⟨by rfl, ?ypb11⟩) hHeld ?rpb11
        case ypb11 => (intro W hW; obtain ⟨h0, h1, h2, h3, h4⟩ := hW; go_simp; first | done | with_reducible rfl)
        try simp only [List.getElem_toArray, List.getElem_cons_succ, List.getElem_cons_zero, Act.put, List.setIfInBounds_toArray, List.set_cons_zero, List.set_cons_succ]
        refine wpAnyH_take (i := 12) (v := ?vpb12) rfl (by kernel_rfl) (by kernel_rfl) (by kernel_rfl) (fun _ _ _ h => h) (Or.inl ⟨by rfl, ?ypb12⟩) hHeld ?rpb12
        case ypb12 => (intro W hW; obtain ⟨h0, h1, h2, h3, h4⟩ := hW; go_simp; first | done | with_reducible rfl)
        try simp only [List.getElem_toArray, List.getElem_cons_succ, List.getElem_cons_zero, Act.put, List.setIfInBounds_toArray, List.set_cons_zero, List.set_cons_succ]
        refine wpAnyH_take (i := 13) (v := ?vpb13) rfl (by kernel_rfl) (by kernel_rfl) (by kernel_rfl) (fun _ _ _ h => h) (Or.inl ⟨by rfl, ?ypb13⟩) hHeld ?rpb13
        case ypb13 => (intro W hW; obtain ⟨h0, h1, h2, h3, h4⟩ := hW; go_simp; first | done | with_reducible rfl)
        try simp only [List.getElem_toArray, List.getElem_cons_succ, List.getElem_cons_zero, Act.put, List.setIfInBounds_toArray, List.set_cons_zero, List.set_cons_succ]
        refine wpAnyH_done (by kernel_rfl) ?_ _
        clear hHeld
        have HNO := Lib.hid (alike_not (a := a) hx hy (by rw [e1, e2]; exact hv))
        clear hx hy e1 e2 r0 s0 c0' g1' g2' p0 p1 p2 p3 p4
        go_wp2
        go_ret
        exact ⟨by rw [HNO.out]; rfl, HB1.out.trans ((Hb5.out.drew).mono HB1.out.size)⟩
    · obtain rfl : k = N := by omega
      have d1 : decide ((k : Int) < (k : Int)) = false := by simp
      have d2 : decide (k < k) = false := by simp
      have HYES : Hid (alikeB L a = true) := Lib.hid (by
        have h := HA.out
        rw [List.take_of_length_le (Nat.le_of_eq HN.out.symm)] at h
        unfold alikeB
        rw [List.all_eq_true]
        intro z hz
        rw [beq_iff_eq]
        exact h z hz)
      go_wp2
      go_ret
      exact ⟨by rw [HYES.out]; rfl, HB1.out.trans (Hb.out.mono HB1.out.size)⟩
set_option maxRecDepth 100000 in
set_option maxHeartbeats 4000000 in
/-- The position from a on at which keys differ first. -/
theorem hparting_any (ad : Addr) (c N : Nat) (L : List Cel) (d a q : Nat) (w : World) (hl : CellsR w ad L) (hN : N = L.length) (hd : ∀ x ∈ L, x.key.length = d) (haq : a ≤ q) (hqd : q < d) (hdd : d ≤ 1000) (hn : N ≤ 1000000) (hal : ∀ p, a ≤ p → p < q → alikeB L p = true) (hno : alikeB L q = false) :
    Calls Try.prog 57 #[.agg #[.slice (some ad) N c, .int .i64 a]] w fun e w' => e = .returned (.int .i64 q) ∧ Below w.heap.size w w' := by
  obtain ⟨w1, hw1⟩ : ∃ w1, w1 = w.alloc (.cells #[.slice (some ad) N c, .int .i64 a] 84) := ⟨_, rfl⟩
  have o1 : Own 84 w1 w.heap.size [.slice (some ad) N c, .int .i64 a] := by rw [hw1]; exact heap_alloc_new w _
  have hb1 : Below w.heap.size w w1 := by rw [hw1]; exact (Below.refl _ w).alloc (Nat.le_refl _) _
  have HAL := Lib.hid (fun (p : Nat) (hp : p < d) (W : World) (hb : Below w1.heap.size w1 W) => halike_any ad c N L d p a W ((hl.keep (Keeps.of_below hb1)).keep (Keeps.of_below hb)) hN hd hp hn)
  have HA := Lib.hid hal
  have HNO := Lib.hid hno
  have HB1 := Lib.hid hb1
  obtain ⟨b, eb⟩ : ∃ b, b = w.heap.size := ⟨_, rfl⟩
  rw [← eb] at o1
  have O1 := Lib.hid o1
  have s1 := o1.cell (i := 1) rfl
  clear hl hN hd hal hno hb1 o1
  go_enter Try.func57, Try.ntmps57
  go_upto_region 1 with (fail)
  rw [← hw1, ← eb]
  clear hw1 eb
  go_wp2
  clear s1
  go_loopw [3] (fun i wr => ∃ p : Nat, a ≤ p ∧ p ≤ q ∧ i = .int .i64 p ∧ Below w1.heap.size w1 wr) (fun i _ => q - (intOf i).toNat)
  case atStart => exact ⟨a, Nat.le_refl _, haq, rfl, Below.refl _ _⟩
  case round =>
    obtain ⟨p, hp1, hp2, rfl, hb⟩ := hrel
    rename World => wr
    have Hb := Lib.hid hb
    have s0 := (O1.out.below hb O1.out.lt).cell (i := 0) rfl
    have s1 := (O1.out.below hb O1.out.lt).cell (i := 1) rfl
    have hA := HAL.out p (by omega) wr hb
    by_cases hlt : p < q
    · rw [HA.out p hp1 hlt] at hA
      have HC := Lib.hid hA
      clear hb hA
      go_wp2_with fail
      refine HC.out.mono ?_
      rintro e w2 ⟨rfl, hb2⟩
      have Hb2 := Lib.hid (Hb.out.trans (hb2.mono Hb.out.size))
      clear hb2 s0 s1
      go_wp2
      go_roundw
      case rel => exact ⟨p + 1, by omega, by omega, by go_num, Hb2.out⟩
      case measure => simp [intOf]; omega
    · obtain rfl : p = q := by omega
      rw [HNO.out] at hA
      have HC := Lib.hid hA
      clear hb hA
      go_wp2_with fail
      refine HC.out.mono ?_
      rintro e w2 ⟨rfl, hb2⟩
      have Hb2 := Lib.hid (Hb.out.trans (hb2.mono Hb.out.size))
      clear hb2 s0 s1
      go_wp2
      go_ret
      exact ⟨rfl, HB1.out.trans (Hb2.out.mono HB1.out.size)⟩
end Go.Proofs.Ytioddfodajinlaa
