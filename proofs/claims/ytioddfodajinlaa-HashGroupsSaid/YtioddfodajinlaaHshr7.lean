/- The reference's table: Put. -/
import Derived.IntWalk
import Derived.Test.YtioddfodajinlaaHshr6
import Derived.Test.YtioddfodajinlaaHshr3
import Derived.Test.YtioddfodajinlaaRjoin
namespace Go.Proofs.Ytioddfodajinlaa
open Go.RowKit
attribute [local go_sem] Oper.semAt_some
/-- What a call of the reference's Put leaves. -/
def PutR (B : Nat) (w : World) (T gC gI : Nat) (ts : List (Option Cel)) (x : Cel) (e : Ending) (w' : World) : Prop :=
  match putT ts x with
  | none => e = .returned (.bool false) ∧ Below w.heap.size w w'
  | some ts' => e = .returned (.bool true) ∧ ∃ vs', RT B w' T gC gI vs' ts' ∧ Tch (fun b => b = gC ∨ b = gI ∨ b = T) w w'
set_option maxRecDepth 100000 in
set_option maxHeartbeats 4000000 in
theorem rtPut_any (B T gC gI me : Nat) (vs : List (Option V5)) (ts : List (Option Cel)) (k s n m : Value) (x : Cel) (w : World) (hR : RT B w T gC gI vs ts) (hN1 : 1 ≤ ts.length) (hN2 : ts.length ≤ 10000)
    (hev : ∀ (i : Nat) (y : Cel), ts[i]? = some (some y) → y.key.length ≤ 1000 ∧ EvenC me y) (hx : CR w k s n m x) (hix : inK .i64 x.cnt) (hl : x.key.length ≤ 1000) (hok : okK x.key = true) (ex : EvenC me x) (hme : me ≤ 100000) (hBw : B ≤ w.heap.size) :
    Calls Try.prog 14 #[.pointer (some ⟨T, 0, none⟩), .agg #[k, .int .i64 x.cnt, s, n, m]] w fun e w' => PutR B w T gC gI ts x e w' := by
  have HCR := Lib.hid hx
  obtain ⟨⟨Pk, ck, rfl, nk, -⟩, ⟨Ps, cs, rfl, -⟩, ⟨Pn, cn, rfl, -⟩, ⟨Pm, cm, rfl, -⟩⟩ := hx
  have hlt : ∀ q, (q = gC ∨ q = gI ∨ q = T) → q < w.heap.size := fun q hq => by
    rcases hq with h | h | h
    · rw [h]; exact hR.cs.lt
    · rw [h]; exact hR.is.lt
    · rw [h]; exact hR.bx.lt
  obtain ⟨w1, hw1⟩ : ∃ w1, w1 = w.alloc (.cells #[.slice Pk x.key.length ck, .int .i64 x.cnt, .slice Ps x.sum.length cs, .slice Pn x.mn.length cn, .slice Pm x.mx.length cm] 39) := ⟨_, rfl⟩
  have hb1 : Below w.heap.size w w1 := by rw [hw1]; exact (Below.refl _ w).alloc (Nat.le_refl _) _
  have o1 : Own 39 w1 w.heap.size [.slice Pk x.key.length ck, .int .i64 x.cnt, .slice Ps x.sum.length cs, .slice Pn x.mn.length cn, .slice Pm x.mx.length cm] := by rw [hw1]; exact heap_alloc_new w _
  obtain ⟨b, eb⟩ : ∃ b, b = w.heap.size := ⟨_, rfl⟩
  rw [← eb] at o1
  have HFN := Lib.hid (rtfind_any B T gC gI vs ts Pk ck x.key.length x.key w1 (hR.below hb1) (nk.keep (Keeps.of_below hb1)) hok hl hN1 hN2 (fun i y h => (hev i y h).1))
  have hputN : seekT ts x.key = none → putT ts x = none := fun h => by unfold putT; rw [h]
  have hputS : ∀ j, seekT ts x.key = some j → (ts[j]? = some none → putT ts x = some (ts.set j (some x))) ∧ ∀ c, ts[j]? = some (some c) → putT ts x = some (ts.set j (some (join2 c x))) := fun j h => ⟨fun e => by unfold putT; rw [h]; simp only [e], fun c e => by unfold putT; rw [h]; simp only [e]⟩
  have HPN := Lib.hid hputN
  have HPS := Lib.hid hputS
  have HSH := Lib.hid (fun (j : Nat) (h : seekT ts x.key = some j) => seekF_has h)
  have HR := Lib.hid (hR.below hb1)
  have HEV := Lib.hid hev
  have HIX := Lib.hid hix
  have HEX := Lib.hid ex
  have Hb1 := Lib.hid hb1
  have O1 := Lib.hid o1
  have EB := Lib.hid eb
  have HLT := Lib.hid hlt
  obtain ⟨mk, emk⟩ : ∃ z, z = x.key.length := ⟨_, rfl⟩
  obtain ⟨m2, em2⟩ : ∃ z, z = x.sum.length := ⟨_, rfl⟩
  obtain ⟨m3, em3⟩ : ∃ z, z = x.mn.length := ⟨_, rfl⟩
  obtain ⟨m4, em4⟩ : ∃ z, z = x.mx.length := ⟨_, rfl⟩
  obtain ⟨xc, exc⟩ : ∃ z, z = x.cnt := ⟨_, rfl⟩
  have HXC := Lib.hid exc
  rw [← emk, ← em2, ← em3, ← em4] at HCR
  rw [← emk, ← em2, ← em3, ← em4, ← exc] at hw1 O1
  rw [← emk] at HFN
  rw [← emk, ← em2, ← em3, ← em4, ← exc]
  obtain ⟨SK, eSK⟩ : ∃ SK, SK = seekT ts x.key := ⟨_, rfl⟩
  rw [← eSK] at HFN HPN HPS HSH
  have s0 := O1.out.cell (i := 0) rfl
  have HL := Lib.hid hl
  clear hR hix ex hb1 o1 nk hlt hputN hputS hev emk em2 em3 em4 exc eSK hok hl
  go_enter Try.func14, Try.ntmps14
  go_upto_region 1 with (fail)
  rw [← hw1, ← eb]
  clear hw1 eb
  go_wp2_with fail
  refine HFN.out.mono ?_
  rintro e w2 ⟨rfl, q, hw2⟩
  clear HFN
  have hb2 : Below w.heap.size w w2 := by rw [hw2]; exact below_drewN Hb1.out q
  have O2 : Hid (Own 39 w2 b [.slice Pk mk ck, .int .i64 xc, .slice Ps m2 cs, .slice Pn m3 cn, .slice Pm m4 cm]) := Lib.hid (by rw [hw2]; exact O1.out.below (below_drewN (Below.refl _ w1) q) O1.out.lt)
  have HR2 : Hid (RT B w2 T gC gI vs ts) := Lib.hid (by rw [hw2]; exact HR.out.below (below_drewN (Below.refl _ w1) q))
  have Hb2 := Lib.hid hb2
  clear hw2 hb2 s0
  cases SK with
  | none =>
    have hp := HPN.out rfl
    have ha : atS none = -1 := rfl
    have HE : Hid (∀ W, Below w.heap.size w W → PutR B w T gC gI ts x (.returned (.bool false)) W) := Lib.hid fun W h => by unfold PutR; rw [hp]; exact ⟨rfl, h⟩
    clear hp
    rw [ha]
    go_wp2
    go_ret
    exact HE.out _ Hb2.out
  | some j =>
    have hh := HSH.out j rfl
    have hp := HPS.out j rfl
    have ha : atS (some j) = (j : Int) := rfl
    have hjl : j < ts.length := by
      rcases hh with h | ⟨c, h, -⟩ <;> exact (List.getElem?_eq_some_iff.1 h).1
    obtain ⟨N, hN⟩ : ∃ N, N = ts.length := ⟨_, rfl⟩
    have y0 := HR2.out.bx.cell (i := 0) rfl
    have y1 := HR2.out.bx.cell (i := 1) rfl
    rw [← hN] at y0 y1 hjl
    have j0 : (0 : Int) ≤ (j : Int) := by omega
    have j1 : (j : Int) < (N : Int) := by omega
    have j2 : decide ((j : Int) < 0) = false := decide_eq_false (by omega)
    rw [ha]
    clear hN
    rcases hh with h | ⟨c, h, hck⟩
    · obtain ⟨v, hv, hso, hc, hfl⟩ := HR2.out.slot h
      obtain rfl : v = none := by
        cases v with
        | none => rfl
        | some vv => exact hso.elim
      have kd2 : Keeps w2 w2.drew := (Keeps.refl w2).drewN 1
      obtain ⟨x1, x2, x3⟩ := HEX.out
      have x0 := HL.out
      have hJ := rCopy_any (.slice Pk mk ck) (.slice Ps m2 cs) (.slice Pn m3 cn) (.slice Pm m4 cm) x w2.drew (HCR.out.keep ((Keeps.of_below Hb2.out).trans kd2)) (by omega) (by omega) (by omega) (by omega)
      rw [← HXC.out] at hJ
      have HPJ := Lib.hid (hp.1 h)
      have HH := Lib.hid h
      have HJ := Lib.hid hJ
      have bx2 := O2.out.bx
      have HV := Lib.hid hv
      have HC := Lib.hid hc
      clear hv hso hc hJ hp h x0 x1 x2 x3
      go_upto_region 7 with (fail)
      refine region_P (S := fun W => W.cell? ⟨T, 0, none⟩ = some (.slice (some ⟨gC, 0, none⟩) N N) ∧ W.cell? ⟨T, 1, none⟩ = some (.slice (some ⟨gI, 0, none⟩) N N) ∧ Bx W b (.slice Pk mk ck) (.int .i64 xc) (.slice Ps m2 cs) (.slice Pn m3 cn) (.slice Pm m4 cm)) (kill := [13,15]) (by kernel_rfl) ⟨y0, y1, bx2⟩ (fun hHeld => ?_)
      refine anyP_take (i := 0) (v := ?vpb0) rfl (by kernel_rfl) (by kernel_rfl) (by kernel_rfl) (by kernel_rfl) (by kernel_rfl) (fun _ _ _ h => h) (Or.inl ⟨by rfl, ?ypb0⟩) hHeld ?rpb0
      case ypb0 => (intro W hW; obtain ⟨g5, g6, g0, g1, g2, g3, g4⟩ := hW; go_simp; first | done | with_reducible rfl)
      try simp only [List.getElem_toArray, List.getElem_cons_zero, Act.put, List.setIfInBounds_toArray, List.set_cons_zero, List.set_cons_succ]
      refine anyP_take (i := 1) (v := ?vpb1) rfl (by kernel_rfl) (by kernel_rfl) (by kernel_rfl) (by kernel_rfl) (by kernel_rfl) (fun _ _ _ h => h) (Or.inl ⟨by rfl, ?ypb1⟩) hHeld ?rpb1
      case ypb1 => (intro W hW; obtain ⟨g5, g6, g0, g1, g2, g3, g4⟩ := hW; go_simp; first | done | with_reducible rfl)
      try simp only [List.getElem_toArray, List.getElem_cons_succ, List.getElem_cons_zero, Act.put, List.setIfInBounds_toArray, List.set_cons_zero, List.set_cons_succ]
      refine anyP_take (i := 2) (v := ?vpb2) rfl (by kernel_rfl) (by kernel_rfl) (by kernel_rfl) (by kernel_rfl) (by kernel_rfl) (fun _ _ _ h => h) (Or.inl ⟨by rfl, ?ypb2⟩) hHeld ?rpb2
      case ypb2 => (intro W hW; obtain ⟨g5, g6, g0, g1, g2, g3, g4⟩ := hW; go_simp; first | done | with_reducible rfl)
      try simp only [List.getElem_toArray, List.getElem_cons_succ, List.getElem_cons_zero, Act.put, List.setIfInBounds_toArray, List.set_cons_zero, List.set_cons_succ]
      refine anyP_take (i := 3) (v := ?vpb3) rfl (by kernel_rfl) (by kernel_rfl) (by kernel_rfl) (by kernel_rfl) (by kernel_rfl) (fun _ _ _ h => h) (Or.inl ⟨by rfl, ?ypb3⟩) hHeld ?rpb3
      case ypb3 => (intro W hW; obtain ⟨g5, g6, g0, g1, g2, g3, g4⟩ := hW; go_simp; first | done | with_reducible rfl)
      try simp only [List.getElem_toArray, List.getElem_cons_succ, List.getElem_cons_zero, Act.put, List.setIfInBounds_toArray, List.set_cons_zero, List.set_cons_succ]
      refine anyP_take (i := 4) (v := ?vpb4) rfl (by kernel_rfl) (by kernel_rfl) (by kernel_rfl) (by kernel_rfl) (by kernel_rfl) (fun _ _ _ h => h) (Or.inl ⟨by rfl, ?ypb4⟩) hHeld ?rpb4
      case ypb4 => (intro W hW; obtain ⟨g5, g6, g0, g1, g2, g3, g4⟩ := hW; go_simp; first | done | with_reducible rfl)
      try simp only [List.getElem_toArray, List.getElem_cons_succ, List.getElem_cons_zero, Act.put, List.setIfInBounds_toArray, List.set_cons_zero, List.set_cons_succ]
      refine anyP_take (i := 5) (v := ?vpb5) rfl (by kernel_rfl) (by kernel_rfl) (by kernel_rfl) (by kernel_rfl) (by kernel_rfl) (fun _ _ _ h => h) (Or.inl ⟨by rfl, ?ypb5⟩) hHeld ?rpb5
      case ypb5 => (intro W hW; obtain ⟨g5, g6, g0, g1, g2, g3, g4⟩ := hW; go_simp; first | done | with_reducible rfl)
      try simp only [List.getElem_toArray, List.getElem_cons_succ, List.getElem_cons_zero, Act.put, List.setIfInBounds_toArray, List.set_cons_zero, List.set_cons_succ]
      refine anyP_take (i := 6) (v := ?vpb6) rfl (by kernel_rfl) (by kernel_rfl) (by kernel_rfl) (by kernel_rfl) (by kernel_rfl) (fun _ _ _ h => h) (Or.inl ⟨by rfl, ?ypb6⟩) hHeld ?rpb6
      case ypb6 => (intro W hW; obtain ⟨g5, g6, g0, g1, g2, g3, g4⟩ := hW; go_simp; first | done | with_reducible rfl)
      try simp only [List.getElem_toArray, List.getElem_cons_succ, List.getElem_cons_zero, Act.put, List.setIfInBounds_toArray, List.set_cons_zero, List.set_cons_succ]
      refine anyP_take (i := 7) (v := ?vpb7) rfl (by kernel_rfl) (by kernel_rfl) (by kernel_rfl) (by kernel_rfl) (by kernel_rfl) (fun _ _ _ h => h) (Or.inl ⟨by rfl, ?ypb7⟩) hHeld ?rpb7
      case ypb7 => (intro W hW; obtain ⟨g5, g6, g0, g1, g2, g3, g4⟩ := hW; go_simp; first | done | with_reducible rfl)
      try simp only [List.getElem_toArray, List.getElem_cons_succ, List.getElem_cons_zero, Act.put, List.setIfInBounds_toArray, List.set_cons_zero, List.set_cons_succ]
      refine anyP_take (i := 8) (v := ?vpb8) rfl (by kernel_rfl) (by kernel_rfl) (by kernel_rfl) (by kernel_rfl) (by kernel_rfl) (fun _ _ _ h => h) (Or.inl ⟨by rfl, ?ypb8⟩) hHeld ?rpb8
      case ypb8 => (intro W hW; obtain ⟨g5, g6, g0, g1, g2, g3, g4⟩ := hW; go_simp; first | done | with_reducible rfl)
      try simp only [List.getElem_toArray, List.getElem_cons_succ, List.getElem_cons_zero, Act.put, List.setIfInBounds_toArray, List.set_cons_zero, List.set_cons_succ]
      refine anyP_pure (i := 9) (v := ?vpb9) rfl (by kernel_rfl) (by kernel_rfl) (by kernel_rfl) (by kernel_rfl) (fun _ _ _ h => h) (Or.inl ⟨by rfl, ?ypb9⟩) ?rpb9
      case ypb9 => (intro W hW; go_simp; first | done | with_reducible rfl)
      try simp only [List.getElem_toArray, List.getElem_cons_succ, List.getElem_cons_zero, Act.put, List.setIfInBounds_toArray, List.set_cons_zero, List.set_cons_succ]
      refine anyP_take (i := 10) (v := ?vpb10) rfl (by kernel_rfl) (by kernel_rfl) (by kernel_rfl) (by kernel_rfl) (by kernel_rfl) (fun _ _ _ h => h) (Or.inl ⟨by rfl, ?ypb10⟩) hHeld ?rpb10
      case ypb10 => (intro W hW; obtain ⟨g5, g6, g0, g1, g2, g3, g4⟩ := hW; go_simp; first | done | with_reducible rfl)
      try simp only [List.getElem_toArray, List.getElem_cons_succ, List.getElem_cons_zero, Act.put, List.setIfInBounds_toArray, List.set_cons_zero, List.set_cons_succ]
      clear y0 y1 bx2
      refine anyP_ready (rs := [11]) (by kernel_rfl) (by simp) ?_
      refine AllP.cons rfl (fun K hK => ?_) (AllP.nil)
      go_simp
      refine HJ.out.mono ?_
      rintro e6 w6 ⟨k', s', n', m', rfl, hcc, hb6⟩
      have kp6 := Keeps.of_below hb6
      refine hK.out _ _ (fun _ hh => ⟨kp6 _ _ hh.1, kp6 _ _ hh.2.1, hh.2.2.keep kp6⟩) ?_
      clear hK K
      try simp only [List.getElem_toArray, List.getElem_cons_succ, List.getElem_cons_zero, Act.put, List.setIfInBounds_toArray, List.set_cons_zero, List.set_cons_succ]
      have hb26 : Below w2.heap.size w2 w6 := (Below.refl w2.heap.size w2).drew.trans (hb6.mono (Nat.le_refl _))
      have HR6 := HR2.out.below hb26
      have hvO : OwnC B w6 ⟨k', .int .i64 xc, s', n', m'⟩ x := OwnC.stay (show OwnC w2.drew.heap.size w6 ⟨k', .int .i64 xc, s', n', m'⟩ x from ⟨by rw [HXC.out], hcc, HIX.out⟩) fun o => o.mono (Nat.le_trans hBw Hb2.out.size)
      obtain ⟨c1, hc1⟩ : ∃ c1, c1 = (cellsT ts).length := ⟨_, rfl⟩
      have hRO := HR6.take HH.out hvO (c := ((c1 + 1 : Nat) : Int)) (by rw [hc1])
      have hb46 : Below w.heap.size w w6 := Hb2.out.trans (hb26.mono Hb2.out.size)
      have hTO : Tch (fun q => q = gC ∨ q = gI ∨ q = T) w (((put5at w6 gC (j * 5) ⟨k', .int .i64 xc, s', n', m'⟩).setCell ⟨gI, j, none⟩ (.bool true)).setCell ⟨T, 2, none⟩ (.int .i64 ((c1 + 1 : Nat) : Int))) := (((Tch.of_below _ hb46).same (Tch.of_only (put5at_only _ _ _ _) (.inl rfl))).same (Tch.setCell (.inr (.inl rfl)) _ _ _)).same (Tch.setCell (.inr (.inr rfl)) _ _ _)
      have hfin : PutR B w T gC gI ts x (.returned (.bool true)) (((put5at w6 gC (j * 5) ⟨k', .int .i64 xc, s', n', m'⟩).setCell ⟨gI, j, none⟩ (.bool true)).setCell ⟨T, 2, none⟩ (.int .i64 ((c1 + 1 : Nat) : Int))) := by
        unfold PutR
        rw [HPJ.out]
        exact ⟨rfl, _, hRO, hTO⟩
      obtain ⟨Q1, e1, hq1, -⟩ := hcc.key.form
      obtain ⟨Q2, e2, hq2, -⟩ := hcc.sum.form
      obtain ⟨Q3, e3, hq3, -⟩ := hcc.mn.form
      obtain ⟨Q4, e4, hq4, -⟩ := hcc.mx.form
      have n3 : T ≠ gI := own_neT HR6.bx HR6.is (by decide)
      obtain ⟨t1, -, t3, -⟩ := HR6.cell5 (List.getElem?_eq_some_iff.1 HH.out).1 hvO
      have hvi : (isV vs)[j]? = some (.bool false) := by unfold isV; rw [List.getElem?_map, HV.out]; rfl
      obtain ⟨W4, hW4⟩ : ∃ W4, W4 = put5at w6 gC (j * 5) ⟨k', .int .i64 xc, s', n', m'⟩ := ⟨_, rfl⟩
      rw [← hW4] at hfin t1 t3
      have i0 := t3.cell hvi
      have i1 := t3.frozen j
      have t5 := t1.only (only_setCell gI W4 j (.bool true)) n3
      obtain ⟨W5, hW5⟩ : ∃ W5, W5 = W4.setCell ⟨gI, j, none⟩ (.bool true) := ⟨_, rfl⟩
      rw [← hW5] at hfin t5
      have HW5 := Lib.hid hW5
      have u2 := t5.cell (i := 2) rfl
      have u3 := t5.frozen 2
      rw [← hc1] at u2
      have c1b : c1 ≤ 10000 := by rw [hc1]; exact Nat.le_trans (cells_le ts) hN2
      unfold put5at at hW4
      dsimp only at hW4
      have HW4 := Lib.hid hW4
      have HFIN := Lib.hid hfin
      have zf := HR6.cs.frozen
      have z0 := kp6 _ _ (kd2 _ _ (HC.out 0 (by omega) _ rfl))
      have z1 := kp6 _ _ (kd2 _ _ (HC.out 1 (by omega) _ rfl))
      have z2 := kp6 _ _ (kd2 _ _ (HC.out 2 (by omega) _ rfl))
      have z3 := kp6 _ _ (kd2 _ _ (HC.out 3 (by omega) _ rfl))
      have z4 := kp6 _ _ (kd2 _ _ (HC.out 4 (by omega) _ rfl))
      rw [Nat.add_zero] at z0
      clear hHeld hc1 n3 t1 t3 t5 hvi hW5
      clear hW4 hfin hRO hTO hvO HR6 hb26 hb46 hb6 hcc kp6 kd2
      subst hq1 hq2 hq3 hq4
      refine anyP_pure (i := 12) (v := ?vpb12) rfl (by kernel_rfl) (by kernel_rfl) (by kernel_rfl) (by kernel_rfl) (fun _ _ _ h => h) (Or.inl ⟨by rfl, ?ypb12⟩) ?rpb12
      case ypb12 => (intro W hW; go_simp; first | done | with_reducible rfl)
      try simp only [List.getElem_toArray, List.getElem_cons_succ, List.getElem_cons_zero, Act.put, List.setIfInBounds_toArray, List.set_cons_zero, List.set_cons_succ]
      refine anyP_ready (rs := [13]) (by kernel_rfl) (by simp) ?_
      refine AllP.cons rfl (fun K hK => ?_) (AllP.nil)
      go_simp
      rw [← HW4.out]
      refine hK.out _ _ (fun h => absurd (by decide) h) ?_
      clear hK K
      try simp only [List.getElem_toArray, List.getElem_cons_succ, List.getElem_cons_zero, Act.put, List.setIfInBounds_toArray, List.set_cons_zero, List.set_cons_succ]
      clear z0 z1 z2 z3 z4 zf
      refine anyP_pure (i := 14) (v := ?vpb14) rfl (by kernel_rfl) (by kernel_rfl) (by kernel_rfl) (by kernel_rfl) (fun _ _ _ h => h) (Or.inl ⟨by rfl, ?ypb14⟩) ?rpb14
      case ypb14 => (intro W hW; go_simp; first | done | with_reducible rfl)
      try simp only [List.getElem_toArray, List.getElem_cons_succ, List.getElem_cons_zero, Act.put, List.setIfInBounds_toArray, List.set_cons_zero, List.set_cons_succ]
      refine anyP_ready (rs := [15]) (by kernel_rfl) (by simp) ?_
      refine AllP.cons rfl (fun K hK => ?_) (AllP.nil)
      go_simp
      rw [← HW5.out]
      refine hK.out _ _ (fun h => absurd (by decide) h) ?_
      clear hK K
      try simp only [List.getElem_toArray, List.getElem_cons_succ, List.getElem_cons_zero, Act.put, List.setIfInBounds_toArray, List.set_cons_zero, List.set_cons_succ]
      refine anyP_done (by kernel_rfl) ?_ _
      clear i0 i1
      go_wp2
      go_ret
      trace_state
      exact HFIN.out
    · obtain ⟨v, hv, hso, hc, hfl⟩ := HR2.out.slot h
      obtain ⟨vv, rfl⟩ : ∃ vv, v = some vv := by
        cases v with
        | none => exact hso.elim
        | some vv => exact ⟨vv, rfl⟩
      have hco : OwnC B w2 vv c := hso
      obtain ⟨ka, kb, kc, kd, ke⟩ := vv
      obtain ⟨hcb, hco, hic⟩ := hco
      dsimp only at hcb hco
      subst hcb
      have hcx : CR w2 ka kc kd ke c := ⟨hco.key.ri, hco.sum.ri, hco.mn.ri, hco.mx.ri⟩
      have c0 : w2.cell? ⟨gC, j * 5, none⟩ = some ka := hc 0 (by omega) _ rfl
      have c1 : w2.cell? ⟨gC, j * 5 + 1, none⟩ = some (.int .i64 c.cnt) := hc 1 (by omega) _ rfl
      have c2 : w2.cell? ⟨gC, j * 5 + 2, none⟩ = some kc := hc 2 (by omega) _ rfl
      have c3 : w2.cell? ⟨gC, j * 5 + 3, none⟩ = some kd := hc 3 (by omega) _ rfl
      have c4 : w2.cell? ⟨gC, j * 5 + 4, none⟩ = some ke := hc 4 (by omega) _ rfl
      obtain ⟨x1, x2⟩ := HEV.out j c h
      have kd2 : Keeps w2 w2.drew := (Keeps.refl w2).drewN 1
      have hJ := rJoin_any ka kc kd ke (.slice Pk mk ck) (.slice Ps m2 cs) (.slice Pn m3 cn) (.slice Pm m4 cm) c x me w2.drew (hcx.keep kd2) (HCR.out.keep ((Keeps.of_below Hb2.out).trans kd2)) x2 HEX.out (by omega) hme hic HIX.out
      rw [← HXC.out] at hJ
      have HPJ := Lib.hid (hp.2 c h)
      have HH := Lib.hid h
      have HJ := Lib.hid hJ
      obtain ⟨cc, ecc⟩ : ∃ z, z = c.cnt := ⟨_, rfl⟩
      rw [← ecc] at c1 HJ
      obtain ⟨jc, ejc⟩ : ∃ z, z = (join2 c x).cnt := ⟨_, rfl⟩
      rw [← ejc] at HJ
      have HJC := Lib.hid ejc
      have bx2 := O2.out.bx
      obtain ⟨A1, q1, hk, -⟩ := hco.key.form
      obtain ⟨A2, q2, hs, -⟩ := hco.sum.form
      obtain ⟨A3, q3, hnn, -⟩ := hco.mn.form
      obtain ⟨A4, q4, hm, -⟩ := hco.mx.form
      generalize c.key.length = l1 at hk
      generalize c.sum.length = l2 at hs
      generalize c.mn.length = l3 at hnn
      generalize c.mx.length = l4 at hm
      clear hv hso hc hcx hJ hp h hck x1 x2 hic ecc ejc hco
      subst hk hs hnn hm
      go_upto_region 5 with (fail)
      clear y1 hfl
      refine region_P (S := fun W => W.cell? ⟨gC, j * 5, none⟩ = some (.slice A1 l1 q1) ∧ W.cell? ⟨gC, j * 5 + 1, none⟩ = some (.int .i64 cc) ∧ W.cell? ⟨gC, j * 5 + 2, none⟩ = some (.slice A2 l2 q2) ∧ W.cell? ⟨gC, j * 5 + 3, none⟩ = some (.slice A3 l3 q3) ∧ W.cell? ⟨gC, j * 5 + 4, none⟩ = some (.slice A4 l4 q4) ∧ W.cell? ⟨T, 0, none⟩ = some (.slice (some ⟨gC, 0, none⟩) N N) ∧ Bx W b (.slice Pk mk ck) (.int .i64 xc) (.slice Ps m2 cs) (.slice Pn m3 cn) (.slice Pm m4 cm)) (kill := [15]) (by kernel_rfl) ⟨c0, c1, c2, c3, c4, y0, bx2⟩ (fun hHeld => ?_)
      refine anyP_take (i := 0) (v := ?vpa0) rfl (by kernel_rfl) (by kernel_rfl) (by kernel_rfl) (by kernel_rfl) (by kernel_rfl) (fun _ _ _ h => h) (Or.inl ⟨by rfl, ?ypa0⟩) hHeld ?rpa0
      case ypa0 => (intro W hW; obtain ⟨h0, h1, h2, h3, h4, h5, g0, g1, g2, g3, g4⟩ := hW; go_simp; first | done | with_reducible rfl)
      try simp only [List.getElem_toArray, List.getElem_cons_zero, Act.put, List.setIfInBounds_toArray, List.set_cons_zero, List.set_cons_succ]
      refine anyP_take (i := 1) (v := ?vpa1) rfl (by kernel_rfl) (by kernel_rfl) (by kernel_rfl) (by kernel_rfl) (by kernel_rfl) (fun _ _ _ h => h) (Or.inl ⟨by rfl, ?ypa1⟩) hHeld ?rpa1
      case ypa1 => (intro W hW; obtain ⟨h0, h1, h2, h3, h4, h5, g0, g1, g2, g3, g4⟩ := hW; go_simp; first | done | with_reducible rfl)
      try simp only [List.getElem_toArray, List.getElem_cons_succ, List.getElem_cons_zero, Act.put, List.setIfInBounds_toArray, List.set_cons_zero, List.set_cons_succ]
      refine anyP_take (i := 2) (v := ?vpa2) rfl (by kernel_rfl) (by kernel_rfl) (by kernel_rfl) (by kernel_rfl) (by kernel_rfl) (fun _ _ _ h => h) (Or.inl ⟨by rfl, ?ypa2⟩) hHeld ?rpa2
      case ypa2 => (intro W hW; obtain ⟨h0, h1, h2, h3, h4, h5, g0, g1, g2, g3, g4⟩ := hW; go_simp; first | done | with_reducible rfl)
      try simp only [List.getElem_toArray, List.getElem_cons_succ, List.getElem_cons_zero, Act.put, List.setIfInBounds_toArray, List.set_cons_zero, List.set_cons_succ]
      refine anyP_take (i := 3) (v := ?vpa3) rfl (by kernel_rfl) (by kernel_rfl) (by kernel_rfl) (by kernel_rfl) (by kernel_rfl) (fun _ _ _ h => h) (Or.inl ⟨by rfl, ?ypa3⟩) hHeld ?rpa3
      case ypa3 => (intro W hW; obtain ⟨h0, h1, h2, h3, h4, h5, g0, g1, g2, g3, g4⟩ := hW; go_simp; first | done | with_reducible rfl)
      try simp only [List.getElem_toArray, List.getElem_cons_succ, List.getElem_cons_zero, Act.put, List.setIfInBounds_toArray, List.set_cons_zero, List.set_cons_succ]
      refine anyP_take (i := 4) (v := ?vpa4) rfl (by kernel_rfl) (by kernel_rfl) (by kernel_rfl) (by kernel_rfl) (by kernel_rfl) (fun _ _ _ h => h) (Or.inl ⟨by rfl, ?ypa4⟩) hHeld ?rpa4
      case ypa4 => (intro W hW; obtain ⟨h0, h1, h2, h3, h4, h5, g0, g1, g2, g3, g4⟩ := hW; go_simp; first | done | with_reducible rfl)
      try simp only [List.getElem_toArray, List.getElem_cons_succ, List.getElem_cons_zero, Act.put, List.setIfInBounds_toArray, List.set_cons_zero, List.set_cons_succ]
      refine anyP_take (i := 5) (v := ?vpa5) rfl (by kernel_rfl) (by kernel_rfl) (by kernel_rfl) (by kernel_rfl) (by kernel_rfl) (fun _ _ _ h => h) (Or.inl ⟨by rfl, ?ypa5⟩) hHeld ?rpa5
      case ypa5 => (intro W hW; obtain ⟨h0, h1, h2, h3, h4, h5, g0, g1, g2, g3, g4⟩ := hW; go_simp; first | done | with_reducible rfl)
      try simp only [List.getElem_toArray, List.getElem_cons_succ, List.getElem_cons_zero, Act.put, List.setIfInBounds_toArray, List.set_cons_zero, List.set_cons_succ]
      refine anyP_take (i := 6) (v := ?vpa6) rfl (by kernel_rfl) (by kernel_rfl) (by kernel_rfl) (by kernel_rfl) (by kernel_rfl) (fun _ _ _ h => h) (Or.inl ⟨by rfl, ?ypa6⟩) hHeld ?rpa6
      case ypa6 => (intro W hW; obtain ⟨h0, h1, h2, h3, h4, h5, g0, g1, g2, g3, g4⟩ := hW; go_simp; first | done | with_reducible rfl)
      try simp only [List.getElem_toArray, List.getElem_cons_succ, List.getElem_cons_zero, Act.put, List.setIfInBounds_toArray, List.set_cons_zero, List.set_cons_succ]
      refine anyP_take (i := 7) (v := ?vpa7) rfl (by kernel_rfl) (by kernel_rfl) (by kernel_rfl) (by kernel_rfl) (by kernel_rfl) (fun _ _ _ h => h) (Or.inl ⟨by rfl, ?ypa7⟩) hHeld ?rpa7
      case ypa7 => (intro W hW; obtain ⟨h0, h1, h2, h3, h4, h5, g0, g1, g2, g3, g4⟩ := hW; go_simp; first | done | with_reducible rfl)
      try simp only [List.getElem_toArray, List.getElem_cons_succ, List.getElem_cons_zero, Act.put, List.setIfInBounds_toArray, List.set_cons_zero, List.set_cons_succ]
      refine anyP_take (i := 8) (v := ?vpa8) rfl (by kernel_rfl) (by kernel_rfl) (by kernel_rfl) (by kernel_rfl) (by kernel_rfl) (fun _ _ _ h => h) (Or.inl ⟨by rfl, ?ypa8⟩) hHeld ?rpa8
      case ypa8 => (intro W hW; obtain ⟨h0, h1, h2, h3, h4, h5, g0, g1, g2, g3, g4⟩ := hW; go_simp; first | done | with_reducible rfl)
      try simp only [List.getElem_toArray, List.getElem_cons_succ, List.getElem_cons_zero, Act.put, List.setIfInBounds_toArray, List.set_cons_zero, List.set_cons_succ]
      refine anyP_take (i := 9) (v := ?vpa9) rfl (by kernel_rfl) (by kernel_rfl) (by kernel_rfl) (by kernel_rfl) (by kernel_rfl) (fun _ _ _ h => h) (Or.inl ⟨by rfl, ?ypa9⟩) hHeld ?rpa9
      case ypa9 => (intro W hW; obtain ⟨h0, h1, h2, h3, h4, h5, g0, g1, g2, g3, g4⟩ := hW; go_simp; first | done | with_reducible rfl)
      try simp only [List.getElem_toArray, List.getElem_cons_succ, List.getElem_cons_zero, Act.put, List.setIfInBounds_toArray, List.set_cons_zero, List.set_cons_succ]
      refine anyP_take (i := 10) (v := ?vpa10) rfl (by kernel_rfl) (by kernel_rfl) (by kernel_rfl) (by kernel_rfl) (by kernel_rfl) (fun _ _ _ h => h) (Or.inl ⟨by rfl, ?ypa10⟩) hHeld ?rpa10
      case ypa10 => (intro W hW; obtain ⟨h0, h1, h2, h3, h4, h5, g0, g1, g2, g3, g4⟩ := hW; go_simp; first | done | with_reducible rfl)
      try simp only [List.getElem_toArray, List.getElem_cons_succ, List.getElem_cons_zero, Act.put, List.setIfInBounds_toArray, List.set_cons_zero, List.set_cons_succ]
      refine anyP_take (i := 11) (v := ?vpa11) rfl (by kernel_rfl) (by kernel_rfl) (by kernel_rfl) (by kernel_rfl) (by kernel_rfl) (fun _ _ _ h => h) (Or.inl ⟨by rfl, ?ypa11⟩) hHeld ?rpa11
      case ypa11 => (intro W hW; obtain ⟨h0, h1, h2, h3, h4, h5, g0, g1, g2, g3, g4⟩ := hW; go_simp; first | done | with_reducible rfl)
      try simp only [List.getElem_toArray, List.getElem_cons_succ, List.getElem_cons_zero, Act.put, List.setIfInBounds_toArray, List.set_cons_zero, List.set_cons_succ]
      refine anyP_take (i := 12) (v := ?vpa12) rfl (by kernel_rfl) (by kernel_rfl) (by kernel_rfl) (by kernel_rfl) (by kernel_rfl) (fun _ _ _ h => h) (Or.inl ⟨by rfl, ?ypa12⟩) hHeld ?rpa12
      case ypa12 => (intro W hW; obtain ⟨h0, h1, h2, h3, h4, h5, g0, g1, g2, g3, g4⟩ := hW; go_simp; first | done | with_reducible rfl)
      try simp only [List.getElem_toArray, List.getElem_cons_succ, List.getElem_cons_zero, Act.put, List.setIfInBounds_toArray, List.set_cons_zero, List.set_cons_succ]
      clear c0 c1 c2 c3 c4 y0 bx2
      refine anyP_ready (rs := [13]) (by kernel_rfl) (by simp) ?_
      refine AllP.cons rfl (fun K hK => ?_) (AllP.nil)
      go_simp
      refine HJ.out.mono ?_
      rintro e6 w6 ⟨k', s', n', m', rfl, hcc, hb6⟩
      have kp6 := Keeps.of_below hb6
      refine hK.out _ _ (fun _ hh => ⟨kp6 _ _ hh.1, kp6 _ _ hh.2.1, kp6 _ _ hh.2.2.1, kp6 _ _ hh.2.2.2.1, kp6 _ _ hh.2.2.2.2.1, kp6 _ _ hh.2.2.2.2.2.1, hh.2.2.2.2.2.2.keep kp6⟩) ?_
      clear hK K
      try simp only [List.getElem_toArray, List.getElem_cons_succ, List.getElem_cons_zero, Act.put, List.setIfInBounds_toArray, List.set_cons_zero, List.set_cons_succ]
      have hb26 : Below w2.heap.size w2 w6 := (Below.refl w2.heap.size w2).drew.trans (hb6.mono (Nat.le_refl _))
      have HR6 := HR2.out.below hb26
      have hvO : OwnC B w6 ⟨k', .int .i64 jc, s', n', m'⟩ (join2 c x) := OwnC.stay (show OwnC w2.drew.heap.size w6 ⟨k', .int .i64 jc, s', n', m'⟩ (join2 c x) from ⟨by rw [HJC.out], hcc, join2_ok⟩) fun o => o.mono (Nat.le_trans hBw Hb2.out.size)
      have hRO := HR6.over HH.out hvO
      have hb46 : Below w.heap.size w w6 := Hb2.out.trans (hb26.mono Hb2.out.size)
      have hTO : Tch (fun q => q = gC ∨ q = gI ∨ q = T) w (put5at w6 gC (j * 5) ⟨k', .int .i64 jc, s', n', m'⟩) := (Tch.of_below _ hb46).same (Tch.of_only (put5at_only _ _ _ _) (.inl rfl))
      have hfin : PutR B w T gC gI ts x (.returned (.bool true)) (put5at w6 gC (j * 5) ⟨k', .int .i64 jc, s', n', m'⟩) := by
        unfold PutR
        rw [HPJ.out]
        exact ⟨rfl, _, hRO, hTO⟩
      obtain ⟨Q1, e1, hq1, -⟩ := hcc.key.form
      obtain ⟨Q2, e2, hq2, -⟩ := hcc.sum.form
      obtain ⟨Q3, e3, hq3, -⟩ := hcc.mn.form
      obtain ⟨Q4, e4, hq4, -⟩ := hcc.mx.form
      obtain ⟨W4, hW4⟩ : ∃ W4, W4 = put5at w6 gC (j * 5) ⟨k', .int .i64 jc, s', n', m'⟩ := ⟨_, rfl⟩
      rw [← hW4] at hfin
      unfold put5at at hW4
      dsimp only at hW4
      have HW4 := Lib.hid hW4
      have HFIN := Lib.hid hfin
      have zf := HR6.cs.frozen
      have z0 := kp6 _ _ hHeld.1
      have z1 := kp6 _ _ hHeld.2.1
      have z2 := kp6 _ _ hHeld.2.2.1
      have z3 := kp6 _ _ hHeld.2.2.2.1
      have z4 := kp6 _ _ hHeld.2.2.2.2.1
      clear hHeld
      clear hW4 hfin hRO hTO hvO HR6 hb26 hb46 hb6 hcc kp6
      subst hq1 hq2 hq3 hq4
      refine anyP_pure (i := 14) (v := ?vpa14) rfl (by kernel_rfl) (by kernel_rfl) (by kernel_rfl) (by kernel_rfl) (fun _ _ _ h => h) (Or.inl ⟨by rfl, ?ypa14⟩) ?rpa14
      case ypa14 => (intro W hW; go_simp; first | done | with_reducible rfl)
      try simp only [List.getElem_toArray, List.getElem_cons_succ, List.getElem_cons_zero, Act.put, List.setIfInBounds_toArray, List.set_cons_zero, List.set_cons_succ]
      refine anyP_ready (rs := [15]) (by kernel_rfl) (by simp) ?_
      refine AllP.cons rfl (fun K hK => ?_) (AllP.nil)
      go_simp
      rw [← HW4.out]
      refine hK.out _ _ (fun h => absurd (by decide) h) ?_
      clear hK K
      try simp only [List.getElem_toArray, List.getElem_cons_succ, List.getElem_cons_zero, Act.put, List.setIfInBounds_toArray, List.set_cons_zero, List.set_cons_succ]
      refine anyP_done (by kernel_rfl) ?_ _
      clear z0 z1 z2 z3 z4 zf
      go_wp2
      go_ret
      exact HFIN.out
end Go.Proofs.Ytioddfodajinlaa
