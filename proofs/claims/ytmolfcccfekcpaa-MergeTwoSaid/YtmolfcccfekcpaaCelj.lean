/- Package cell's Join. -/
import Derived.Test.YtmolfcccfekcpaaCelg
namespace Go.Proofs.Ytmolfcccfekcpaa
open Go.RowKit
/-- Two cells' values in a row. -/
theorem pair_cells (W : World) (b : Nat) (x y : Cel) (u v : V5) (hu : Reads W u x) (hv : Reads W v y) (h : W.heap[b]? = some (.cells #[u.a, u.b, u.c, u.d, u.e, v.a, v.b, v.c, v.d, v.e] 44 (0, 0))) : CellsR W ⟨b, 0, none⟩ [x, y] := by
  refine cells_of_vals (vs := [u, v]) ⟨rfl, fun i p z hp hz => ?_⟩ fun j q hq => ?_
  · match i with
    | 0 => simp at hp hz; subst hp hz; exact hu
    | 1 => simp at hp hz; subst hp hz; exact hv
    | i + 2 => simp at hp
  · rw [add0, cell_of_row W b j _ 44 (0, 0) h]
    simpa [flatV, V5.l] using hq
set_option maxRecDepth 100000 in
set_option maxHeartbeats 2000000 in
theorem join_any (k s n m k' s' n' m' : Value) (x y : Cel) (me : Nat) (w : World) (hx : CR w k s n m x) (hy : CR w k' s' n' m' y) (hxy : x.key = y.key) (ex : EvenC me x) (ey : EvenC me y) (hk : x.key.length ≤ 1000000) (hm : me ≤ 1000000) (ix : inK .i64 x.cnt) (iy : inK .i64 y.cnt) :
    Calls Try.prog 47 #[.agg #[k, .int .i64 x.cnt, s, n, m], .agg #[k', .int .i64 y.cnt, s', n', m']] w fun e w' => ∃ k s n m, e = .returned (.agg #[k, .int .i64 (join2 x y).cnt, s, n, m]) ∧ CO w.heap.size w' k s n m (join2 x y) ∧ Below w.heap.size w w' := by
  obtain ⟨Pk, ck, f1, -⟩ := hx.key
  obtain ⟨Ps, cs, f2, -⟩ := hx.sum
  obtain ⟨Pn, cn, f3, -⟩ := hx.mn
  obtain ⟨Pm, cm, f4, -⟩ := hx.mx
  obtain ⟨Qk, dk, f5, -⟩ := hy.key
  obtain ⟨Qs, ds, f6, -⟩ := hy.sum
  obtain ⟨Qn, dn, f7, -⟩ := hy.mn
  obtain ⟨Qm, dm, f8, -⟩ := hy.mx
  rw [ex.1] at f2
  rw [ex.2.1] at f3
  rw [ex.2.2] at f4
  rw [← hxy] at f5
  rw [ey.1] at f6
  rw [ey.2.1] at f7
  rw [ey.2.2] at f8
  subst f1 f2 f3 f4 f5 f6 f7 f8
  have Ux : Hid (∀ W, Keeps w W → Reads W ⟨.slice Pk x.key.length ck, .int .i64 x.cnt, .slice Ps me cs, .slice Pn me cn, .slice Pm me cm⟩ x) := Lib.hid fun W hW => ⟨rfl, hx.keep hW, ix⟩
  have Uy : Hid (∀ W, Keeps w W → Reads W ⟨.slice Qk x.key.length dk, .int .i64 y.cnt, .slice Qs me ds, .slice Qn me dn, .slice Qm me dm⟩ y) := Lib.hid fun W hW => ⟨rfl, hy.keep hW, iy⟩
  have HL : Hid (∀ W, Keeps w W → Calls Try.prog 46 #[.slice Pk x.key.length ck, .slice Qk x.key.length dk] W fun e w' => e = .returned (.int .i64 0) ∧ W = w') := Lib.hid fun W hW => by
    have h := less_any _ _ x.key y.key W (hx.key.keep hW) (hy.key.keep hW) hk (hxy ▸ hk)
    rwa [← hxy, cmpL_self] at h
  have Hev : Hid (∀ z ∈ [x, y], EvenC me z) := Lib.hid fun z hz => by
    simp at hz
    rcases hz with rfl | rfl
    · exact ex
    · exact ey
  have hb : Below w.heap.size w (((w.alloc (.cells #[.slice Pk x.key.length ck, .int .i64 x.cnt, .slice Ps me cs, .slice Pn me cn, .slice Pm me cm] 44)).alloc (.cells #[.slice Qk x.key.length dk, .int .i64 y.cnt, .slice Qs me ds, .slice Qn me dn, .slice Qm me dm] 44)).alloc (.cells #[.slice none 0 0, .int .i64 0, .slice none 0 0, .slice none 0 0, .slice none 0 0] 44)) := (((Below.refl _ w).alloc (Nat.le_refl _) _).alloc (by simp) _).alloc (by simp; omega) _
  have o1 : Own 44 (((w.alloc (.cells #[.slice Pk x.key.length ck, .int .i64 x.cnt, .slice Ps me cs, .slice Pn me cn, .slice Pm me cm] 44)).alloc (.cells #[.slice Qk x.key.length dk, .int .i64 y.cnt, .slice Qs me ds, .slice Qn me dn, .slice Qm me dm] 44)).alloc (.cells #[.slice none 0 0, .int .i64 0, .slice none 0 0, .slice none 0 0, .slice none 0 0] 44)) w.heap.size [.slice Pk x.key.length ck, .int .i64 x.cnt, .slice Ps me cs, .slice Pn me cn, .slice Pm me cm] := ((show Own 44 (w.alloc (.cells #[.slice Pk x.key.length ck, .int .i64 x.cnt, .slice Ps me cs, .slice Pn me cn, .slice Pm me cm] 44)) w.heap.size [.slice Pk x.key.length ck, .int .i64 x.cnt, .slice Ps me cs, .slice Pn me cn, .slice Pm me cm] from heap_alloc_new w _).alloc _).alloc _
  have o2 : Own 44 (((w.alloc (.cells #[.slice Pk x.key.length ck, .int .i64 x.cnt, .slice Ps me cs, .slice Pn me cn, .slice Pm me cm] 44)).alloc (.cells #[.slice Qk x.key.length dk, .int .i64 y.cnt, .slice Qs me ds, .slice Qn me dn, .slice Qm me dm] 44)).alloc (.cells #[.slice none 0 0, .int .i64 0, .slice none 0 0, .slice none 0 0, .slice none 0 0] 44)) (w.heap.size + 1) [.slice Qk x.key.length dk, .int .i64 y.cnt, .slice Qs me ds, .slice Qn me dn, .slice Qm me dm] := by
    have h := heap_alloc_new (w.alloc (.cells #[.slice Pk x.key.length ck, .int .i64 x.cnt, .slice Ps me cs, .slice Pn me cn, .slice Pm me cm] 44)) (.cells #[.slice Qk x.key.length dk, .int .i64 y.cnt, .slice Qs me ds, .slice Qn me dn, .slice Qm me dm] 44)
    rw [show (w.alloc (.cells #[.slice Pk x.key.length ck, .int .i64 x.cnt, .slice Ps me cs, .slice Pn me cn, .slice Pm me cm] 44)).heap.size = w.heap.size + 1 from by simp] at h
    exact Own.alloc (show Own 44 ((w.alloc (.cells #[.slice Pk x.key.length ck, .int .i64 x.cnt, .slice Ps me cs, .slice Pn me cn, .slice Pm me cm] 44)).alloc (.cells #[.slice Qk x.key.length dk, .int .i64 y.cnt, .slice Qs me ds, .slice Qn me dn, .slice Qm me dm] 44)) (w.heap.size + 1) [.slice Qk x.key.length dk, .int .i64 y.cnt, .slice Qs me ds, .slice Qn me dn, .slice Qm me dm] from h) _
  have o3 : Own 44 (((w.alloc (.cells #[.slice Pk x.key.length ck, .int .i64 x.cnt, .slice Ps me cs, .slice Pn me cn, .slice Pm me cm] 44)).alloc (.cells #[.slice Qk x.key.length dk, .int .i64 y.cnt, .slice Qs me ds, .slice Qn me dn, .slice Qm me dm] 44)).alloc (.cells #[.slice none 0 0, .int .i64 0, .slice none 0 0, .slice none 0 0, .slice none 0 0] 44)) (w.heap.size + 2) [.slice none 0 0, .int .i64 0, .slice none 0 0, .slice none 0 0, .slice none 0 0] := by
    have h := heap_alloc_new ((w.alloc (.cells #[.slice Pk x.key.length ck, .int .i64 x.cnt, .slice Ps me cs, .slice Pn me cn, .slice Pm me cm] 44)).alloc (.cells #[.slice Qk x.key.length dk, .int .i64 y.cnt, .slice Qs me ds, .slice Qn me dn, .slice Qm me dm] 44)) (.cells #[.slice none 0 0, .int .i64 0, .slice none 0 0, .slice none 0 0, .slice none 0 0] 44)
    rw [show ((w.alloc (.cells #[.slice Pk x.key.length ck, .int .i64 x.cnt, .slice Ps me cs, .slice Pn me cn, .slice Pm me cm] 44)).alloc (.cells #[.slice Qk x.key.length dk, .int .i64 y.cnt, .slice Qs me ds, .slice Qn me dn, .slice Qm me dm] 44)).heap.size = w.heap.size + 2 from by simp] at h
    exact h
  have HB := Lib.hid hb
  have O1 := Lib.hid o1
  have O2 := Lib.hid o2
  have O3 := Lib.hid o3
  have Hk := Lib.hid hk
  have Hex := Lib.hid ex
  clear hb o1 o2 o3 hx hy hxy ey hk ex ix iy
  go_enter Try.func47, Try.ntmps47
  go_wp2_with fail
  refine (HL.out _ (Keeps.of_below HB.out)).mono ?_
  rintro e w1 ⟨rfl, rfl⟩
  generalize (((w.alloc (.cells #[.slice Pk x.key.length ck, .int .i64 x.cnt, .slice Ps me cs, .slice Pn me cn, .slice Pm me cm] 44)).alloc (.cells #[.slice Qk x.key.length dk, .int .i64 y.cnt, .slice Qs me ds, .slice Qn me dn, .slice Qm me dm] 44)).alloc (.cells #[.slice none 0 0, .int .i64 0, .slice none 0 0, .slice none 0 0, .slice none 0 0] 44)) = W at HB O1 O2 O3 ⊢
  have p0 := O1.out.cell (i := 0) rfl
  have p1 := O1.out.cell (i := 1) rfl
  have p2 := O1.out.cell (i := 2) rfl
  have p3 := O1.out.cell (i := 3) rfl
  have p4 := O1.out.cell (i := 4) rfl
  have q0 := O2.out.cell (i := 0) rfl
  have q1 := O2.out.cell (i := 1) rfl
  have q2 := O2.out.cell (i := 2) rfl
  have q3 := O2.out.cell (i := 3) rfl
  have q4 := O2.out.cell (i := 4) rfl
  go_wp2_with fail
  have kw := Keeps.of_below HB.out
  have hrow := pair_cells (W.alloc (.cells #[.slice Pk x.key.length ck, .int .i64 x.cnt, .slice Ps me cs, .slice Pn me cn, .slice Pm me cm, .slice Qk x.key.length dk, .int .i64 y.cnt, .slice Qs me ds, .slice Qn me dn, .slice Qm me dm] 44)) W.heap.size x y _ _ (Ux.out _ (kw.alloc _)) (Uy.out _ (kw.alloc _)) (heap_alloc_new W _)
  refine (even_any ⟨W.heap.size, 0, none⟩ 2 [x, y] me _ hrow Hev.out hm (by simp)).mono ?_
  rintro e w2 ⟨rfl, hb2⟩
  have D2 := Lib.hid (show Below W.heap.size W w2 from ((Below.refl _ W).alloc (Nat.le_refl _) _).trans (hb2.mono (by simp)))
  have kd := Keeps.of_below D2.out
  replace p0 := kd _ _ p0
  replace p1 := kd _ _ p1
  replace p2 := kd _ _ p2
  replace p3 := kd _ _ p3
  replace p4 := kd _ _ p4
  replace q0 := kd _ _ q0
  replace q1 := kd _ _ q1
  replace q2 := kd _ _ q2
  replace q3 := kd _ _ q3
  replace q4 := kd _ _ q4
  clear hrow hb2
  go_wp2_with fail
  have kw2 := kw.trans kd
  have hrow := pair_cells (w2.alloc (.cells #[.slice Pk x.key.length ck, .int .i64 x.cnt, .slice Ps me cs, .slice Pn me cn, .slice Pm me cm, .slice Qk x.key.length dk, .int .i64 y.cnt, .slice Qs me ds, .slice Qn me dn, .slice Qm me dm] 44)) w2.heap.size x y _ _ (Ux.out _ (kw2.alloc _)) (Uy.out _ (kw2.alloc _)) (heap_alloc_new w2 _)
  have D3 := Lib.hid (show Below W.heap.size W (w2.alloc (.cells #[.slice Pk x.key.length ck, .int .i64 x.cnt, .slice Ps me cs, .slice Pn me cn, .slice Pm me cm, .slice Qk x.key.length dk, .int .i64 y.cnt, .slice Qs me ds, .slice Qn me dn, .slice Qm me dm] 44)) from D2.out.alloc D2.out.size _)
  refine (joined_any ⟨w2.heap.size, 0, none⟩ 2 1 x [y] me _ hrow Hev.out Hk.out hm rfl (by omega) (by omega) (by simp [maxLen])).mono ?_
  rintro e w4 ⟨k, s, n, m, rfl, hco, hap, hb4⟩
  replace hco : CO _ w4 k s n m (join2 x y) := hco
  have e9 : (joinAll [x, y]).cnt = (join2 x y).cnt := rfl
  rw [e9]
  clear e9
  generalize w2.alloc (.cells #[.slice Pk x.key.length ck, .int .i64 x.cnt, .slice Ps me cs, .slice Pn me cn, .slice Pm me cm, .slice Qk x.key.length dk, .int .i64 y.cnt, .slice Qs me ds, .slice Qn me dn, .slice Qm me dm] 44) = W3 at D3 hco hb4
  have D4 := Lib.hid (D3.out.trans (hb4.mono D3.out.size))
  have B4 := Lib.hid (HB.out.trans (D4.out.mono HB.out.size))
  have hco2 : CO w.heap.size w4 k s n m (join2 x y) := hco.mono (by have := HB.out.size; have := D3.out.size; omega)
  have o4 := O3.out.below D4.out O3.out.lt
  obtain ⟨P1, c1, e1, -⟩ := hco2.key.form
  obtain ⟨P2, c2, e2, -⟩ := hco2.sum.form
  obtain ⟨P3, c3, e3, -⟩ := hco2.mn.form
  obtain ⟨P4, c4, e4, -⟩ := hco2.mx.form
  subst e1 e2 e3 e4
  obtain ⟨J, hJ⟩ : ∃ J, J = join2 x y := ⟨_, rfl⟩
  rw [← hJ] at hco2 ⊢
  have HeJ := Lib.hid hJ
  clear hJ
  clear hco hap hb4 hrow
  have z0 := o4.cell (i := 0) rfl
  have z1 := o4.cell (i := 1) rfl
  have z2 := o4.cell (i := 2) rfl
  have z3 := o4.cell (i := 3) rfl
  have z4 := o4.cell (i := 4) rfl
  have zf := o4.frozen
  obtain ⟨W5, hW5⟩ : ∃ W5, W5 = put5 w4 (w.heap.size + 2) (.slice P1 J.key.length c1) (.int .i64 J.cnt) (.slice P2 J.sum.length c2) (.slice P3 J.mn.length c3) (.slice P4 J.mx.length c4) := ⟨_, rfl⟩
  have o5 : Own 44 W5 (w.heap.size + 2) [.slice P1 J.key.length c1, .int .i64 J.cnt, .slice P2 J.sum.length c2, .slice P3 J.mn.length c3, .slice P4 J.mx.length c4] := hW5 ▸ put5_own o4
  have on5 : Only (w.heap.size + 2) w4 W5 := hW5 ▸ put5_only
  have hfin : CO w.heap.size W5 (.slice P1 J.key.length c1) (.slice P2 J.sum.length c2) (.slice P3 J.mn.length c3) (.slice P4 J.mx.length c4) J := hco2.only on5 o4 (by decide)
  have hbf : Below w.heap.size w W5 := B4.out.trans (on5.below (by omega) B4.out.size)
  have HW5 := Lib.hid hW5
  have Hfin := Lib.hid hfin
  have Hbf := Lib.hid hbf
  have HO5 := Lib.hid o5
  clear hW5 o5 on5 hfin hbf hco2 o4 p0 p1 p2 p3 p4 q0 q1 q2 q3 q4
  go_wp2
  have e5 := HW5.out
  unfold put5 at e5
  rw [← e5]
  clear e5
  have s0 := HO5.out.cell (i := 0) rfl
  have s1 := HO5.out.cell (i := 1) rfl
  have s2 := HO5.out.cell (i := 2) rfl
  have s3 := HO5.out.cell (i := 3) rfl
  have s4 := HO5.out.cell (i := 4) rfl
  have hJ := HeJ.out
  subst hJ
  exact bodyPost_ret (v := .agg #[.slice P1 (join2 x y).key.length c1, .int .i64 (join2 x y).cnt, .slice P2 (join2 x y).sum.length c2, .slice P3 (join2 x y).mn.length c3, .slice P4 (join2 x y).mx.length c4]) (by simp [results, Try.results47, go_sem, s0, s1, s2, s3, s4]) rfl ⟨_, _, _, _, rfl, Hfin.out, Hbf.out⟩
end Go.Proofs.Ytmolfcccfekcpaa
