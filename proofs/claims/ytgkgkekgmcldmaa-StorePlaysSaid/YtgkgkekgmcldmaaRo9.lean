/- The reference's face: Publish. -/
import Derived.Test.YtgkgkekgmcldmaaRo8
namespace Go.Proofs.Ytgkgkekgmcldmaa
open Go.RowKit
set_option maxRecDepth 100000 in
set_option maxHeartbeats 4000000 in
theorem rPublish_any {w : World} {q c : Nat} {σ : St} {M A : Nat → Prop} (a n : Nm) (h : RefAt w q σ c M A) (hn : n.length ≤ 1000000) (hc : c ≤ 999998) :
    Calls Try.prog 27 #[.pointer (some ⟨q, 0, none⟩), .string (str a), .string (str n)] w (RefPost q (σ.publish a n).2 (c + 1) M A (.int .i64 (σ.publish a n).1) w) := by
  have Hright := Lib.hid (right_any n w hn)
  have H := Lib.hid h
  cases hnk : nameOk n with
  | false =>
    have e : σ.publish a n = (1, σ) := by unfold St.publish; rw [if_pos hnk]
    rw [e]
    have Hnk := Lib.hid hnk
    clear h hnk e
    go_enter Try.func27, Try.ntmps27
    go_wp2_with fail
    refine Hright.out.mono ?_
    rintro e w1 ⟨rfl, rfl⟩
    rw [Hnk.out]
    go_wp2
    go_ret
    exact RefPost.no H.out (Below.refl _ _)
  | true =>
    have hfind := find_any a h (by omega)
    have Hnk := Lib.hid hnk
    cases hff : fnd σ.fs a with
    | none =>
      have e : σ.publish a n = (5, σ) := by unfold St.publish; rw [if_neg (by rw [hnk]; decide), hff]
      rw [e]
      rw [hff] at hfind
      have Hfind := Lib.hid hfind
      clear hfind h hff e hnk
      go_enter Try.func27, Try.ntmps27
      go_wp2_with fail
      refine Hright.out.mono ?_
      rintro e w1 ⟨rfl, rfl⟩
      rw [Hnk.out]
      go_wp2_with fail
      refine Hfind.out.mono ?_
      rintro e w2 ⟨rfl, nq, rfl⟩
      simp only [Option.isSome_none]
      go_wp2
      go_ret
      exact RefPost.no H.out (below_drewN (Below.refl _ _) _)
    | some f =>
      rw [hff] at hfind
      obtain ⟨fv, lv, rs, hi⟩ := h
      obtain ⟨r, hrk, hrn, hrf⟩ := hi.got hff
      obtain ⟨k, hk⟩ : ∃ k, k = posF σ.fs a := ⟨_, rfl⟩
      rw [← hk] at hfind hrk
      obtain ⟨g, cap, ev, hMg, hcap, _, _⟩ := hi.at_ hrk
      subst ev
      have hkN := (List.getElem?_eq_some_iff.1 hrk).1
      have hN9 : rs.length ≤ 1000000 := by have := hi.ok.few; rw [hi.fs, ofF_len] at this; omega
      have Hfind := Lib.hid hfind
      have Hi := Lib.hid hi
      have Hff := Lib.hid hff
      have Hrk := Lib.hid hrk
      have Hrn := Lib.hid hrn
      have Hrf := Lib.hid hrf
      have Hk := Lib.hid hk
      have i0 : (0 : Int) ≤ (k : Int) := by omega
      have i1 : (k : Int) < (rs.length : Int) := by omega
      clear hfind hff hi hrk hrn hrf hnk hk hMg
      go_enter Try.func27, Try.ntmps27
      go_wp2_with fail
      refine Hright.out.mono ?_
      rintro e w1 ⟨rfl, rfl⟩
      rw [Hnk.out]
      go_wp2_with fail
      refine Hfind.out.mono ?_
      rintro e w2 ⟨rfl, nq, rfl⟩
      simp only [Option.isSome_some]
      have hiW := (Hi.out.drewN nq).mono (M' := M) (A' := Grw A w (w.drewN nq)) (fun _ h => h) (fun _ h => .inl h) Hi.out.ml (grw_bd Hi.out.al (Nat.le_refl _)) (Nat.le_refl c)
      have htW : Tch M w (w.drewN nq) := (Tch.refl M w).drewN nq
      have hbW : Below w.heap.size w (w.drewN nq) := below_drewN (Below.refl _ _) _
      generalize w.drewN nq = W at hiW htW hbW ⊢
      obtain ⟨_, _, ev, _, _, _, hcs⟩ := hiW.at_ Hrk.out
      obtain ⟨e1, _, _⟩ := Value.slice.inj ev
      injection e1 with e1
      injection e1 with e1
      subst e1
      have y3 : W.cell? ⟨g, k * 5 + 3, none⟩ = some (.bool (decide (r.f.st = 2))) := hcs 3 _ rfl
      have q1 := hiW.blk.cell (i := 1) rfl
      have hfind2 := find_any n ⟨_, _, _, hiW⟩ (by omega)
      have HiW := Lib.hid hiW
      have HtW := Lib.hid htW
      have HbW := Lib.hid hbW
      have Hfind2 := Lib.hid hfind2
      clear hiW htW hbW hcs ev hfind2
      by_cases hst : r.f.st = 2
      case neg =>
        have e : σ.publish a n = (6, σ) := by
          unfold St.publish
          rw [if_neg (by rw [Hnk.out]; decide), Hff.out]
          dsimp only
          rw [if_pos (by rw [← Hrf.out]; exact hst)]
        have He := Lib.hid e
        rw [decide_eq_false hst] at y3
        clear hst e
        go_wp2
        go_ret
        rw [He.out]
        exact RefPost.no H.out HbW.out
      case pos =>
      rw [decide_eq_true hst] at y3
      have Hst := Lib.hid hst
      clear hst
      cases hfn : fnd σ.fs n with
      | some f2 =>
        have e : σ.publish a n = (9, σ) := by
          unfold St.publish
          rw [if_neg (by rw [Hnk.out]; decide), Hff.out]
          dsimp only
          rw [if_neg (by rw [← Hrf.out, Hst.out]; decide), if_pos (by rw [hfn]; rfl)]
        have He := Lib.hid e
        have Hfn := Lib.hid hfn
        clear e hfn
        go_wp2_with fail
        refine Hfind2.out.mono ?_
        rintro e w3 ⟨rfl, nq2, rfl⟩
        rw [Hfn.out]
        simp only [Option.isSome_some]
        go_wp2
        go_ret
        rw [He.out]
        exact RefPost.no H.out (below_drewN HbW.out _)
      | none =>
        have e : σ.publish a n = (0, σ.deed (putF (dropF σ.fs a) n (sureF f.b)) 3 n) := by
          unfold St.publish
          rw [if_neg (by rw [Hnk.out]; decide), Hff.out]
          dsimp only
          rw [if_neg (by rw [← Hrf.out, Hst.out]; decide), if_neg (by rw [hfn]; decide)]
        have He := Lib.hid e
        have Hfn := Lib.hid hfn
        clear e hfn
        go_wp2_with fail
        refine Hfind2.out.mono ?_
        rintro e w3 ⟨rfl, nq2, rfl⟩
        rw [Hfn.out]
        simp only [Option.isSome_none]
        have hiX := (HiW.out.drewN nq2)
        have HbX := Lib.hid (show Below w.heap.size w (W.drewN nq2) from below_drewN HbW.out nq2)
        have HsX := Lib.hid (show W.heap.size ≤ (W.drewN nq2).heap.size from Nat.le_refl _)
        generalize W.drewN nq2 = X at hiX HbX HsX ⊢
        obtain ⟨P1, n1, d1, P2, n2, d2, hvb, hvo, hn1⟩ := cell5_slices (hiX.all r (List.mem_of_getElem? Hrk.out))
        obtain ⟨_, _, ev, _, _, _, hcs⟩ := hiX.at_ Hrk.out
        obtain ⟨e1, _, _⟩ := Value.slice.inj ev
        injection e1 with e1
        injection e1 with e1
        subst e1
        have x0 : X.cell? ⟨g, k * 5, none⟩ = some (.string (str r.n)) := hcs 0 _ rfl
        have x1 : X.cell? ⟨g, k * 5 + 1, none⟩ = some (.slice P1 n1 d1) := by have := hcs 1 _ rfl; rwa [hvb] at this
        have x2 : X.cell? ⟨g, k * 5 + 2, none⟩ = some (.slice P2 n2 d2) := by have := hcs 2 _ rfl; rwa [hvo] at this
        have x3 : X.cell? ⟨g, k * 5 + 3, none⟩ = some (.bool (decide (r.f.st = 2))) := hcs 3 _ rfl
        have x4 : X.cell? ⟨g, k * 5 + 4, none⟩ = some (.bool r.had) := hcs 4 _ rfl
        have qx := hiX.blk.cell (i := 1) rfl
        clear hcs ev y3 q1
        have HiX := Lib.hid hiX
        clear hiX
        go_wp2_with fail
        have hbA := (Below.refl X.heap.size X).alloc (Nat.le_refl _) (.cells #[.string (str r.n), .slice P1 r.f.b.length d1, .slice P2 n2 d2, .bool (decide (r.f.st = 2)), .bool r.had] 75)
        have hox : Own 75 (X.alloc (.cells #[.string (str r.n), .slice P1 r.f.b.length d1, .slice P2 n2 d2, .bool (decide (r.f.st = 2)), .bool r.had] 75)) X.heap.size [.string (str r.n), .slice P1 r.f.b.length d1, .slice P2 n2 d2, .bool (decide (r.f.st = 2)), .bool r.had] := heap_alloc_new X _
        have hbY := HbX.out.trans (hbA.mono HbX.out.size)
        have hiY := HiX.out.below hbA
        have hMX := HiX.out.ml
        have hsz : W.heap.size ≤ (X.alloc (.cells #[.string (str r.n), .slice P1 r.f.b.length d1, .slice P2 n2 d2, .bool (decide (r.f.st = 2)), .bool r.had] 75)).heap.size := Nat.le_trans HsX.out hbA.size
        have hxl : X.heap.size < (X.alloc (.cells #[.string (str r.n), .slice P1 r.f.b.length d1, .slice P2 n2 d2, .bool (decide (r.f.st = 2)), .bool r.had] 75)).heap.size := by simp
        generalize X.alloc (.cells #[.string (str r.n), .slice P1 r.f.b.length d1, .slice P2 n2 d2, .bool (decide (r.f.st = 2)), .bool r.had] 75) = Y at hox hbY hiY hsz hxl ⊢
        have hiZ := hiY.mono (M' := M) (A' := Grw A w Y) (fun _ h => h) (fun j hj => by rcases hj with hj | hj; exact .inl hj; exact .inr ⟨hj.1, by omega⟩) hiY.ml (grw_bd H.out.al hbY.size) (Nat.le_refl c)
        have hdrop := rdrop_any a hiZ (by omega) (by rw [Hff.out]; rfl)
        rw [← Hk.out] at hdrop
        have Hdrop := Lib.hid hdrop
        have HiZ := Lib.hid hiZ
        have Hox := Lib.hid hox
        have HbY := Lib.hid hbY
        have HMX := Lib.hid hMX
        have Hxl := Lib.hid hxl
        generalize X.heap.size = b9 at Hox HMX Hxl ⊢
        clear hdrop hiZ hox hbY hMX hsz hxl hiY hbA x0 x1 x2 x3 x4 qx
        refine Hdrop.out.mono ?_
        rintro e w3 ⟨rfl, h3, t3, b3⟩
        have hox3 : Own 75 w3 b9 [.string (str r.n), .slice P1 r.f.b.length d1, .slice P2 n2 d2, .bool (decide (r.f.st = 2)), .bool r.had] := (t3.block b9 Hxl.out fun hm => by have := HMX.out b9 hm; omega).trans Hox.out
        have z1 := hox3.cell (i := 1) rfl
        obtain ⟨r2, hr2⟩ : ∃ r2 : RFv, r2 = ⟨n, sureF f.b, .slice P1 r.f.b.length d1, .slice none 0 0, false⟩ := ⟨_, rfl⟩
        have hfok : r2.f.ok := by rw [hr2]; exact sureF_ok (HiZ.out.ok.fnd Hff.out).1.b
        have hrok : ROk (Grw (Grw A w Y) Y w3) w3 r2 := by
          rw [hr2]
          have hb := ((HiZ.out.all r (List.mem_of_getElem? Hrk.out)).bys b3).b.mono fun k h => (Grw.of h : Grw (Grw A w Y) Y w3 k)
          rw [hvb, hn1, Hrf.out] at hb
          refine ⟨?_, ⟨[], FB.nil _ _, fun h => absurd (show (2 : Nat) = 1 from h) (by decide)⟩, fun h => absurd (show (2 : Nat) = 0 from h) (by decide)⟩
          show FB _ w3 (.slice P1 r.f.b.length d1) f.b
          rw [Hrf.out]
          exact hb
        obtain ⟨fv3, lv3, rs3, hi3⟩ := h3
        have hput := rput_any r2 hi3 hrok hfok (by rw [hr2]; exact Hnk.out) (by omega)
        have ha5 : agg5 r2 = .agg #[.string (str n), .slice P1 r.f.b.length d1, .slice none 0 0, .bool true, .bool false] := by rw [hr2]; rfl
        rw [ha5] at hput
        have hfin : putF (dropF σ.fs a) r2.n r2.f = putF (dropF σ.fs a) n (sureF f.b) := by rw [hr2]
        have Hput := Lib.hid hput
        have Hfin := Lib.hid hfin
        have T3 := Lib.hid t3
        have Hops := Lib.hid (show σ.ops.length + 1 ≤ c + 1 from Nat.succ_le_succ HiZ.out.ok.ops)
        clear hput hfin ha5 hrok hfok hr2 hi3 t3 b3 hox3 Hox HMX Hxl
        go_wp2_with fail
        refine Hput.out.mono ?_
        rintro e w4 ⟨rfl, h4, t4⟩
        have t34 := T3.out.trans' t4
        have h4' := h4.mono (M' := Grw M Y w4) (A' := Grw (Grw A w Y) Y w4) (c' := c + 1) (fun _ h => Grw.trans T3.out.size t4.size h) (fun _ h => Grw.trans T3.out.size t4.size h) (grw_bd HiZ.out.ml t34.size) (grw_bd HiZ.out.al t34.size) (Nat.le_refl _)
        have hdone := rdone_any w4 q (c + 1) _ _ _ 3 n h4' Hnk.out (by omega) Hops.out (by omega)
        have Hdone := Lib.hid hdone
        have T34 := Lib.hid t34
        clear hdone h4 h4' t4 t34 z1
        go_wp2_with fail
        refine Hdone.out.mono ?_
        rintro e w9 ⟨rfl, h9, t9⟩
        have H9 := Lib.hid h9
        have T9 := Lib.hid t9
        clear h9 t9
        go_wp2
        go_ret
        rw [He.out]
        have e9 : σ.deed (putF (dropF σ.fs a) n (sureF f.b)) 3 n = ((σ.with (dropF σ.fs a)).with (putF (dropF σ.fs a) r2.n r2.f)).deed (putF (dropF σ.fs a) r2.n r2.f) 3 n := by rw [Hfin.out]; rfl
        show RefPost q (σ.deed (putF (dropF σ.fs a) n (sureF f.b)) 3 n) (c + 1) M A (.int .i64 0) w _ w9
        rw [e9]
        exact RefPost.chain H.out (Tch.of_below M HbY.out) T34.out H9.out T9.out rfl
end Go.Proofs.Ytgkgkekgmcldmaa
