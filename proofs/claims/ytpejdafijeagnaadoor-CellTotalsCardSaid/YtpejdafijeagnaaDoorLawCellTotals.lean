/- The law CellTotals. -/
import Derived.Test.YtpejdafijeagnaaDoorSet
namespace Go.Proofs.YtpejdafijeagnaaDoor
open Go.RowKit Go.Shelf
def tv (m : Int) : Int := m % 2001 - 1000
def tc (m : Int) : Cel := ⟨[], 1, [tv m], [tv m], [tv m]⟩
theorem tv_bd (m : Int) : -1000 ≤ tv m ∧ tv m ≤ 1000 := by unfold tv; omega
/-- What some numbers come to, so far. -/
def Tot (L : List Int) (S lo hi : Int) : Prop := (L = [] ∧ S = 0 ∧ lo = 0 ∧ hi = 0) ∨ (0 < L.length ∧ joinAll (L.map tc) = ⟨[], L.length, [S], [lo], [hi]⟩ ∧ -1000 * L.length ≤ S ∧ S ≤ 1000 * L.length ∧ -1000 ≤ lo ∧ lo ≤ 1000 ∧ -1000 ≤ hi ∧ hi ≤ 1000)
theorem joinAll_snoc : ∀ (l : List Cel) (c : Cel), l ≠ [] → joinAll (l ++ [c]) = join2 (joinAll l) c
  | x :: t, c, _ => by simp [joinAll, List.foldl_append]
theorem Tot.snoc {L : List Int} {S lo hi m : Int} (h : Tot L S lo hi) (hl : L.length ≤ 60) : Tot (L ++ [m]) (S + tv m) (if L.length = 0 ∨ tv m < lo then tv m else lo) (if L.length = 0 ∨ hi < tv m then tv m else hi) := by
  obtain ⟨b1, b2⟩ := tv_bd m
  rcases h with ⟨rfl, rfl, rfl, rfl⟩ | ⟨h0, h1, h2, h3, h4, h5, h6, h7⟩
  · refine .inr ⟨by simp, ?_, ?_⟩
    · simp [joinAll, tc]
    · simp
      omega
  · have hne : L.map tc ≠ [] := by intro e; rw [List.map_eq_nil_iff] at e; subst e; simp at h0
    refine .inr ⟨by simp, ?_, ?_⟩
    · rw [List.map_append, List.map_cons, List.map_nil, joinAll_snoc _ _ hne, h1]
      unfold join2 tc addL minL maxL
      simp only [List.zipWith_cons_cons, List.zipWith_nil_right, Cel.mk.injEq, List.cons.injEq, and_true, true_and]
      refine ⟨?_, ?_, ?_, ?_⟩
      · rw [List.length_append]; simp only [List.length_cons, List.length_nil]; unfold wrap64; omega
      · unfold wrap64; omega
      · split <;> omega
      · split <;> omega
    · rw [List.length_append]
      simp only [List.length_cons, List.length_nil]
      refine ⟨by omega, by omega, ?_, ?_, ?_, ?_⟩ <;> split <;> omega
theorem Tot.bd {L : List Int} {S lo hi : Int} (h : Tot L S lo hi) (hl : L.length ≤ 60) : -100000 ≤ S ∧ S ≤ 100000 ∧ -1000 ≤ lo ∧ lo ≤ 1000 ∧ -1000 ≤ hi ∧ hi ≤ 1000 := by
  rcases h with ⟨rfl, rfl, rfl, rfl⟩ | ⟨h0, h1, h2, h3, h4, h5, h6, h7⟩ <;> omega
theorem grpR_one : ∀ (l : List Cel), (∀ x ∈ l, x.key = []) → l ≠ [] → grpR l = [joinAll l]
  | x :: t, h, _ => by
    have := put_run (acc := []) (key := []) (fun y hy => by cases hy) t x (h x (by simp)) (fun y hy => h y (by simp [hy]))
    exact this
set_option maxRecDepth 100000 in
set_option maxHeartbeats 8000000 in
theorem cellTotals_walk (a0 : Option Addr) (len0 cap0 : Nat) (z0 : List Int) (w : World) (w0 : IsRow .i64 w a0 len0 cap0 z0) (hT : Tab w) (hw1 : 1 < w.heap.size) :
    Calls Tryd.prog 13 #[.slice a0 len0 cap0] w fun e w' => e = .returned (.bool true) ∧ Below w.heap.size w w' := by
  have hk := known_any w hT hw1
  have n0 := w0.nums.1
  generalize z0.take len0 = zs at n0
  have HK := Lib.hid hk
  have N0 := Lib.hid n0
  have hlen := n0.1
  have HL := Lib.hid hlen
  have HT := Lib.hid hT
  have HW := Lib.hid (fun (m : Int) (W : World) (h : inK .i64 m) => lwithin2 m 2001 W h (by omega) (by omega))
  clear hk n0 w0 hlen hT
  go_enter Tryd.func13, Tryd.ntmps13
  go_wp2_with fail
  refine HK.out.mono ?_
  rintro e w1 ⟨rfl, hb1⟩
  have B1 := Lib.hid hb1
  clear hb1 HK
  go_wp2_with fail
  go_loopw [3, 4, 5, 6, 7, 8] (fun s3 s4 s5 s6 s7 _s8 wr => ∃ (i : Nat) (us : List V5) (S lo hi : Int), s7 = .int .i64 i ∧ s4 = .int .i64 S ∧ s5 = .int .i64 lo ∧ s6 = .int .i64 hi ∧ i ≤ len0 ∧ i ≤ 60 ∧ GRs w.heap.size wr s3 us ((zs.take i).map tc) ∧ Tot (zs.take i) S lo hi ∧ Below w.heap.size w wr) (fun _ _ _ _ s7 _ _ => 60 - (intOf s7).toNat)
  case atStart => exact ⟨0, [], 0, 0, 0, rfl, rfl, rfl, rfl, Nat.zero_le _, by omega, GRs.nil _ _, .inl ⟨rfl, rfl, rfl, rfl⟩, B1.out⟩
  case round =>
    obtain ⟨i, us, S, lo, hi, rfl, rfl, rfl, rfl, hi1, hi2, hg, ht, hb⟩ := hrel
    rename World => wr
    have htl : (zs.take i).length = i := by rw [List.length_take, HL.out]; omega
    by_cases hgo : i < len0 ∧ i < 60
    · obtain ⟨hg1, hg2⟩ := hgo
      have d1 : decide ((i : Int) < (len0 : Int)) = true := decide_eq_true (by omega)
      have d2 : decide ((i : Int) < (60 : Int)) = true := decide_eq_true (by omega)
      obtain ⟨ad, y, rfl, hy, hyk, hyc⟩ := (N0.out.keep (Keeps.of_below hb)).at_ hg1
      obtain ⟨v, hv⟩ : ∃ v, v = tv y := ⟨_, rfl⟩
      have hvy : y % 2001 - 1000 = v := hv.symm
      obtain ⟨b1, b2⟩ := tv_bd y
      rw [← hv] at b1 b2
      have e2 : (wr.alloc (.cells #[.int .i64 1, .int .i64 2] 3)).heap.size = wr.heap.size + 1 := by simp
      have hB2 : Below wr.heap.size wr ((wr.alloc (.cells #[.int .i64 1, .int .i64 2] 3)).alloc (.cells #[.int .i64 v] 3)) := ((Below.refl _ wr).alloc (Nat.le_refl _) _).alloc (by simp) _
      have hKr : RI ((wr.alloc (.cells #[.int .i64 1, .int .i64 2] 3)).alloc (.cells #[.int .i64 v] 3)) (.slice (some ⟨wr.heap.size, 0, none⟩) 2 2) [1, 2] :=
        row_ri _ wr.heap.size [1, 2] 3 (by simp [inK]) ((Below.heap_alloc _ _ _ (by simp)).trans (heap_alloc_new wr _)) (by decide)
      have hMr : RI ((wr.alloc (.cells #[.int .i64 1, .int .i64 2] 3)).alloc (.cells #[.int .i64 v] 3)) (.slice (some ⟨wr.heap.size + 1, 0, none⟩) 1 1) [v] := by
        have h := heap_alloc_new (wr.alloc (.cells #[.int .i64 1, .int .i64 2] 3)) (.cells #[.int .i64 v] 3)
        rw [e2] at h
        exact row_ri _ (wr.heap.size + 1) [v] 3 (by simp only [List.mem_singleton]; rintro x rfl; exact ⟨by omega, by omega⟩) h (by simp)
      have hTr := HT.out.keep (Keeps.of_below (hb.trans (hB2.mono hb.size)))
      have hOf := of_any _ _ [1, 2] [v] 2 0 _ rfl hKr hMr (by decide) (by simp) (by decide) (by decide) hTr (by simp)
      rw [show (⟨ofKey [1, 2] 0, 1, [v], [v], [v]⟩ : Cel) = tc y from by unfold tc; rw [← hv]; rfl] at hOf
      have hstep : ∀ X1 k s n mm, CO ((wr.alloc (.cells #[.int .i64 1, .int .i64 2] 3)).alloc (.cells #[.int .i64 v] 3)).heap.size X1 k s n mm (tc y) → Below ((wr.alloc (.cells #[.int .i64 1, .int .i64 2] 3)).alloc (.cells #[.int .i64 v] 3)).heap.size ((wr.alloc (.cells #[.int .i64 1, .int .i64 2] 3)).alloc (.cells #[.int .i64 v] 3)) X1 →
          ∃ v' X3, (Builtin.append_ #[31, 31] 31 #[u3, .slice (some ⟨X1.heap.size, 0, none⟩) 1 1]).run Tryd.prog (X1.alloc (.cells #[k, .int .i64 1, s, n, mm] 33)) = .ok v' X3 ∧
          (∃ us', GRs w.heap.size X3 v' us' ((zs.take (i + 1)).map tc)) ∧ Below w.heap.size w X3 := fun X1 k s n mm hc hbx => by
        have hbx' : Below wr.heap.size wr X1 := hB2.trans (hbx.mono hB2.size)
        have hg1' := hg.below hbx'
        have hu : OwnC w.heap.size X1 ⟨k, .int .i64 1, s, n, mm⟩ (tc y) := ⟨rfl, hc.mono (Nat.le_trans hb.size hB2.size), ⟨by show (-9223372036854775808 : Int) ≤ 1; omega, by show (1 : Int) ≤ 9223372036854775807; omega⟩⟩
        have hul := hg.len
        rw [List.length_map, htl] at hul
        obtain ⟨v', X3, hrun, hgr, hgb, -⟩ := append_one hg1' hu (by omega) (Nat.le_trans hb.size hbx'.size)
        have hlt2 : (zs.take (i + 1)).map tc = (zs.take i).map tc ++ [tc y] := by rw [List.take_add_one, hy, List.map_append]; rfl
        refine ⟨v', X3, hrun, ⟨_, by rw [hlt2]; exact hgr⟩, ?_⟩
        have h1 : Below w.heap.size w (X1.alloc (.cells #[k, .int .i64 1, s, n, mm] 33)) := (hb.trans (hbx'.mono hb.size)).alloc (Nat.le_trans hb.size hbx'.size) _
        exact h1.grown hgb h1.size fun j e => (hg1'.1.lt j e).1
      have ht2 : Tot (zs.take (i + 1)) (S + v) (if i = 0 ∨ v < lo then v else lo) (if i = 0 ∨ hi < v then v else hi) := by
        have := ht.snoc (m := y) (by rw [htl]; exact hi2)
        rw [htl, ← hv] at this
        rw [List.take_add_one, hy]
        exact this
      obtain ⟨q1, q2, q3, q4, q5, q6⟩ := ht.bd (by rw [htl]; exact hi2)
      have Hst := Lib.hid hstep
      have Hof := Lib.hid hOf
      have Ht2 := Lib.hid ht2
      have i0 : (0 : Int) ≤ (i : Int) := by omega
      have hW := Lib.hid (HW.out y wr hyk)
      have Hb := Lib.hid hb
      have r1 : IntKind.i64.wrap (S + v) = S + v := IntWalk.i64_in _ (by omega)
      have r2 : IntKind.i64.wrap v = v := IntWalk.i64_in _ (by omega)
      clear hstep hOf ht2 hb hg ht hTr hKr hMr hB2 hv hy hyk
      go_wp2_with fail
      refine hW.out.mono ?_
      rintro e w2 ⟨rfl, rfl⟩
      go_wp2_with fail
      refine Hof.out.mono ?_
      rintro e X1 ⟨k, s, n, mm, rfl, hc, hbx⟩
      obtain ⟨v', X3, hrun, hfin, hb3⟩ := Hst.out X1 k s n mm hc hbx
      obtain ⟨Pk, ck, f1, -⟩ := hc.key.form
      obtain ⟨Ps, cs, f2, -⟩ := hc.sum.form
      obtain ⟨Pn, cn, f3, -⟩ := hc.mn.form
      obtain ⟨Pm, cm, f4, -⟩ := hc.mx.form
      subst f1 f2 f3 f4
      have Hrun := Lib.hid hrun
      have Hfin := Lib.hid hfin
      have Hb3 := Lib.hid hb3
      clear hrun hfin hb3 hc hbx Hst Hof hvy
      by_cases hz : i = 0
      · have dz : ((i : Int) == 0) = true := by simp [hz]
        have Ht3 := Lib.hid (show Tot (zs.take (i + 1)) (S + v) v v from by have := Ht2.out; simpa [hz] using this)
        clear Ht2 hz
        go_wp2_with (at_builtin; have _t := Hrun; refine wpList_append_eq rfl (.tmp 28) (.tmp 34) 31 rfl _ _ _ _ rfl rfl Hrun.out ?_; clear _t Hrun)
        go_roundw
        case rel =>
          obtain ⟨us', hg'⟩ := Hfin.out
          exact ⟨i + 1, us', S + v, v, v, by go_num, rfl, rfl, rfl, by omega, by omega, hg', Ht3.out, Hb3.out⟩
        case measure => simp [intOf]; omega
      · have dz : ((i : Int) == 0) = false := by simp; omega
        by_cases hlo : v < lo
        · have dl : decide (v < lo) = true := decide_eq_true hlo
          by_cases hhi : hi < v
          · have dh : decide (hi < v) = true := decide_eq_true hhi
            have Ht3 := Lib.hid (show Tot (zs.take (i + 1)) (S + v) v v from by have := Ht2.out; simpa [hz, hlo, hhi] using this)
            clear Ht2 hz hlo hhi
            go_wp2_with (at_builtin; have _t := Hrun; refine wpList_append_eq rfl (.tmp 28) (.tmp 34) 31 rfl _ _ _ _ rfl rfl Hrun.out ?_; clear _t Hrun)
            go_roundw
            case rel =>
              obtain ⟨us', hg'⟩ := Hfin.out
              exact ⟨i + 1, us', S + v, v, v, by go_num, rfl, rfl, rfl, by omega, by omega, hg', Ht3.out, Hb3.out⟩
            case measure => simp [intOf]; omega
          · have dh : decide (hi < v) = false := decide_eq_false hhi
            have Ht3 := Lib.hid (show Tot (zs.take (i + 1)) (S + v) v hi from by have := Ht2.out; simpa [hz, hlo, hhi] using this)
            clear Ht2 hz hlo hhi
            go_wp2_with (at_builtin; have _t := Hrun; refine wpList_append_eq rfl (.tmp 28) (.tmp 34) 31 rfl _ _ _ _ rfl rfl Hrun.out ?_; clear _t Hrun)
            go_roundw
            case rel =>
              obtain ⟨us', hg'⟩ := Hfin.out
              exact ⟨i + 1, us', S + v, v, hi, by go_num, rfl, rfl, rfl, by omega, by omega, hg', Ht3.out, Hb3.out⟩
            case measure => simp [intOf]; omega
        · have dl : decide (v < lo) = false := decide_eq_false hlo
          by_cases hhi : hi < v
          · have dh : decide (hi < v) = true := decide_eq_true hhi
            have Ht3 := Lib.hid (show Tot (zs.take (i + 1)) (S + v) lo v from by have := Ht2.out; simpa [hz, hlo, hhi] using this)
            clear Ht2 hz hlo hhi
            go_wp2_with (at_builtin; have _t := Hrun; refine wpList_append_eq rfl (.tmp 28) (.tmp 34) 31 rfl _ _ _ _ rfl rfl Hrun.out ?_; clear _t Hrun)
            go_roundw
            case rel =>
              obtain ⟨us', hg'⟩ := Hfin.out
              exact ⟨i + 1, us', S + v, lo, v, by go_num, rfl, rfl, rfl, by omega, by omega, hg', Ht3.out, Hb3.out⟩
            case measure => simp [intOf]; omega
          · have dh : decide (hi < v) = false := decide_eq_false hhi
            have Ht3 := Lib.hid (show Tot (zs.take (i + 1)) (S + v) lo hi from by have := Ht2.out; simpa [hz, hlo, hhi] using this)
            clear Ht2 hz hlo hhi
            go_wp2_with (at_builtin; have _t := Hrun; refine wpList_append_eq rfl (.tmp 28) (.tmp 34) 31 rfl _ _ _ _ rfl rfl Hrun.out ?_; clear _t Hrun)
            go_roundw
            case rel =>
              obtain ⟨us', hg'⟩ := Hfin.out
              exact ⟨i + 1, us', S + v, lo, hi, by go_num, rfl, rfl, rfl, by omega, by omega, hg', Ht3.out, Hb3.out⟩
            case measure => simp [intOf]; omega
    · have hie : i = min len0 60 := by omega
      obtain ⟨Pv, cv, hv3, -, -, hf1, -⟩ := hg.form
      have hul := hg.len
      rw [List.length_map, htl] at hul
      rw [hul] at hv3 hf1
      have hgr : ∀ W, Keeps wr W → Calls Tryd.prog 28 #[.slice Pv i cv] W fun e w' => ∃ v us, e = .returned v ∧ GRs W.heap.size w' v us (grpR ((zs.take i).map tc)) ∧ Below W.heap.size W w' := fun W hW =>
        groupR_any Pv cv i _ 1 W (fun h => by obtain ⟨g, e, -, -, hc, -⟩ := hf1 h; exact ⟨_, e, hc.keep hW⟩) (fun x hx => by
          obtain ⟨m, _, rfl⟩ := List.mem_map.1 hx
          exact ⟨rfl, rfl, rfl⟩) (fun x hx => by
          obtain ⟨m, _, rfl⟩ := List.mem_map.1 hx
          simp [tc]) (by omega) (by rw [List.length_map, htl]) (by omega)
      have hstop : ¬ i < len0 ∨ (i < len0 ∧ ¬ (i : Int) < 60) := by omega
      subst hv3
      have Hgr := Lib.hid (hgr wr (Keeps.refl _))
      have Hb := Lib.hid hb
      have Ht := Lib.hid ht
      have HTL := Lib.hid htl
      clear hgr hf1 hg hb ht htl hul hie
      rcases hstop with h1 | ⟨h1, h2⟩
      · have d1 : decide (i < len0) = false := decide_eq_false h1
        go_wp2_with fail
        refine Hgr.out.mono ?_
        rintro e w2 ⟨v, us2, rfl, hg2, hb2⟩
        rcases Nat.eq_zero_or_pos i with hz | hp
        · subst hz
          obtain ⟨P2, c2, e2, -⟩ := hg2.form
          have hl2 : us2.length = 0 := hg2.len
          rw [hl2] at e2
          subst e2
          have Hf := Lib.hid (Hb.out.trans (hb2.mono Hb.out.size))
          clear hg2 hb2 hl2
          go_wp2
          go_ret
          exact ⟨rfl, Hf.out⟩
        · obtain ⟨hT1, hT2⟩ : joinAll ((zs.take i).map tc) = ⟨[], i, [S], [lo], [hi]⟩ ∧ grpR ((zs.take i).map tc) = [joinAll ((zs.take i).map tc)] := by
            have hne : 0 < (zs.take i).length := by rw [HTL.out]; exact hp
            refine ⟨?_, grpR_one _ (fun x hx => by obtain ⟨m, _, rfl⟩ := List.mem_map.1 hx; rfl) (by intro e; rw [List.map_eq_nil_iff] at e; rw [e] at hne; simp at hne)⟩
            rcases Ht.out with ⟨h, _⟩ | ⟨_, h, _⟩
            · rw [h] at hne; simp at hne
            · rw [HTL.out] at h; exact h
          rw [hT2, hT1] at hg2
          obtain ⟨P2, c2, e2, -, -, hf2, -⟩ := hg2.form
          have hl2 : us2.length = 1 := hg2.len
          rw [hl2] at e2 hf2
          obtain ⟨g2, rfl, -, -, hc2, -⟩ := hf2 (by omega)
          subst e2
          obtain ⟨vk, vs, vn, vm, a0', a1', a2', a3', a4', hcr, hck⟩ := hc2.first
          obtain ⟨Pk, ck, f1, -⟩ := hcr.key
          obtain ⟨Ps, cs, f2, -⟩ := hcr.sum
          obtain ⟨Pn, cn, f3, -⟩ := hcr.mn
          obtain ⟨Pm, cm, f4, -⟩ := hcr.mx
          subst f1 f2 f3 f4
          have Hcr := Lib.hid hcr
          have Hb2 := Lib.hid (Hb.out.trans (hb2.mono Hb.out.size))
          obtain ⟨q1, q2, q3, q4, q5, q6⟩ := Ht.out.bd (by rw [HTL.out]; exact hi2)
          have dn : ((i : Int) == 0) = false := by simp; omega
          dsimp only [List.length_cons, List.length_nil, Nat.zero_add] at a0' a1' a2' a3' a4'
          clear hg2 hb2 hl2 hf2 hc2 hcr hT1 hT2
          go_wp2_with fail
          have z1 : (w2.alloc (.cells #[.int .i64 S] 3)).heap.size = w2.heap.size + 1 := by simp
          have z2 : ((w2.alloc (.cells #[.int .i64 S] 3)).alloc (.cells #[.int .i64 lo] 3)).heap.size = w2.heap.size + 1 + 1 := by simp
          have hb3 : Below w2.heap.size w2 (((w2.alloc (.cells #[.int .i64 S] 3)).alloc (.cells #[.int .i64 lo] 3)).alloc (.cells #[.int .i64 hi] 3)) := (((Below.refl _ w2).alloc (Nat.le_refl _) _).alloc (by rw [z1]; omega) _).alloc (by rw [z2]; omega) _
          have g0 := heap_alloc_new w2 (.cells #[.int .i64 S] 3)
          have g1 := heap_alloc_new (w2.alloc (.cells #[.int .i64 S] 3)) (.cells #[.int .i64 lo] 3)
          have g2' := heap_alloc_new ((w2.alloc (.cells #[.int .i64 S] 3)).alloc (.cells #[.int .i64 lo] 3)) (.cells #[.int .i64 hi] 3)
          rw [z1] at g1
          rw [z2] at g2'
          have k0 := (Below.heap_alloc ((w2.alloc (.cells #[.int .i64 S] 3)).alloc (.cells #[.int .i64 lo] 3)) (.cells #[.int .i64 hi] 3) w2.heap.size (by rw [z2]; omega)).trans ((Below.heap_alloc (w2.alloc (.cells #[.int .i64 S] 3)) (.cells #[.int .i64 lo] 3) w2.heap.size (by rw [z1]; omega)).trans g0)
          have k1 := (Below.heap_alloc ((w2.alloc (.cells #[.int .i64 S] 3)).alloc (.cells #[.int .i64 lo] 3)) (.cells #[.int .i64 hi] 3) (w2.heap.size + 1) (by rw [z2]; omega)).trans g1
          have oneI : ∀ u : Int, -100000 ≤ u → u ≤ 100000 → ∀ x ∈ [u], inK .i64 x := fun u h h' x hx => by simp only [List.mem_singleton] at hx; subst hx; exact ⟨by omega, by omega⟩
          have hy : CR (((w2.alloc (.cells #[.int .i64 S] 3)).alloc (.cells #[.int .i64 lo] 3)).alloc (.cells #[.int .i64 hi] 3)) (.slice none 0 0) (.slice (some ⟨w2.heap.size, 0, none⟩) 1 1) (.slice (some ⟨w2.heap.size + 1, 0, none⟩) 1 1) (.slice (some ⟨w2.heap.size + 1 + 1, 0, none⟩) 1 1) ⟨[], i, [S], [lo], [hi]⟩ :=
            ⟨nil_ri _, row_ri _ _ [S] 3 (oneI S (by omega) (by omega)) k0 (by simp), row_ri _ _ [lo] 3 (oneI lo (by omega) (by omega)) k1 (by simp), row_ri _ _ [hi] 3 (oneI hi (by omega) (by omega)) g2' (by simp)⟩
          refine (equal_yes _ _ _ _ _ _ _ _ ⟨[], i, [S], [lo], [hi]⟩ _ (Hcr.out.keep (Keeps.of_below hb3)) hy (by simp) (by simp) (by simp) (by simp)).mono ?_
          rintro e w4 ⟨rfl, hb4⟩
          have Hf := Lib.hid (Hb2.out.trans ((hb3.trans (hb4.mono hb3.size)).mono Hb2.out.size))
          clear hb3 hb4 g0 g1 g2' k0 k1 hy
          go_wp2
          go_ret
          exact ⟨rfl, Hf.out⟩
      · have d1 : decide (i < len0) = true := decide_eq_true h1
        have d2 : decide ((i : Int) < 60) = false := decide_eq_false h2
        go_wp2_with fail
        refine Hgr.out.mono ?_
        rintro e w2 ⟨v, us2, rfl, hg2, hb2⟩
        rcases Nat.eq_zero_or_pos i with hz | hp
        · subst hz
          obtain ⟨P2, c2, e2, -⟩ := hg2.form
          have hl2 : us2.length = 0 := hg2.len
          rw [hl2] at e2
          subst e2
          have Hf := Lib.hid (Hb.out.trans (hb2.mono Hb.out.size))
          clear hg2 hb2 hl2
          go_wp2
          go_ret
          exact ⟨rfl, Hf.out⟩
        · obtain ⟨hT1, hT2⟩ : joinAll ((zs.take i).map tc) = ⟨[], i, [S], [lo], [hi]⟩ ∧ grpR ((zs.take i).map tc) = [joinAll ((zs.take i).map tc)] := by
            have hne : 0 < (zs.take i).length := by rw [HTL.out]; exact hp
            refine ⟨?_, grpR_one _ (fun x hx => by obtain ⟨m, _, rfl⟩ := List.mem_map.1 hx; rfl) (by intro e; rw [List.map_eq_nil_iff] at e; rw [e] at hne; simp at hne)⟩
            rcases Ht.out with ⟨h, _⟩ | ⟨_, h, _⟩
            · rw [h] at hne; simp at hne
            · rw [HTL.out] at h; exact h
          rw [hT2, hT1] at hg2
          obtain ⟨P2, c2, e2, -, -, hf2, -⟩ := hg2.form
          have hl2 : us2.length = 1 := hg2.len
          rw [hl2] at e2 hf2
          obtain ⟨g2, rfl, -, -, hc2, -⟩ := hf2 (by omega)
          subst e2
          obtain ⟨vk, vs, vn, vm, a0', a1', a2', a3', a4', hcr, hck⟩ := hc2.first
          obtain ⟨Pk, ck, f1, -⟩ := hcr.key
          obtain ⟨Ps, cs, f2, -⟩ := hcr.sum
          obtain ⟨Pn, cn, f3, -⟩ := hcr.mn
          obtain ⟨Pm, cm, f4, -⟩ := hcr.mx
          subst f1 f2 f3 f4
          have Hcr := Lib.hid hcr
          have Hb2 := Lib.hid (Hb.out.trans (hb2.mono Hb.out.size))
          obtain ⟨q1, q2, q3, q4, q5, q6⟩ := Ht.out.bd (by rw [HTL.out]; exact hi2)
          have dn : ((i : Int) == 0) = false := by simp; omega
          dsimp only [List.length_cons, List.length_nil, Nat.zero_add] at a0' a1' a2' a3' a4'
          clear hg2 hb2 hl2 hf2 hc2 hcr hT1 hT2
          go_wp2_with fail
          have z1 : (w2.alloc (.cells #[.int .i64 S] 3)).heap.size = w2.heap.size + 1 := by simp
          have z2 : ((w2.alloc (.cells #[.int .i64 S] 3)).alloc (.cells #[.int .i64 lo] 3)).heap.size = w2.heap.size + 1 + 1 := by simp
          have hb3 : Below w2.heap.size w2 (((w2.alloc (.cells #[.int .i64 S] 3)).alloc (.cells #[.int .i64 lo] 3)).alloc (.cells #[.int .i64 hi] 3)) := (((Below.refl _ w2).alloc (Nat.le_refl _) _).alloc (by rw [z1]; omega) _).alloc (by rw [z2]; omega) _
          have g0 := heap_alloc_new w2 (.cells #[.int .i64 S] 3)
          have g1 := heap_alloc_new (w2.alloc (.cells #[.int .i64 S] 3)) (.cells #[.int .i64 lo] 3)
          have g2' := heap_alloc_new ((w2.alloc (.cells #[.int .i64 S] 3)).alloc (.cells #[.int .i64 lo] 3)) (.cells #[.int .i64 hi] 3)
          rw [z1] at g1
          rw [z2] at g2'
          have k0 := (Below.heap_alloc ((w2.alloc (.cells #[.int .i64 S] 3)).alloc (.cells #[.int .i64 lo] 3)) (.cells #[.int .i64 hi] 3) w2.heap.size (by rw [z2]; omega)).trans ((Below.heap_alloc (w2.alloc (.cells #[.int .i64 S] 3)) (.cells #[.int .i64 lo] 3) w2.heap.size (by rw [z1]; omega)).trans g0)
          have k1 := (Below.heap_alloc ((w2.alloc (.cells #[.int .i64 S] 3)).alloc (.cells #[.int .i64 lo] 3)) (.cells #[.int .i64 hi] 3) (w2.heap.size + 1) (by rw [z2]; omega)).trans g1
          have oneI : ∀ u : Int, -100000 ≤ u → u ≤ 100000 → ∀ x ∈ [u], inK .i64 x := fun u h h' x hx => by simp only [List.mem_singleton] at hx; subst hx; exact ⟨by omega, by omega⟩
          have hy : CR (((w2.alloc (.cells #[.int .i64 S] 3)).alloc (.cells #[.int .i64 lo] 3)).alloc (.cells #[.int .i64 hi] 3)) (.slice none 0 0) (.slice (some ⟨w2.heap.size, 0, none⟩) 1 1) (.slice (some ⟨w2.heap.size + 1, 0, none⟩) 1 1) (.slice (some ⟨w2.heap.size + 1 + 1, 0, none⟩) 1 1) ⟨[], i, [S], [lo], [hi]⟩ :=
            ⟨nil_ri _, row_ri _ _ [S] 3 (oneI S (by omega) (by omega)) k0 (by simp), row_ri _ _ [lo] 3 (oneI lo (by omega) (by omega)) k1 (by simp), row_ri _ _ [hi] 3 (oneI hi (by omega) (by omega)) g2' (by simp)⟩
          refine (equal_yes _ _ _ _ _ _ _ _ ⟨[], i, [S], [lo], [hi]⟩ _ (Hcr.out.keep (Keeps.of_below hb3)) hy (by simp) (by simp) (by simp) (by simp)).mono ?_
          rintro e w4 ⟨rfl, hb4⟩
          have Hf := Lib.hid (Hb2.out.trans ((hb3.trans (hb4.mono hb3.size)).mono Hb2.out.size))
          clear hb3 hb4 g0 g1 g2' k0 k1 hy
          go_wp2
          go_ret
          exact ⟨rfl, Hf.out⟩
end Go.Proofs.YtpejdafijeagnaaDoor
