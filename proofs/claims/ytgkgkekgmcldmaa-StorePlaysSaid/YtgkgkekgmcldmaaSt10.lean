/- Package store's face: Crash. -/
import Derived.Test.YtgkgkekgmcldmaaSt9
namespace Go.Proofs.Ytgkgkekgmcldmaa
open Go.RowKit
def stepK (f : SF) (kp : List Int) : Int × List Int := if f.st = 2 then (0, kp) else (kp.headD 0, kp.tail)
theorem crash_step (n : Nm) (f : SF) (t : Fs) (kp : List Int) (acc : Fs) : crashF ((n, f) :: t) kp acc = crashF t (stepK f kp).2 (putO acc n (lf f (stepK f kp).1)) := by
  rw [crashF]
  unfold stepK lf
  split <;> rfl
theorem slice1 {P : Program} {t e : TypeId} (ht : P.underlying t = some (.slice e)) (hs : ∀ W, (sizeOf e).run P W = .ok 1 W) (ad : Addr) (m c : Nat) (h1 : 1 ≤ m) (hc : m ≤ c) :
    ∃ ad', (∀ W, (Instr.slice t (.slice (some ad) m c) (some (.int .i64 1)) none none).run P W = .ok (.slice (some ad') (m - 1) (c - 1)) W) ∧ ∀ (w : World) (xs : List Int), Nums .i64 w (some ad) m xs → Nums .i64 w (some ad') (m - 1) (xs.drop 1) := by
  have he : P.elem t = e := by simp [Program.elem, ht]
  refine ⟨if c = 1 then ad else ad.add 1, fun W => ?_, fun w xs hx => ?_⟩
  · rw [run_slice_l (h0 := by omega) (h1 := by omega) (ht := by rw [he]; exact ht), he, hs]
    by_cases e : c = 1
    · simp [sliced, Result.andThen, e]
    · simp [sliced, Result.andThen, e]
  · by_cases e : c = 1
    · have e2 : m = 1 := by omega
      subst e2
      have := hx.drop (k := 1) (by omega)
      rw [List.drop_eq_nil_of_le (by have := hx.1; omega)] at this ⊢
      exact Nums.nil _ _ _
    · rw [if_neg e]
      exact hx.drop h1
theorem grwq {A : Nat → Prop} {w2 w7 w8 w9 : World} {j : Nat} (h1 : w2.heap.size ≤ w7.heap.size) (h2 : w7.heap.size ≤ w8.heap.size) (h3 : w8.heap.size ≤ w9.heap.size) (h : Grw (Grw A w2 w7) w8 w9 j) : Grw A w2 w9 j := by
  rcases h with (h | h) | h
  · exact .inl h
  · exact .inr ⟨h.1, by omega⟩
  · exact .inr ⟨by omega, h.2⟩
theorem step_empty {f : SF} {kp : List Int} (h : ¬ (f.st ≠ 2 ∧ 0 < kp.length)) : stepK f kp = (0, kp) := by
  unfold stepK
  split
  · rfl
  · have : kp = [] := List.eq_nil_of_length_eq_zero (by omega)
    subst this
    rfl
theorem step_more {f : SF} {x : Int} {kp : List Int} (h : f.st ≠ 2) (hx : kp[0]? = some x) : stepK f kp = (x, kp.drop 1) := by
  unfold stepK
  rw [if_neg h]
  cases kp with
  | nil => simp at hx
  | cons y t => simp at hx; subst hx; rfl
set_option maxRecDepth 100000 in
set_option maxHeartbeats 4000000 in
theorem sCrash_any {w : World} {p c : Nat} {σ : St} {M A : Nat → Prop} (Pk : Option Addr) (mk ck : Nat) (kp : List Int) (h : StoreAt w p σ c M A) (hc : c ≤ 999999) (hk : Nums .i64 w Pk mk kp) (hmk : mk ≤ ck) (hck : mk ≤ 9223372036854775807) :
    Calls Try.prog 19 #[.pointer (some ⟨p, 0, none⟩), .slice Pk mk ck] w fun e w' => e = .returned (.pointer (some ⟨w.heap.size, 0, none⟩)) ∧ StoreAt w' w.heap.size (σ.crash kp) c (Grw (fun _ => False) w w') (Grw A w w') ∧ Below w.heap.size w w' := by
  obtain ⟨mv, dv, hi⟩ := h
  have h : StoreAt w p σ c M A := ⟨mv, dv, hi⟩
  obtain ⟨r, e0⟩ := hi.map.isMap
  subst e0
  obtain ⟨hl1, hl2⟩ := hi.ok.lim
  have hq0 := hi.blk.cell (i := 0) rfl
  have hpl := hi.ml p hi.mp
  have hfew := hi.ok.few
  have Hi := Lib.hid hi
  have H := Lib.hid h
  have Hk := Lib.hid hk
  clear hi h hk
  go_enter Try.func19, Try.ntmps19
  go_wp2_with fail
  refine (sNew_any σ.lim w).mono ?_
  rintro e w1 ⟨rfl, hw1⟩
  have hs0 := StoreAt.new w σ.lim ⟨hl1, hl2⟩
  rw [← hw1] at hs0
  have hb1 : Below w.heap.size w w1 := hw1 ▸ (Below.refl _ w).alloc (Nat.le_refl _) _
  have hz1 : w1.heap.size = w.heap.size + 1 := by rw [hw1]; simp
  have Hs0 := Lib.hid hs0
  have Hb1 := Lib.hid hb1
  have Hz1 := Lib.hid hz1
  clear hw1 hs0 hb1 hz1
  go_wp2_with fail
  refine (sNames_any (H.out.below Hb1.out) (by omega)).mono ?_
  rintro e w2 ⟨v, rfl, hv, hb2⟩
  have hs2 := Hs0.out.below hb2
  have hb2' : Below w.heap.size w w2 := Hb1.out.trans (hb2.mono (by have := Hz1.out; omega))
  have hz2 : w.heap.size + 1 ≤ w2.heap.size := by have := Hz1.out; have := hb2.size; omega
  obtain ⟨Pn, cn, ev, hcn, _, hcell⟩ := own_form hv
  subst ev
  have Hv := Lib.hid hv
  have Hs2 := Lib.hid hs2
  have Hb2 := Lib.hid hb2'
  have Hz2 := Lib.hid hz2
  have Hcell := Lib.hid hcell
  obtain ⟨N, hN⟩ : ∃ N, N = σ.fs.length := ⟨_, rfl⟩
  rw [← hN] at Hv Hcell hcn hfew ⊢
  have HN := Lib.hid hN
  obtain ⟨q, hq⟩ : ∃ q, q = w.heap.size := ⟨_, rfl⟩
  rw [← hq] at Hs2 ⊢
  have Hq := Lib.hid hq
  clear hv hs2 hb2 hb2' hz2 hcell Hs0 Hb1 hN hq0 hq
  go_wp2_with fail
  go_loopw [1, 20] (fun t1 i wr => ∃ (k : Nat) (kp' : List Int) (P' : Option Addr) (m' c' : Nat) (acc : Fs), k ≤ N ∧ i = .int .i64 k ∧ t1 = .slice P' m' c' ∧ Nums .i64 w P' m' kp' ∧ m' ≤ c' ∧ m' ≤ 9223372036854775807 ∧ crashF σ.fs kp [] = crashF (σ.fs.drop k) kp' acc ∧
    StoreAt wr q ⟨σ.lim, acc, []⟩ k (Grw (fun j => j = q) w2 wr) (Grw A w2 wr) ∧ Tch (fun j => j = q) w2 wr) (fun _ i _ => N - (intOf i).toNat)
  case atStart =>
    refine ⟨0, kp, Pk, mk, ck, [], by omega, rfl, rfl, Hk.out, hmk, hck, rfl, ?_, Tch.refl _ _⟩
    exact Hs2.out.mono (fun k hk => .inl hk) (fun k hk => hk.elim) (grw_bd (fun k hk => by subst hk; have := Hz2.out; have := Hq.out; omega) (Nat.le_refl _)) (grw_bd (fun k hk => Nat.lt_of_lt_of_le (Hi.out.al k hk) Hb2.out.size) (Nat.le_refl _)) (Nat.le_refl _)
  case round =>
    obtain ⟨k, kp', P', m', c', acc, hkN, rfl, rfl, hK, hmc', hm', hcr, hSt, hT⟩ := hrel
    rename World => wr
    have HK := Lib.hid hK
    have Hcr := Lib.hid hcr
    have HSt := Lib.hid hSt
    have HT := Lib.hid hT
    clear hK hcr hSt hT hmk hck
    have hbw : Below w.heap.size w wr := Hb2.out.trans (HT.out.below (fun j hj => by have := Hq.out; omega) (by have := Hz2.out; omega))
    have Hbw := Lib.hid hbw
    clear hbw
    by_cases hlt : k < N
    · obtain ⟨g, rfl, hg, hcs⟩ := Hcell.out (by omega)
      obtain ⟨nm, f, hfk⟩ : ∃ nm f, σ.fs[k]? = some (nm, f) := ⟨_, _, List.getElem?_eq_getElem (by have := HN.out; omega)⟩
      have hmem := List.mem_of_getElem? hfk
      have hff := fnd_of_mem (Hi.out.ok.rising) hmem
      have hnk : nameOk nm = true := Hi.out.ok.names _ hmem
      have hfok : f.ok := Hi.out.ok.files _ hmem
      have hnl := nameOk_le hnk
      have hc0 : wr.cell? ⟨g, k, none⟩ = some (.string (str nm)) := by
        have h1 := hcs k (.string (str nm)) (by unfold nmCells; rw [List.getElem?_map, hfk]; rfl)
        have hgl : g < w2.heap.size := (Hv.out.lt g rfl).2
        rw [World.cell?_of_block (w := w2) (HT.out.block g hgl fun e => by
          have := (Hv.out.lt g rfl).1
          have := Hq.out
          have := Hz1.out
          omega)]
        exact h1
      obtain ⟨vl, hl, hr1, _⟩ := look_any (Hi.out.map.below Hbw.out) (n := nm) (by simp [maxLen]; omega)
      have hfl := hl.file
      rw [hff] at hfl
      simp only [valF, Option.getD_some] at hfl
      obtain ⟨P3, c3, P4, c4, e3, _, _⟩ := hfl.slices
      subst e3
      obtain ⟨q3, hq3⟩ : ∃ q3, q3 = f.b.length := ⟨_, rfl⟩
      obtain ⟨q4, hq4⟩ : ∃ q4, q4 = f.old.length := ⟨_, rfl⟩
      obtain ⟨st, hst⟩ : ∃ st, st = (f.st : Int) := ⟨_, rfl⟩
      rw [← hq3, ← hq4, ← hst] at hr1 hfl
      have hcs2 : crashF σ.fs kp [] = crashF (σ.fs.drop (k + 1)) (stepK f kp').2 (putO acc nm (lf f (stepK f kp').1)) := by
        rw [Hcr.out, List.drop_eq_getElem_cons (by have := HN.out; omega), show σ.fs[k]'(by have := HN.out; omega) = (nm, f) from by
          have := List.getElem?_eq_some_iff.1 hfk
          exact this.2, crash_step]
      have hq1 := (Hi.out.blk.below Hbw.out Hi.out.blk.lt).cell (i := 1) rfl
      have hi0 : (k : Int) < (N : Int) := by omega
      have hi1 : (0 : Int) ≤ (k : Int) := by omega
      have Hfl := Lib.hid hfl
      have Hcs2 := Lib.hid hcs2
      have Hnk := Lib.hid hnk
      have Hfok := Lib.hid hfok
      have Hst := Lib.hid hst
      have Hwr := Lib.hid HT.out.size
      clear hcs hfk hmem hff hnk hfok hl hfl hq3 hq4 hst hcs2 Hcr
      go_upto_region 6 with (fail)
      have hb5 : Below wr.heap.size wr (wr.alloc (.cells #[.slice P3 q3 c3, .slice P4 q4 c4, .int .i64 st] 69)) := (Below.refl _ _).alloc (Nat.le_refl _) _
      have hbx : Own 69 (wr.alloc (.cells #[.slice P3 q3 c3, .slice P4 q4 c4, .int .i64 st] 69)) wr.heap.size [.slice P3 q3 c3, .slice P4 q4 c4, .int .i64 st] := heap_alloc_new wr _
      generalize wr.alloc (.cells #[.slice P3 q3 c3, .slice P4 q4 c4, .int .i64 st] 69) = W5 at hb5 hbx ⊢
      have x0 := hbx.cell (i := 0) rfl
      have x1 := hbx.cell (i := 1) rfl
      have x2 := hbx.cell (i := 2) rfl
      have Hb5 := Lib.hid hb5
      clear hb5 hbx hq1 hr1 hc0 hi0 hi1
      obtain ⟨bb, hbb⟩ : ∃ bb, bb = decide (f.st ≠ 2 ∧ 0 < m') := ⟨_, rfl⟩
      have Hbb := Lib.hid hbb
      clear hbb
      go_cut [38] from 31 to 38 (fun t wx => t = .bool bb ∧ W5 = wx)
      case first =>
        have hbb := Hbb.out
        have hst := Hst.out
        by_cases h2 : st = 2
        · have e : bb = false := by rw [hbb]; simp; omega
          subst h2 e
          clear hbb hst
          go_wp2
          go_meet
          exact ⟨rfl, rfl⟩
        · by_cases h0 : 0 < m'
          · have e : bb = true := by rw [hbb]; simp; omega
            have d1 : (st != 2) = true := by simpa using h2
            have d2 : decide (0 < m') = true := by simp; omega
            subst e
            clear hbb hst h2 h0
            go_wp2
            go_meet
            exact ⟨rfl, rfl⟩
          · have e : bb = false := by rw [hbb]; simp; omega
            have d1 : (st != 2) = true := by simpa using h2
            have d2 : decide (0 < m') = false := by simp; omega
            subst e
            clear hbb hst h2 h0
            go_wp2
            go_meet
            exact ⟨rfl, rfl⟩
      case rest =>
      obtain ⟨rfl, hw⟩ := hcut
      subst hw
      go_upto_if 38 with (fail)
      go_cut [1, 9] from 39 to 43 (fun t1 t9 wx => ∃ (P2 : Option Addr) (m2 c2 nq : Nat), t1 = .slice P2 m2 c2 ∧ Nums .i64 w P2 m2 (stepK f kp').2 ∧ m2 ≤ c2 ∧ m2 ≤ 9223372036854775807 ∧ t9 = .int .i64 (stepK f kp').1 ∧ inK .i64 (stepK f kp').1 ∧ W5.drewN nq = wx)
      case first =>
        have hbb := Hbb.out
        cases bb with
        | true =>
          obtain ⟨h1, h2⟩ : f.st ≠ 2 ∧ 0 < m' := by simpa using hbb.symm
          obtain ⟨ad, x, rfl, hx1, hx2, hx3⟩ := HK.out.at_ h2
          have hxc : W5.cell? ad = some (.int .i64 x) := by
            have := (Keeps.of_below (Hbw.out.trans (Hb5.out.mono Hbw.out.size)) : Keeps w W5) _ _ hx3
            rwa [show ad.add 0 = ad from by simp [Addr.add]] at this
          obtain ⟨ad', hs1, hs2⟩ := slice1 Try.underlying22 Try.sizeOf3 ad m' c' (by omega) hmc'
          have hstep := step_more h1 hx1
          have Hstep := Lib.hid hstep
          have Hs2' := Lib.hid (hs2 w kp' HK.out)
          have Hx2 := Lib.hid hx2
          have hm1 : (0 : Int) < (m' : Int) := by omega
          clear hbb h1 hx1 hx2 hx3 hstep hs2
          go_wp2_with fail
          go_quiet (fail)
          go_wp2
          go_meet
          rw [Hstep.out]
          exact ⟨_, _, _, _, rfl, Hs2'.out, by omega, by omega, rfl, Hx2.out, rfl⟩
        | false =>
          have h1 : ¬ (f.st ≠ 2 ∧ 0 < kp'.length) := by
            rw [HK.out.1]
            intro h
            rw [decide_eq_true h] at hbb
            cases hbb
          have hstep := step_empty h1
          have Hstep := Lib.hid hstep
          clear hbb h1 hstep
          go_wp2
          go_meet
          rw [Hstep.out]
          exact ⟨_, _, _, 0, rfl, HK.out, hmc', hm', rfl, by simp [inK], rfl⟩
      case rest =>
      obtain ⟨P2, m2, c2, nq, rfl, hK2, hmc2, hm2, rfl, hkk, hw⟩ := hcut
      have x0' : (W5.drewN nq).cell? ⟨wr.heap.size, 0, none⟩ = some (.slice P3 q3 c3) := x0
      have x1' : (W5.drewN nq).cell? ⟨wr.heap.size, 1, none⟩ = some (.slice P4 q4 c4) := x1
      have x2' : (W5.drewN nq).cell? ⟨wr.heap.size, 2, none⟩ = some (.int .i64 st) := x2
      have hb6 : Below wr.heap.size wr (W5.drewN nq) := below_drewN Hb5.out nq
      rw [hw] at x0' x1' x2' hb6
      rename World => W6
      have HK2 := Lib.hid hK2
      have Hkk := Lib.hid hkk
      have Hb6 := Lib.hid hb6
      obtain ⟨kk, hkk2⟩ : ∃ kk, kk = (stepK f kp').1 := ⟨_, rfl⟩
      have Hcs3 : Hid (crashF σ.fs kp [] = crashF (σ.fs.drop (k + 1)) (stepK f kp').2 (putO acc nm (lf f kk))) := Lib.hid (hkk2 ▸ Hcs2.out)
      have Hkk3 : Hid (inK .i64 kk) := Lib.hid (hkk2 ▸ Hkk.out)
      rw [← hkk2]
      clear hK2 hkk hb6 hw hkk2 x0 x1 x2 Hb5 Hcs2 Hkk
      go_wp2_with fail
      refine (left_any A _ f kk _ (by exact Hfl.out.below Hb6.out) Hfok.out Hkk3.out).mono ?_
      rintro e w7 ⟨Pu, nu, cu, rfl, hu, hb7⟩
      have hb7' : Below wr.heap.size wr w7 := Hb6.out.trans (hb7.mono Hb6.out.size)
      have s27 : w2.heap.size ≤ w7.heap.size := Nat.le_trans Hwr.out hb7'.size
      have hS7 : StoreAt w7 q ⟨σ.lim, acc, []⟩ k (Grw (fun j => j = q) w2 w7) (Grw A w2 w7) :=
        (HSt.out.below hb7').mono (fun j hj => by rcases hj with hj | hj; exact .inl hj; exact .inr ⟨hj.1, Nat.lt_of_lt_of_le hj.2 hb7'.size⟩) (fun j hj => by rcases hj with hj | hj; exact .inl hj; exact .inr ⟨hj.1, Nat.lt_of_lt_of_le hj.2 hb7'.size⟩)
          (grw_bd (fun j hj => by subst hj; have := Hz2.out; have := Hq.out; omega) s27) (grw_bd (fun j hj => Nat.lt_of_lt_of_le (Hi.out.al j hj) Hb2.out.size) s27) (Nat.le_refl _)
      have hT7 : Tch (fun j => j = q) w2 w7 := HT.out.same (Tch.of_below _ hb7')
      have hU7 : FB (Grw A w2 w7) w7 (.slice Pu nu cu) ((lf f kk).getD []) := hu.mono fun j hj => by
        rcases hj with hj | hj
        · exact .inl hj
        · exact .inr ⟨Nat.le_trans (Nat.le_trans Hwr.out Hb6.out.size) hj.1, hj.2⟩
      have HS7 := Lib.hid hS7
      have HT7 := Lib.hid hT7
      have HU7 := Lib.hid hU7
      have S27 := Lib.hid s27
      clear hu hb7 hb7' s27 hS7 hT7 hU7 HSt HT
      cases hlf : lf f kk with
      | none =>
        have Hlf := Lib.hid hlf
        clear hlf
        simp only [Option.isSome_none]
        go_wp2
        go_roundw
        case rel =>
          refine ⟨k + 1, _, P2, m2, c2, acc, by omega, by go_num, rfl, HK2.out, hmc2, hm2, ?_, ?_, HT7.out⟩
          · rw [Hcs3.out, Hlf.out]; rfl
          · exact HS7.out.mono (fun _ h => h) (fun _ h => h) HS7.out.ml HS7.out.al (Nat.le_succ k)
        case measure => simp [intOf]; omega
      | some b =>
        have Hlf := Lib.hid hlf
        have hbok : b.length ≤ 1000 ∧ ∀ x ∈ b, 0 ≤ x ∧ x ≤ 255 := by
          unfold lf at hlf
          split at hlf
          · injection hlf with hlf; subst hlf; exact Hfok.out.b
          · exact leftF_ok Hfok.out hlf
        have Hbok := Lib.hid hbok
        clear hlf hbok
        simp only [Option.isSome_some]
        go_upto_region 10 with (fail)
        refine wp_region_held_drew (S := fun _ => True) (by kernel_rfl) trivial (fun hHeld => ?_)
        refine wpAnyH_take (i := 0) (v := ?vc0) rfl (by kernel_rfl) (by kernel_rfl) (by kernel_rfl) (fun _ _ _ h => h) (Or.inl ⟨by rfl, ?yc0⟩) hHeld ?rc0
        case yc0 => (intro W hW; go_simp; first | done | with_reducible rfl)
        try simp only [List.getElem_toArray, List.getElem_cons_zero, Act.put, List.setIfInBounds_toArray, List.set_cons_zero, List.set_cons_succ]
        refine wpAnyH_take (i := 1) (v := ?vc1) rfl (by kernel_rfl) (by kernel_rfl) (by kernel_rfl) (fun _ _ _ h => h) (Or.inl ⟨by rfl, ?yc1⟩) hHeld ?rc1
        case yc1 => (intro W hW; go_simp; first | done | with_reducible rfl)
        try simp only [List.getElem_toArray, List.getElem_cons_succ, List.getElem_cons_zero, Act.put, List.setIfInBounds_toArray, List.set_cons_zero, List.set_cons_succ]
        refine wpAnyH_take (i := 2) (v := ?vc2) rfl (by kernel_rfl) (by kernel_rfl) (by kernel_rfl) (fun _ _ _ h => h) (Or.inl ⟨by rfl, ?yc2⟩) hHeld ?rc2
        case yc2 => (intro W hW; go_simp; first | done | with_reducible rfl)
        try simp only [List.getElem_toArray, List.getElem_cons_succ, List.getElem_cons_zero, Act.put, List.setIfInBounds_toArray, List.set_cons_zero, List.set_cons_succ]
        refine wpAnyH_take (i := 3) (v := ?vc3) rfl (by kernel_rfl) (by kernel_rfl) (by kernel_rfl) (fun _ _ _ h => h) (Or.inl ⟨by rfl, ?yc3⟩) hHeld ?rc3
        case yc3 => (intro W hW; go_simp; first | done | with_reducible rfl)
        try simp only [List.getElem_toArray, List.getElem_cons_succ, List.getElem_cons_zero, Act.put, List.setIfInBounds_toArray, List.set_cons_zero, List.set_cons_succ]
        refine wpAnyH_take (i := 4) (v := ?vc4) rfl (by kernel_rfl) (by kernel_rfl) (by kernel_rfl) (fun _ _ _ h => h) (Or.inl ⟨by rfl, ?yc4⟩) hHeld ?rc4
        case yc4 => (intro W hW; go_simp; first | done | with_reducible rfl)
        try simp only [List.getElem_toArray, List.getElem_cons_succ, List.getElem_cons_zero, Act.put, List.setIfInBounds_toArray, List.set_cons_zero, List.set_cons_succ]
        refine wpAnyH_ready (rs := [5]) (by kernel_rfl) (by simp) ?_
        refine AllReadyH.cons rfl (fun K hK => ?_) (AllReadyH.nil)
        go_simp
        refine (certain_any Pu nu cu _).mono ?_
        rintro e w8 ⟨rfl, hb8⟩
        have hb8' : Below w7.heap.size w7 w8 := (below_drewN (Below.refl _ _) 1).trans hb8
        have Hb8 := Lib.hid hb8'
        clear hb8 hb8'
        go_wp2_with fail
        refine hK.out _ _ trivial (fun hHeld => ?_)
        clear hK K
        try simp only [List.getElem_toArray, List.getElem_cons_succ, List.getElem_cons_zero, Act.put, List.setIfInBounds_toArray, List.set_cons_zero, List.set_cons_succ]
        refine wpAnyH_ready (rs := [6]) (by kernel_rfl) (by simp) ?_
        refine AllReadyH.cons rfl (fun K hK => ?_) (AllReadyH.nil)
        go_simp
        obtain ⟨mo, do_, hS8⟩ := HS7.out.below Hb8.out
        have hv8 : FileV (Grw A w2 w7) w8 (.agg #[.slice Pu nu cu, .slice none 0 0, .int .i64 2]) (sureF b) := by
          have h1 := HU7.out.below Hb8.out
          rw [Hlf.out] at h1
          exact FileV.sure h1
        refine (put_any _ q k _ _ _ mo do_ _ nm (sureF b) hS8 hv8 (sureF_ok Hbok.out) Hnk.out (by omega)).mono ?_
        rintro e w9 ⟨rfl, h9, t9⟩
        have H9 := Lib.hid h9
        have T9 := Lib.hid t9
        clear h9 t9 hS8 hv8
        go_wp2_with fail
        refine hK.out _ _ trivial (fun hHeld => ?_)
        clear hK K
        try simp only [List.getElem_toArray, List.getElem_cons_succ, List.getElem_cons_zero, Act.put, List.setIfInBounds_toArray, List.set_cons_zero, List.set_cons_succ]
        refine wpAnyH_done (by kernel_rfl) ?_ _
        go_wp2
        go_roundw
        case rel =>
          have s78 := Hb8.out.size
          have s89 := T9.out.size
          have s27 := S27.out
          refine ⟨k + 1, _, P2, m2, c2, putF acc nm (sureF b), by omega, by go_num, rfl, HK2.out, hmc2, hm2, ?_, ?_, ?_⟩
          · rw [Hcs3.out, Hlf.out]; rfl
          · refine StoreAt.mono H9.out (fun j hj => grwq s27 s78 s89 hj) (fun j hj => grwq s27 s78 s89 hj) (grw_bd (fun j hj => by subst hj; have := Hz2.out; have := Hq.out; omega) (by omega)) (grw_bd (fun j hj => Nat.lt_of_lt_of_le (Hi.out.al j hj) Hb2.out.size) (by omega)) (Nat.le_refl _)
          · exact (HT7.out.same (Tch.of_below _ Hb8.out)).trans T9.out fun j hj hg => by
              rcases hg with hg | hg
              · exact hg
              · omega
        case measure => simp [intOf]; omega
    · obtain rfl : k = N := by omega
      have hcr : crashF σ.fs kp [] = acc := by rw [Hcr.out, List.drop_eq_nil_of_le (by rw [← HN.out]; exact Nat.le_refl _)]; rfl
      have hz := Hz2.out
      have hq := Hq.out
      have hs2 := HT.out.size
      have hfin : StoreAt wr q (σ.crash kp) c (Grw (fun _ => False) w wr) (Grw A w wr) := by
        have e : σ.crash kp = ⟨σ.lim, acc, []⟩ := by unfold St.crash; rw [hcr]
        rw [e]
        refine HSt.out.mono (fun j hj => ?_) (fun j hj => ?_) (fun j hj => ?_) (fun j hj => ?_) hfew
        · rcases hj with hj | hj
          · subst hj; exact .inr ⟨by omega, by omega⟩
          · exact .inr ⟨by omega, hj.2⟩
        · rcases hj with hj | hj
          · exact .inl hj
          · exact .inr ⟨by omega, hj.2⟩
        · rcases hj with hj | hj
          · exact hj.elim
          · exact hj.2
        · rcases hj with hj | hj
          · have := Hi.out.al j hj; omega
          · exact hj.2
      have Hfin := Lib.hid hfin
      clear hcr hz hq hs2 hfin
      go_wp2
      go_ret
      have hq := Hq.out
      subst hq
      exact ⟨rfl, Hfin.out, Hbw.out⟩
end Go.Proofs.Ytgkgkekgmcldmaa
