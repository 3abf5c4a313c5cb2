/- The reference's has, Sorted, Same, of chapter 5. -/
import Derived.IntWalk
import Derived.Test.YtaaciedelfaekaaDoorMath5
import Derived.Test.YtaaciedelfaekaaDoorCelg
namespace Go.Proofs.YtaaciedelfaekaaDoor
open Go.RowKit Go.Shelf
attribute [local go_sem] Oper.semAt_some
theorem hasK_no {L : List Cel} {x : Cel} (h : ∀ (j : Nat) y, j < L.length → L[j]? = some y → y.key ≠ x.key) : hasK L x = false := by
  cases hh : hasK L x with
  | false => rfl
  | true =>
    obtain ⟨y, hy, e⟩ := hasK_iff.1 hh
    obtain ⟨j, hj⟩ := List.getElem?_of_mem hy
    exact (h j y (List.getElem?_eq_some_iff.1 hj).1 hj e).elim
set_option maxRecDepth 100000 in
set_option maxHeartbeats 4000000 in
theorem rHas_any (P : Option Addr) (c N : Nat) (Pk : Option Addr) (lk ck : Nat) (L : List Cel) (x : Cel) (w : World) (hr : RowC w P N L) (hN : N = L.length) (hl : ∀ y ∈ L, y.key.length ≤ 1000000) (hk : Nums .i64 w Pk lk x.key) (hlk : lk ≤ 1000000) (hn : N ≤ 1000000) :
    Calls Tryd.prog 33 #[.slice P N c, .slice Pk lk ck] w fun e w' => e = .returned (.bool (hasK L x)) ∧ Below w.heap.size w w' := by
  have HR := Lib.hid hr
  have HN := Lib.hid hN
  have HL := Lib.hid hl
  have HK := Lib.hid hk
  obtain ⟨R, hR⟩ : ∃ R, R = hasK L x := ⟨_, rfl⟩
  rw [← hR]
  have HRR := Lib.hid hR
  clear hr hN hl hk hR
  go_enter Tryd.func33, Tryd.ntmps33
  go_wp2_with fail
  go_loopw [5] (fun s5 wr => ∃ i : Nat, s5 = .int .i64 i ∧ i ≤ N ∧ (∀ (j : Nat) y, j < i → L[j]? = some y → y.key ≠ x.key) ∧ Below w.heap.size w wr) (fun s5 _ => N - (intOf s5).toNat)
  case atStart => exact ⟨0, rfl, Nat.zero_le _, fun j y h => absurd h (Nat.not_lt_zero _), Below.refl _ _⟩
  case round =>
    obtain ⟨i, rfl, hi, hno, hb⟩ := hrel
    rename World => wr
    have HNO := Lib.hid hno
    have Hb := Lib.hid hb
    clear hno hb
    by_cases hlt : i < N
    · have d1 : decide ((i : Int) < (N : Int)) = true := decide_eq_true (by omega)
      obtain ⟨ad, rfl, hcs⟩ := HR.out (by omega)
      obtain ⟨y, hy⟩ : ∃ y, L[i]? = some y := ⟨_, List.getElem?_eq_getElem (by rw [← HN.out]; exact hlt)⟩
      obtain ⟨vk, vs, vn, vm, b0', -, -, -, -, hcy, -⟩ := (hcs.keep (Keeps.of_below Hb.out)) i y hy
      obtain ⟨Py, cy, f2, ny, -⟩ := hcy.key
      have hyk := HL.out y (List.mem_of_getElem? hy)
      obtain ⟨ly, hly⟩ : ∃ ly, ly = y.key.length := ⟨_, rfl⟩
      rw [← hly] at f2 ny hyk
      subst f2
      have Hls := Lib.hid (rLess Py Pk ly cy lk ck y.key x.key wr ny (HK.out.keep (Keeps.of_below Hb.out)) (by omega) (by omega))
      have i0 : (0 : Int) ≤ (i : Int) := by omega
      have i1 : (i : Int) < (N : Int) := by omega
      have HY := Lib.hid hy
      clear hcs hy hcy ny hly hyk
      go_wp2_with fail
      refine Hls.out.mono ?_
      rintro e w' ⟨rfl, q, rfl⟩
      have hbq := below_drewN Hb.out q
      by_cases hc : cmpL y.key x.key = 0
      · have d2 : (cmpL y.key x.key == 0) = true := by simp [hc]
        have hT : R = true := by rw [HRR.out]; exact hasK_iff.2 ⟨y, List.mem_of_getElem? HY.out, cmpL_zero.1 hc⟩
        have HT := Lib.hid hT
        have HBQ := Lib.hid hbq
        clear hc hT hbq
        go_wp2
        go_ret
        exact ⟨by rw [HT.out]; rfl, by first | exact HBQ.out | exact below_drewN Hb.out _⟩
      · have d2 : (cmpL y.key x.key == 0) = false := by simp [hc]
        have hn' : ∀ (j : Nat) z, j < i + 1 → L[j]? = some z → z.key ≠ x.key := fun j z hj hz => by
          by_cases e : j = i
          · subst e
            rw [HY.out] at hz
            injection hz with hz
            subst hz
            exact fun e => hc (cmpL_zero.2 e)
          · exact HNO.out j z (by omega) hz
        have HN' := Lib.hid hn'
        have HBQ := Lib.hid hbq
        clear hc hn' hbq
        go_wp2
        go_roundw
        case rel => exact ⟨i + 1, by go_num, by omega, HN'.out, by first | exact HBQ.out | exact below_drewN Hb.out _⟩
        case measure => simp [intOf]; omega
    · obtain rfl : i = N := by omega
      have d1 : decide ((i : Int) < (i : Int)) = false := by simp
      have hT : R = false := by rw [HRR.out]; exact hasK_no fun j y hj hy => HNO.out j y (by rw [HN.out]; exact hj) hy
      have HT := Lib.hid hT
      clear hT
      go_wp2
      go_ret
      exact ⟨by rw [HT.out]; rfl, Hb.out⟩
set_option maxRecDepth 100000 in
set_option maxHeartbeats 4000000 in
theorem rSorted_any (P : Option Addr) (c N : Nat) (L : List Cel) (w : World) (hr : RowC w P N L) (hN : N = L.length) (hl : ∀ y ∈ L, y.key.length ≤ 1000000) (hn : N ≤ 1000000) :
    Calls Tryd.prog 21 #[.slice P N c] w fun e w' => e = .returned (.bool (riseB L)) ∧ Below w.heap.size w w' := by
  have HR := Lib.hid hr
  have HN := Lib.hid hN
  have HL := Lib.hid hl
  obtain ⟨R, hR⟩ : ∃ R, R = riseB L := ⟨_, rfl⟩
  rw [← hR]
  have HRR := Lib.hid hR
  clear hr hN hl hR
  go_enter Tryd.func21, Tryd.ntmps21
  go_wp2_with fail
  go_loopw [3] (fun s3 wr => ∃ (k : Nat) (pre : List (Cel × Cel)), s3 = .int .i64 ((k + 1 : Nat) : Int) ∧ (k = 0 ∨ k + 1 ≤ N) ∧ prs L = pre ++ prs (L.drop k) ∧ (∀ p ∈ pre, cmpL p.1.key p.2.key < 0) ∧ Below w.heap.size w wr) (fun s3 _ => N + 1 - (intOf s3).toNat)
  case atStart => exact ⟨0, [], rfl, .inl rfl, by rw [List.drop_zero]; rfl, fun p hp => absurd hp List.not_mem_nil, Below.refl _ _⟩
  case round =>
    obtain ⟨k, pre, rfl, hk, hx, hup, hb⟩ := hrel
    rename World => wr
    have HUP := Lib.hid hup
    have Hb := Lib.hid hb
    obtain ⟨i, hi⟩ : ∃ i, i = k + 1 := ⟨_, rfl⟩
    rw [← hi]
    clear hup hb
    by_cases hlt : i < N
    · have d1 : decide ((i : Int) < (N : Int)) = true := decide_eq_true (by omega)
      obtain ⟨ad, rfl, hcs⟩ := HR.out (by omega)
      obtain ⟨x, hx1⟩ : ∃ x, L[k]? = some x := ⟨_, List.getElem?_eq_getElem (by rw [← HN.out]; omega)⟩
      obtain ⟨y, hy1⟩ : ∃ y, L[k + 1]? = some y := ⟨_, List.getElem?_eq_getElem (by rw [← HN.out]; omega)⟩
      rw [prs_at hx1 hy1] at hx
      obtain ⟨xk, xs, xn, xm, a0', -, -, -, -, hcx, -⟩ := (hcs.keep (Keeps.of_below Hb.out)) k x hx1
      obtain ⟨yk, ys, yn, ym, b0', -, -, -, -, hcy, -⟩ := (hcs.keep (Keeps.of_below Hb.out)) (k + 1) y hy1
      rw [← hi] at b0'
      obtain ⟨Px, cx, f1, nx, -⟩ := hcx.key
      obtain ⟨Py, cy, f2, ny, -⟩ := hcy.key
      have hxk := HL.out x (List.mem_of_getElem? hx1)
      have hyk := HL.out y (List.mem_of_getElem? hy1)
      obtain ⟨lx, hlx⟩ : ∃ lx, lx = x.key.length := ⟨_, rfl⟩
      obtain ⟨ly, hly⟩ : ∃ ly, ly = y.key.length := ⟨_, rfl⟩
      rw [← hlx] at f1 nx hxk
      rw [← hly] at f2 ny hyk
      subst f1 f2
      have kd : Keeps wr wr.drew := Keeps.of_below (Below.refl wr.heap.size wr).drew
      have Hls := Lib.hid (rLess Px Py lx cx ly cy x.key y.key wr.drew (nx.keep kd) (ny.keep kd) (by omega) (by omega))
      have HBD := Lib.hid (Hb.out.trans ((Below.refl wr.heap.size wr).drew.mono Hb.out.size))
      have hsub : (i : Int) - 1 = (k : Int) := by rw [hi]; push_cast; omega
      have hwk : IntKind.i64.wrap (k : Int) = (k : Int) := IntWalk.i64_in _ (by omega)
      have i0 : (0 : Int) ≤ (k : Int) := by omega
      have i1 : (k : Int) < (N : Int) := by omega
      have i2 : (0 : Int) ≤ (i : Int) := by omega
      have i3 : (i : Int) < (N : Int) := by omega
      have HX := Lib.hid hx
      have HI := Lib.hid hi
      obtain ⟨z, hz⟩ : ∃ z, z = cmpL x.key y.key := ⟨_, rfl⟩
      rw [← hz] at Hls
      have HZ := Lib.hid hz
      clear hcs hx hcx hcy nx ny hlx hly hxk hyk hx1 hy1 kd hi hz hk
      go_wp2_with fail
      refine wp_region_held_drew (S := fun W' => W'.cell? (ad.add (k * 5)) = some (.slice Px lx cx) ∧ W'.cell? (ad.add (i * 5)) = some (.slice Py ly cy)) (by kernel_rfl) ⟨a0', b0'⟩ (fun hHeld => ?_)
      refine wpAnyH_take (i := 0) (v := ?vsa0) rfl (by kernel_rfl) (by kernel_rfl) (by kernel_rfl) (fun _ _ _ h => h) (Or.inl ⟨by rfl, ?ysa0⟩) hHeld ?rsa0
      case ysa0 => (intro W hW; obtain ⟨g1, g2⟩ := hW; go_simp; first | done | with_reducible rfl)
      try simp only [List.getElem_toArray, List.getElem_cons_zero, Act.put, List.setIfInBounds_toArray, List.set_cons_zero, List.set_cons_succ]
      refine wpAnyH_take (i := 1) (v := ?vsa1) rfl (by kernel_rfl) (by kernel_rfl) (by kernel_rfl) (fun _ _ _ h => h) (Or.inl ⟨by rfl, ?ysa1⟩) hHeld ?rsa1
      case ysa1 => (intro W hW; obtain ⟨g1, g2⟩ := hW; go_simp; first | done | with_reducible rfl)
      try simp only [List.getElem_toArray, List.getElem_cons_succ, List.getElem_cons_zero, Act.put, List.setIfInBounds_toArray, List.set_cons_zero, List.set_cons_succ]
      refine wpAnyH_take (i := 2) (v := ?vsa2) rfl (by kernel_rfl) (by kernel_rfl) (by kernel_rfl) (fun _ _ _ h => h) (Or.inl ⟨by rfl, ?ysa2⟩) hHeld ?rsa2
      case ysa2 => (intro W hW; obtain ⟨g1, g2⟩ := hW; go_simp; first | done | with_reducible rfl)
      try simp only [List.getElem_toArray, List.getElem_cons_succ, List.getElem_cons_zero, Act.put, List.setIfInBounds_toArray, List.set_cons_zero, List.set_cons_succ]
      refine wpAnyH_take (i := 3) (v := ?vsa3) rfl (by kernel_rfl) (by kernel_rfl) (by kernel_rfl) (fun _ _ _ h => h) (Or.inl ⟨by rfl, ?ysa3⟩) hHeld ?rsa3
      case ysa3 => (intro W hW; obtain ⟨g1, g2⟩ := hW; go_simp; first | done | with_reducible rfl)
      try simp only [List.getElem_toArray, List.getElem_cons_succ, List.getElem_cons_zero, Act.put, List.setIfInBounds_toArray, List.set_cons_zero, List.set_cons_succ]
      refine wpAnyH_take (i := 4) (v := ?vsa4) rfl (by kernel_rfl) (by kernel_rfl) (by kernel_rfl) (fun _ _ _ h => h) (Or.inl ⟨by rfl, ?ysa4⟩) hHeld ?rsa4
      case ysa4 => (intro W hW; obtain ⟨g1, g2⟩ := hW; go_simp; first | done | with_reducible rfl)
      try simp only [List.getElem_toArray, List.getElem_cons_succ, List.getElem_cons_zero, Act.put, List.setIfInBounds_toArray, List.set_cons_zero, List.set_cons_succ]
      refine wpAnyH_take (i := 5) (v := ?vsa5) rfl (by kernel_rfl) (by kernel_rfl) (by kernel_rfl) (fun _ _ _ h => h) (Or.inl ⟨by rfl, ?ysa5⟩) hHeld ?rsa5
      case ysa5 => (intro W hW; obtain ⟨g1, g2⟩ := hW; go_simp; first | done | with_reducible rfl)
      try simp only [List.getElem_toArray, List.getElem_cons_succ, List.getElem_cons_zero, Act.put, List.setIfInBounds_toArray, List.set_cons_zero, List.set_cons_succ]
      refine wpAnyH_take (i := 6) (v := ?vsa6) rfl (by kernel_rfl) (by kernel_rfl) (by kernel_rfl) (fun _ _ _ h => h) (Or.inl ⟨by rfl, ?ysa6⟩) hHeld ?rsa6
      case ysa6 => (intro W hW; obtain ⟨g1, g2⟩ := hW; go_simp; first | done | with_reducible rfl)
      try simp only [List.getElem_toArray, List.getElem_cons_succ, List.getElem_cons_zero, Act.put, List.setIfInBounds_toArray, List.set_cons_zero, List.set_cons_succ]
      refine wpAnyH_take (i := 7) (v := ?vsa7) rfl (by kernel_rfl) (by kernel_rfl) (by kernel_rfl) (fun _ _ _ h => h) (Or.inl ⟨by rfl, ?ysa7⟩) hHeld ?rsa7
      case ysa7 => (intro W hW; obtain ⟨g1, g2⟩ := hW; go_simp; first | done | with_reducible rfl)
      try simp only [List.getElem_toArray, List.getElem_cons_succ, List.getElem_cons_zero, Act.put, List.setIfInBounds_toArray, List.set_cons_zero, List.set_cons_succ]
      refine wpAnyH_take (i := 8) (v := ?vsa8) rfl (by kernel_rfl) (by kernel_rfl) (by kernel_rfl) (fun _ _ _ h => h) (Or.inl ⟨by rfl, ?ysa8⟩) hHeld ?rsa8
      case ysa8 => (intro W hW; obtain ⟨g1, g2⟩ := hW; go_simp; first | done | with_reducible rfl)
      try simp only [List.getElem_toArray, List.getElem_cons_succ, List.getElem_cons_zero, Act.put, List.setIfInBounds_toArray, List.set_cons_zero, List.set_cons_succ]
      refine wpAnyH_take (i := 9) (v := ?vsa9) rfl (by kernel_rfl) (by kernel_rfl) (by kernel_rfl) (fun _ _ _ h => h) (Or.inl ⟨by rfl, ?ysa9⟩) hHeld ?rsa9
      case ysa9 => (intro W hW; obtain ⟨g1, g2⟩ := hW; go_simp; first | done | with_reducible rfl)
      try simp only [List.getElem_toArray, List.getElem_cons_succ, List.getElem_cons_zero, Act.put, List.setIfInBounds_toArray, List.set_cons_zero, List.set_cons_succ]
      refine wpAnyH_take (i := 10) (v := ?vsa10) rfl (by kernel_rfl) (by kernel_rfl) (by kernel_rfl) (fun _ _ _ h => h) (Or.inl ⟨by rfl, ?ysa10⟩) hHeld ?rsa10
      case ysa10 => (intro W hW; obtain ⟨g1, g2⟩ := hW; go_simp; first | done | with_reducible rfl)
      try simp only [List.getElem_toArray, List.getElem_cons_succ, List.getElem_cons_zero, Act.put, List.setIfInBounds_toArray, List.set_cons_zero, List.set_cons_succ]
      refine wpAnyH_ready (rs := [11]) (by kernel_rfl) (by simp) ?_
      refine AllReadyH.cons rfl (fun K hK => ?_) (AllReadyH.nil)
      go_simp
      refine Hls.out.mono ?_
      rintro e w' ⟨rfl, q, rfl⟩
      have kq := (Keeps.refl wr.drew).drewN q
      refine hK.out _ _ (⟨kq _ _ hHeld.1, kq _ _ hHeld.2⟩) (fun hHeld => ?_)
      clear hK K
      try simp only [List.getElem_toArray, List.getElem_cons_succ, List.getElem_cons_zero, Act.put, List.setIfInBounds_toArray, List.set_cons_zero, List.set_cons_succ]
      have hbq := below_drewN HBD.out q
      have HBQ := Lib.hid hbq
      clear hbq
      refine wpAnyH_take (i := 12) (v := ?vsa12) rfl (by kernel_rfl) (by kernel_rfl) (by kernel_rfl) (fun _ _ _ h => h) (Or.inl ⟨by rfl, ?ysa12⟩) hHeld ?rsa12
      case ysa12 => (intro W hW; obtain ⟨g1, g2⟩ := hW; go_simp; first | done | with_reducible rfl)
      try simp only [List.getElem_toArray, List.getElem_cons_succ, List.getElem_cons_zero, Act.put, List.setIfInBounds_toArray, List.set_cons_zero, List.set_cons_succ]
      refine wpAnyH_done (by kernel_rfl) ?_ _
      by_cases hc : z < 0
      · have d2 : decide (0 ≤ z) = false := decide_eq_false (by omega)
        have hup' : ∀ p ∈ pre ++ [(x, y)], cmpL p.1.key p.2.key < 0 := fun p hp => by
          rcases List.mem_append.1 hp with hp | hp
          · exact HUP.out p hp
          · rw [List.mem_singleton] at hp
            subst hp
            rw [← HZ.out]
            exact hc
        have HUP' := Lib.hid hup'
        clear hup'
        go_wp2
        go_roundw
        case rel => exact ⟨k + 1, pre ++ [(x, y)], by rw [← HI.out]; go_num, .inr (by rw [← HI.out]; omega), by rw [HX.out, List.append_assoc]; rfl, HUP'.out, by first | exact HBQ.out | exact below_drewN Hb.out _⟩
        case measure => simp [intOf]; omega
      · have d2 : decide (0 ≤ z) = true := decide_eq_true (by omega)
        have hT : R = false := by
          rw [HRR.out]
          unfold riseB
          rw [List.all_eq_false]
          exact ⟨(x, y), by rw [HX.out]; simp, by rw [← HZ.out]; simpa using hc⟩
        have HT := Lib.hid hT
        clear hT
        go_wp2
        go_ret
        exact ⟨by rw [HT.out]; rfl, by first | exact HBQ.out | exact below_drewN Hb.out _⟩
    · have d1 : decide ((i : Int) < (N : Int)) = false := by simp; omega
      have he : prs (L.drop k) = [] := prs_end (by rw [← HN.out]; omega)
      have hT : R = true := by
        rw [HRR.out]
        unfold riseB
        rw [List.all_eq_true]
        rw [hx, he, List.append_nil]
        exact fun p hp => decide_eq_true (HUP.out p hp)
      have HT := Lib.hid hT
      clear hT he hx
      go_wp2
      go_ret
      exact ⟨by rw [HT.out]; rfl, Hb.out⟩
set_option maxRecDepth 100000 in
set_option maxHeartbeats 4000000 in
theorem rSameR_any (P Q : Option Addr) (c d N : Nat) (Js : List (List Cel)) (w : World) (h1 : RunsC w P N Js) (h2 : RunsC w Q N Js) (hN : N = Js.length) (hf : ∀ J ∈ Js, FewC J ∧ J.length ≤ 1000000) (hn : N ≤ 1000000) :
    Calls Tryd.prog 17 #[.slice P N c, .slice Q N d] w fun e w' => e = .returned (.bool true) ∧ Below w.heap.size w w' := by
  have H1 := Lib.hid h1
  have H2 := Lib.hid h2
  have HN := Lib.hid hN
  have HF := Lib.hid hf
  clear h1 h2 hN hf
  have d0 : ((N : Int) != (N : Int)) = false := by simp
  go_enter Tryd.func17, Tryd.ntmps17
  go_wp2_with fail
  go_loopw [5] (fun v wr => ∃ k : Nat, v = .int .i64 k ∧ k ≤ N ∧ Below w.heap.size w wr) (fun v _ => N - (intOf v).toNat)
  case atStart => exact ⟨0, rfl, Nat.zero_le _, Below.refl _ _⟩
  case round =>
    obtain ⟨k, rfl, hk, hb⟩ := hrel
    rename World => wr
    have Hb := Lib.hid hb
    clear hb
    by_cases hlt : k < N
    · have d1 : decide ((k : Int) < (N : Int)) = true := decide_eq_true (by omega)
      obtain ⟨J, hJ⟩ : ∃ J, Js[k]? = some J := ⟨_, List.getElem?_eq_getElem (by have := HN.out; omega)⟩
      obtain ⟨ad, rfl, hp⟩ := H1.out.keep (Keeps.of_below Hb.out) (by omega)
      obtain ⟨bd, rfl, hq⟩ := H2.out.keep (Keeps.of_below Hb.out) (by omega)
      obtain ⟨f1, f2⟩ := HF.out J (List.mem_of_getElem? hJ)
      obtain ⟨Pi, ci, a0, ra, -⟩ := hp k J hJ
      obtain ⟨Qi, di, b0, rq, -⟩ := hq k J hJ
      have kw : Keeps wr wr.drew := (Keeps.refl wr).drewN 1
      obtain ⟨n, hn'⟩ : ∃ n, n = J.length := ⟨_, rfl⟩
      rw [← hn'] at a0 b0 ra rq f2
      have HS := Lib.hid (same_yes Pi Qi n ci di J wr.drew (ra.keep kw) (rq.keep kw) hn' f1 f2)
      have HBD := Lib.hid (Hb.out.trans ((Below.refl wr.heap.size wr).drew.mono Hb.out.size))
      have i0 : (0 : Int) ≤ (k : Int) := by omega
      have i1 : (k : Int) < (N : Int) := by omega
      clear hp hq hJ f1 f2 ra rq kw hn'
      go_wp2_with fail
      refine wp_region_held_drew (S := fun W' => W'.cell? (ad.add k) = some (.slice Pi n ci) ∧ W'.cell? (bd.add k) = some (.slice Qi n di)) (by kernel_rfl) ⟨a0, b0⟩ (fun hHeld => ?_)
      refine wpAnyH_take (i := 0) (v := ?vsb0) rfl (by kernel_rfl) (by kernel_rfl) (by kernel_rfl) (fun _ _ _ h => h) (Or.inl ⟨by rfl, ?ysb0⟩) hHeld ?rsb0
      case ysb0 => (intro W hW; obtain ⟨g1, g2⟩ := hW; go_simp; first | done | with_reducible rfl)
      try simp only [List.getElem_toArray, List.getElem_cons_zero, Act.put, List.setIfInBounds_toArray, List.set_cons_zero, List.set_cons_succ]
      refine wpAnyH_take (i := 1) (v := ?vsb1) rfl (by kernel_rfl) (by kernel_rfl) (by kernel_rfl) (fun _ _ _ h => h) (Or.inl ⟨by rfl, ?ysb1⟩) hHeld ?rsb1
      case ysb1 => (intro W hW; obtain ⟨g1, g2⟩ := hW; go_simp; first | done | with_reducible rfl)
      try simp only [List.getElem_toArray, List.getElem_cons_succ, List.getElem_cons_zero, Act.put, List.setIfInBounds_toArray, List.set_cons_zero, List.set_cons_succ]
      refine wpAnyH_take (i := 2) (v := ?vsb2) rfl (by kernel_rfl) (by kernel_rfl) (by kernel_rfl) (fun _ _ _ h => h) (Or.inl ⟨by rfl, ?ysb2⟩) hHeld ?rsb2
      case ysb2 => (intro W hW; obtain ⟨g1, g2⟩ := hW; go_simp; first | done | with_reducible rfl)
      try simp only [List.getElem_toArray, List.getElem_cons_succ, List.getElem_cons_zero, Act.put, List.setIfInBounds_toArray, List.set_cons_zero, List.set_cons_succ]
      refine wpAnyH_take (i := 3) (v := ?vsb3) rfl (by kernel_rfl) (by kernel_rfl) (by kernel_rfl) (fun _ _ _ h => h) (Or.inl ⟨by rfl, ?ysb3⟩) hHeld ?rsb3
      case ysb3 => (intro W hW; obtain ⟨g1, g2⟩ := hW; go_simp; first | done | with_reducible rfl)
      try simp only [List.getElem_toArray, List.getElem_cons_succ, List.getElem_cons_zero, Act.put, List.setIfInBounds_toArray, List.set_cons_zero, List.set_cons_succ]
      refine wpAnyH_take (i := 4) (v := ?vsb4) rfl (by kernel_rfl) (by kernel_rfl) (by kernel_rfl) (fun _ _ _ h => h) (Or.inl ⟨by rfl, ?ysb4⟩) hHeld ?rsb4
      case ysb4 => (intro W hW; obtain ⟨g1, g2⟩ := hW; go_simp; first | done | with_reducible rfl)
      try simp only [List.getElem_toArray, List.getElem_cons_succ, List.getElem_cons_zero, Act.put, List.setIfInBounds_toArray, List.set_cons_zero, List.set_cons_succ]
      refine wpAnyH_take (i := 5) (v := ?vsb5) rfl (by kernel_rfl) (by kernel_rfl) (by kernel_rfl) (fun _ _ _ h => h) (Or.inl ⟨by rfl, ?ysb5⟩) hHeld ?rsb5
      case ysb5 => (intro W hW; obtain ⟨g1, g2⟩ := hW; go_simp; first | done | with_reducible rfl)
      try simp only [List.getElem_toArray, List.getElem_cons_succ, List.getElem_cons_zero, Act.put, List.setIfInBounds_toArray, List.set_cons_zero, List.set_cons_succ]
      refine wpAnyH_take (i := 6) (v := ?vsb6) rfl (by kernel_rfl) (by kernel_rfl) (by kernel_rfl) (fun _ _ _ h => h) (Or.inl ⟨by rfl, ?ysb6⟩) hHeld ?rsb6
      case ysb6 => (intro W hW; obtain ⟨g1, g2⟩ := hW; go_simp; first | done | with_reducible rfl)
      try simp only [List.getElem_toArray, List.getElem_cons_succ, List.getElem_cons_zero, Act.put, List.setIfInBounds_toArray, List.set_cons_zero, List.set_cons_succ]
      refine wpAnyH_take (i := 7) (v := ?vsb7) rfl (by kernel_rfl) (by kernel_rfl) (by kernel_rfl) (fun _ _ _ h => h) (Or.inl ⟨by rfl, ?ysb7⟩) hHeld ?rsb7
      case ysb7 => (intro W hW; obtain ⟨g1, g2⟩ := hW; go_simp; first | done | with_reducible rfl)
      try simp only [List.getElem_toArray, List.getElem_cons_succ, List.getElem_cons_zero, Act.put, List.setIfInBounds_toArray, List.set_cons_zero, List.set_cons_succ]
      refine wpAnyH_ready (rs := [8]) (by kernel_rfl) (by simp) ?_
      refine AllReadyH.cons rfl (fun K hK => ?_) (AllReadyH.nil)
      go_simp
      refine HS.out.mono ?_
      rintro e w' ⟨rfl, hb'⟩
      have kq := Keeps.of_below hb'
      have HB' := Lib.hid (HBD.out.trans (hb'.mono HBD.out.size))
      clear hb'
      refine hK.out _ _ (⟨kq _ _ hHeld.1, kq _ _ hHeld.2⟩) (fun hHeld => ?_)
      clear hK K
      try simp only [List.getElem_toArray, List.getElem_cons_succ, List.getElem_cons_zero, Act.put, List.setIfInBounds_toArray, List.set_cons_zero, List.set_cons_succ]
      refine wpAnyH_take (i := 9) (v := ?vsb9) rfl (by kernel_rfl) (by kernel_rfl) (by kernel_rfl) (fun _ _ _ h => h) (Or.inl ⟨by rfl, ?ysb9⟩) hHeld ?rsb9
      case ysb9 => (intro W hW; obtain ⟨g1, g2⟩ := hW; go_simp; first | done | with_reducible rfl)
      try simp only [List.getElem_toArray, List.getElem_cons_succ, List.getElem_cons_zero, Act.put, List.setIfInBounds_toArray, List.set_cons_zero, List.set_cons_succ]
      refine wpAnyH_done (by kernel_rfl) ?_ _
      go_wp2
      go_roundw
      case rel => exact ⟨k + 1, by go_num, by omega, HB'.out⟩
      case measure => simp [intOf]; omega
    · obtain rfl : k = N := by omega
      have d1 : decide ((k : Int) < (k : Int)) = false := by simp
      go_wp2
      go_ret
      exact ⟨rfl, Hb.out⟩
end Go.Proofs.YtaaciedelfaekaaDoor
