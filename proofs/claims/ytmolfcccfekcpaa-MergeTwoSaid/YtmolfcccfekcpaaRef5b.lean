/- The reference's has, Sorted, Same, of chapter 5. -/
import Derived.IntWalk
import Derived.Test.YtmolfcccfekcpaaMath5
import Derived.Test.YtmolfcccfekcpaaCelg
import Derived.Test.YtmolfcccfekcpaaRfacts
import Derived.Test.YtmolfcccfekcpaaGood5
namespace Go.Proofs.Ytmolfcccfekcpaa
open Go.RowKit Go.Shelf
attribute [local go_sem] Oper.semAt_some
theorem hasK_no {L : List Cel} {x : Cel} (h : ∀ (j : Nat) y, j < L.length → L[j]? = some y → y.key ≠ x.key) : hasK L x = false := by
  cases hh : hasK L x with
  | false => rfl
  | true =>
    obtain ⟨y, hy, e⟩ := hasK_iff.1 hh
    obtain ⟨j, hj⟩ := List.getElem?_of_mem hy
    exact (h j y (List.getElem?_eq_some_iff.1 hj).1 hj e).elim
set_option maxRecDepth 100000 in
set_option maxHeartbeats 4000000 in
theorem rHas_any (P : Option Addr) (c N : Nat) (Pk : Option Addr) (lk ck : Nat) (L : List Cel) (x : Cel) (w : World) (hr : RowC w P N L) (hN : N = L.length) (hl : ∀ y ∈ L, y.key.length ≤ 1000000) (hk : Nums .i64 w Pk lk x.key) (hlk : lk ≤ 1000000) (hn : N ≤ 1000000) :
    Calls Try.prog 29 #[.slice P N c, .slice Pk lk ck] w fun e w' => e = .returned (.bool (hasK L x)) ∧ Below w.heap.size w w' := by
  have HR := Lib.hid hr
  have HN := Lib.hid hN
  have HL := Lib.hid hl
  have HK := Lib.hid hk
  obtain ⟨R, hR⟩ : ∃ R, R = hasK L x := ⟨_, rfl⟩
  rw [← hR]
  have HRR := Lib.hid hR
  clear hr hN hl hk hR
  go_enter Try.func29, Try.ntmps29
  go_wp2_with fail
  go_loopw [5] (fun s5 wr => ∃ i : Nat, s5 = .int .i64 i ∧ i ≤ N ∧ (∀ (j : Nat) y, j < i → L[j]? = some y → y.key ≠ x.key) ∧ Below w.heap.size w wr) (fun s5 _ => N - (intOf s5).toNat)
  case atStart => exact ⟨0, rfl, Nat.zero_le _, fun j y h => absurd h (Nat.not_lt_zero _), Below.refl _ _⟩
  case round =>
    obtain ⟨i, rfl, hi, hno, hb⟩ := hrel
    rename World => wr
    have HNO := Lib.hid hno
    have Hb := Lib.hid hb
    clear hno hb
    by_cases hlt : i < N
    · have d1 : decide ((i : Int) < (N : Int)) = true := decide_eq_true (by omega)
      obtain ⟨ad, rfl, hcs⟩ := HR.out (by omega)
      obtain ⟨y, hy⟩ : ∃ y, L[i]? = some y := ⟨_, List.getElem?_eq_getElem (by rw [← HN.out]; exact hlt)⟩
      obtain ⟨vk, vs, vn, vm, b0', -, -, -, -, hcy, -⟩ := (hcs.keep (Keeps.of_below Hb.out)) i y hy
      obtain ⟨Py, cy, f2, ny, -⟩ := hcy.key
      have hyk := HL.out y (List.mem_of_getElem? hy)
      obtain ⟨ly, hly⟩ : ∃ ly, ly = y.key.length := ⟨_, rfl⟩
      rw [← hly] at f2 ny hyk
      subst f2
      have Hls := Lib.hid (rLess Py Pk ly cy lk ck y.key x.key wr ny (HK.out.keep (Keeps.of_below Hb.out)) (by omega) (by omega))
      have i0 : (0 : Int) ≤ (i : Int) := by omega
      have i1 : (i : Int) < (N : Int) := by omega
      have HY := Lib.hid hy
      clear hcs hy hcy ny hly hyk
      go_wp2_with fail
      refine Hls.out.mono ?_
      rintro e w' ⟨rfl, q, rfl⟩
      have hbq := below_drewN Hb.out q
      by_cases hc : cmpL y.key x.key = 0
      · have d2 : (cmpL y.key x.key == 0) = true := by simp [hc]
        have hT : R = true := by rw [HRR.out]; exact hasK_iff.2 ⟨y, List.mem_of_getElem? HY.out, cmpL_zero.1 hc⟩
        have HT := Lib.hid hT
        have HBQ := Lib.hid hbq
        clear hc hT hbq
        go_wp2
        go_ret
        exact ⟨by rw [HT.out]; rfl, by first | exact HBQ.out | exact below_drewN Hb.out _⟩
      · have d2 : (cmpL y.key x.key == 0) = false := by simp [hc]
        have hn' : ∀ (j : Nat) z, j < i + 1 → L[j]? = some z → z.key ≠ x.key := fun j z hj hz => by
          by_cases e : j = i
          · subst e
            rw [HY.out] at hz
            injection hz with hz
            subst hz
            exact fun e => hc (cmpL_zero.2 e)
          · exact HNO.out j z (by omega) hz
        have HN' := Lib.hid hn'
        have HBQ := Lib.hid hbq
        clear hc hn' hbq
        go_wp2
        go_roundw
        case rel => exact ⟨i + 1, by go_num, by omega, HN'.out, by first | exact HBQ.out | exact below_drewN Hb.out _⟩
        case measure => simp [intOf]; omega
    · obtain rfl : i = N := by omega
      have d1 : decide ((i : Int) < (i : Int)) = false := by simp
      have hT : R = false := by rw [HRR.out]; exact hasK_no fun j y hj hy => HNO.out j y (by rw [HN.out]; exact hj) hy
      have HT := Lib.hid hT
      clear hT
      go_wp2
      go_ret
      exact ⟨by rw [HT.out]; rfl, Hb.out⟩
set_option maxRecDepth 100000 in
set_option maxHeartbeats 4000000 in
theorem rSorted_any (P : Option Addr) (c N : Nat) (L : List Cel) (w : World) (hr : RowC w P N L) (hN : N = L.length) (hl : ∀ y ∈ L, y.key.length ≤ 1000000) (hn : N ≤ 1000000) :
    Calls Try.prog 25 #[.slice P N c] w fun e w' => e = .returned (.bool (riseB L)) ∧ Below w.heap.size w w' := by
  have HR := Lib.hid hr
  have HN := Lib.hid hN
  have HL := Lib.hid hl
  obtain ⟨R, hR⟩ : ∃ R, R = riseB L := ⟨_, rfl⟩
  rw [← hR]
  have HRR := Lib.hid hR
  clear hr hN hl hR
  go_enter Try.func25, Try.ntmps25
  go_wp2_with fail
  go_loopw [3] (fun s3 wr => ∃ (k : Nat) (pre : List (Cel × Cel)), s3 = .int .i64 ((k + 1 : Nat) : Int) ∧ (k = 0 ∨ k + 1 ≤ N) ∧ prs L = pre ++ prs (L.drop k) ∧ (∀ p ∈ pre, cmpL p.1.key p.2.key < 0) ∧ Below w.heap.size w wr) (fun s3 _ => N + 1 - (intOf s3).toNat)
  case atStart => exact ⟨0, [], rfl, .inl rfl, by rw [List.drop_zero]; rfl, fun p hp => absurd hp List.not_mem_nil, Below.refl _ _⟩
  case round =>
    obtain ⟨k, pre, rfl, hk, hx, hup, hb⟩ := hrel
    rename World => wr
    have HUP := Lib.hid hup
    have Hb := Lib.hid hb
    obtain ⟨i, hi⟩ : ∃ i, i = k + 1 := ⟨_, rfl⟩
    rw [← hi]
    clear hup hb
    by_cases hlt : i < N
    · have d1 : decide ((i : Int) < (N : Int)) = true := decide_eq_true (by omega)
      obtain ⟨ad, rfl, hcs⟩ := HR.out (by omega)
      obtain ⟨x, hx1⟩ : ∃ x, L[k]? = some x := ⟨_, List.getElem?_eq_getElem (by rw [← HN.out]; omega)⟩
      obtain ⟨y, hy1⟩ : ∃ y, L[k + 1]? = some y := ⟨_, List.getElem?_eq_getElem (by rw [← HN.out]; omega)⟩
      rw [prs_at hx1 hy1] at hx
      obtain ⟨xk, xs, xn, xm, a0', -, -, -, -, hcx, -⟩ := (hcs.keep (Keeps.of_below Hb.out)) k x hx1
      obtain ⟨yk, ys, yn, ym, b0', -, -, -, -, hcy, -⟩ := (hcs.keep (Keeps.of_below Hb.out)) (k + 1) y hy1
      rw [← hi] at b0'
      obtain ⟨Px, cx, f1, nx, -⟩ := hcx.key
      obtain ⟨Py, cy, f2, ny, -⟩ := hcy.key
      have hxk := HL.out x (List.mem_of_getElem? hx1)
      have hyk := HL.out y (List.mem_of_getElem? hy1)
      obtain ⟨lx, hlx⟩ : ∃ lx, lx = x.key.length := ⟨_, rfl⟩
      obtain ⟨ly, hly⟩ : ∃ ly, ly = y.key.length := ⟨_, rfl⟩
      rw [← hlx] at f1 nx hxk
      rw [← hly] at f2 ny hyk
      subst f1 f2
      have kd : Keeps wr wr.drew := Keeps.of_below (Below.refl wr.heap.size wr).drew
      have Hls := Lib.hid (rLess Px Py lx cx ly cy x.key y.key wr.drew (nx.keep kd) (ny.keep kd) (by omega) (by omega))
      have HBD := Lib.hid (Hb.out.trans ((Below.refl wr.heap.size wr).drew.mono Hb.out.size))
      have hsub : (i : Int) - 1 = (k : Int) := by rw [hi]; push_cast; omega
      have hwk : IntKind.i64.wrap (k : Int) = (k : Int) := IntWalk.i64_in _ (by omega)
      have i0 : (0 : Int) ≤ (k : Int) := by omega
      have i1 : (k : Int) < (N : Int) := by omega
      have i2 : (0 : Int) ≤ (i : Int) := by omega
      have i3 : (i : Int) < (N : Int) := by omega
      have HX := Lib.hid hx
      have HI := Lib.hid hi
      obtain ⟨z, hz⟩ : ∃ z, z = cmpL x.key y.key := ⟨_, rfl⟩
      rw [← hz] at Hls
      have HZ := Lib.hid hz
      clear hcs hx hcx hcy nx ny hlx hly hxk hyk hx1 hy1 kd hi hz hk
      go_wp2_with fail
      refine wp_region_held_drew (S := fun W' => W'.cell? (ad.add (k * 5)) = some (.slice Px lx cx) ∧ W'.cell? (ad.add (i * 5)) = some (.slice Py ly cy)) (by kernel_rfl) ⟨a0', b0'⟩ (fun hHeld => ?_)
      refine wpAnyH_take (i := 0) (v := ?vsa0) rfl (by kernel_rfl) (by kernel_rfl) (by kernel_rfl) (fun _ _ _ h => h) (Or.inl ⟨by rfl, ?ysa0⟩) hHeld ?rsa0
      case ysa0 => (intro W hW; obtain ⟨g1, g2⟩ := hW; go_simp; first | done | with_reducible rfl)
      try simp only [List.getElem_toArray, List.getElem_cons_zero, Act.put, List.setIfInBounds_toArray, List.set_cons_zero, List.set_cons_succ]
      refine wpAnyH_take (i := 1) (v := ?vsa1) rfl (by kernel_rfl) (by kernel_rfl) (by kernel_rfl) (fun _ _ _ h => h) (Or.inl ⟨by rfl, ?ysa1⟩) hHeld ?rsa1
      case ysa1 => (intro W hW; obtain ⟨g1, g2⟩ := hW; go_simp; first | done | with_reducible rfl)
      try simp only [List.getElem_toArray, List.getElem_cons_succ, List.getElem_cons_zero, Act.put, List.setIfInBounds_toArray, List.set_cons_zero, List.set_cons_succ]
      refine wpAnyH_take (i := 2) (v := ?vsa2) rfl (by kernel_rfl) (by kernel_rfl) (by kernel_rfl) (fun _ _ _ h => h) (Or.inl ⟨by rfl, ?ysa2⟩) hHeld ?rsa2
      case ysa2 => (intro W hW; obtain ⟨g1, g2⟩ := hW; go_simp; first | done | with_reducible rfl)
      try simp only [List.getElem_toArray, List.getElem_cons_succ, List.getElem_cons_zero, Act.put, List.setIfInBounds_toArray, List.set_cons_zero, List.set_cons_succ]
      refine wpAnyH_take (i := 3) (v := ?vsa3) rfl (by kernel_rfl) (by kernel_rfl) (by kernel_rfl) (fun _ _ _ h => h) (Or.inl ⟨by rfl, ?ysa3⟩) hHeld ?rsa3
      case ysa3 => (intro W hW; obtain ⟨g1, g2⟩ := hW; go_simp; first | done | with_reducible rfl)
      try simp only [List.getElem_toArray, List.getElem_cons_succ, List.getElem_cons_zero, Act.put, List.setIfInBounds_toArray, List.set_cons_zero, List.set_cons_succ]
      refine wpAnyH_take (i := 4) (v := ?vsa4) rfl (by kernel_rfl) (by kernel_rfl) (by kernel_rfl) (fun _ _ _ h => h) (Or.inl ⟨by rfl, ?ysa4⟩) hHeld ?rsa4
      case ysa4 => (intro W hW; obtain ⟨g1, g2⟩ := hW; go_simp; first | done | with_reducible rfl)
      try simp only [List.getElem_toArray, List.getElem_cons_succ, List.getElem_cons_zero, Act.put, List.setIfInBounds_toArray, List.set_cons_zero, List.set_cons_succ]
      refine wpAnyH_take (i := 5) (v := ?vsa5) rfl (by kernel_rfl) (by kernel_rfl) (by kernel_rfl) (fun _ _ _ h => h) (Or.inl ⟨by rfl, ?ysa5⟩) hHeld ?rsa5
      case ysa5 => (intro W hW; obtain ⟨g1, g2⟩ := hW; go_simp; first | done | with_reducible rfl)
      try simp only [List.getElem_toArray, List.getElem_cons_succ, List.getElem_cons_zero, Act.put, List.setIfInBounds_toArray, List.set_cons_zero, List.set_cons_succ]
      refine wpAnyH_take (i := 6) (v := ?vsa6) rfl (by kernel_rfl) (by kernel_rfl) (by kernel_rfl) (fun _ _ _ h => h) (Or.inl ⟨by rfl, ?ysa6⟩) hHeld ?rsa6
      case ysa6 => (intro W hW; obtain ⟨g1, g2⟩ := hW; go_simp; first | done | with_reducible rfl)
      try simp only [List.getElem_toArray, List.getElem_cons_succ, List.getElem_cons_zero, Act.put, List.setIfInBounds_toArray, List.set_cons_zero, List.set_cons_succ]
      refine wpAnyH_take (i := 7) (v := ?vsa7) rfl (by kernel_rfl) (by kernel_rfl) (by kernel_rfl) (fun _ _ _ h => h) (Or.inl ⟨by rfl, ?ysa7⟩) hHeld ?rsa7
      case ysa7 => (intro W hW; obtain ⟨g1, g2⟩ := hW; go_simp; first | done | with_reducible rfl)
      try simp only [List.getElem_toArray, List.getElem_cons_succ, List.getElem_cons_zero, Act.put, List.setIfInBounds_toArray, List.set_cons_zero, List.set_cons_succ]
      refine wpAnyH_take (i := 8) (v := ?vsa8) rfl (by kernel_rfl) (by kernel_rfl) (by kernel_rfl) (fun _ _ _ h => h) (Or.inl ⟨by rfl, ?ysa8⟩) hHeld ?rsa8
      case ysa8 => (intro W hW; obtain ⟨g1, g2⟩ := hW; go_simp; first | done | with_reducible rfl)
      try simp only [List.getElem_toArray, List.getElem_cons_succ, List.getElem_cons_zero, Act.put, List.setIfInBounds_toArray, List.set_cons_zero, List.set_cons_succ]
      refine wpAnyH_take (i := 9) (v := ?vsa9) rfl (by kernel_rfl) (by kernel_rfl) (by kernel_rfl) (fun _ _ _ h => h) (Or.inl ⟨by rfl, ?ysa9⟩) hHeld ?rsa9
      case ysa9 => (intro W hW; obtain ⟨g1, g2⟩ := hW; go_simp; first | done | with_reducible rfl)
      try simp only [List.getElem_toArray, List.getElem_cons_succ, List.getElem_cons_zero, Act.put, List.setIfInBounds_toArray, List.set_cons_zero, List.set_cons_succ]
      refine wpAnyH_take (i := 10) (v := ?vsa10) rfl (by kernel_rfl) (by kernel_rfl) (by kernel_rfl) (fun _ _ _ h => h) (Or.inl ⟨by rfl, ?ysa10⟩) hHeld ?rsa10
      case ysa10 => (intro W hW; obtain ⟨g1, g2⟩ := hW; go_simp; first | done | with_reducible rfl)
      try simp only [List.getElem_toArray, List.getElem_cons_succ, List.getElem_cons_zero, Act.put, List.setIfInBounds_toArray, List.set_cons_zero, List.set_cons_succ]
      refine wpAnyH_ready (rs := [11]) (by kernel_rfl) (by simp) ?_
      refine AllReadyH.cons rfl (fun K hK => ?_) (AllReadyH.nil)
      go_simp
      refine Hls.out.mono ?_
      rintro e w' ⟨rfl, q, rfl⟩
      have kq := (Keeps.refl wr.drew).drewN q
      refine hK.out _ _ (⟨kq _ _ hHeld.1, kq _ _ hHeld.2⟩) (fun hHeld => ?_)
      clear hK K
      try simp only [List.getElem_toArray, List.getElem_cons_succ, List.getElem_cons_zero, Act.put, List.setIfInBounds_toArray, List.set_cons_zero, List.set_cons_succ]
      have hbq := below_drewN HBD.out q
      have HBQ := Lib.hid hbq
      clear hbq
      refine wpAnyH_take (i := 12) (v := ?vsa12) rfl (by kernel_rfl) (by kernel_rfl) (by kernel_rfl) (fun _ _ _ h => h) (Or.inl ⟨by rfl, ?ysa12⟩) hHeld ?rsa12
      case ysa12 => (intro W hW; obtain ⟨g1, g2⟩ := hW; go_simp; first | done | with_reducible rfl)
      try simp only [List.getElem_toArray, List.getElem_cons_succ, List.getElem_cons_zero, Act.put, List.setIfInBounds_toArray, List.set_cons_zero, List.set_cons_succ]
      refine wpAnyH_done (by kernel_rfl) ?_ _
      by_cases hc : z < 0
      · have d2 : decide (0 ≤ z) = false := decide_eq_false (by omega)
        have hup' : ∀ p ∈ pre ++ [(x, y)], cmpL p.1.key p.2.key < 0 := fun p hp => by
          rcases List.mem_append.1 hp with hp | hp
          · exact HUP.out p hp
          · rw [List.mem_singleton] at hp
            subst hp
            rw [← HZ.out]
            exact hc
        have HUP' := Lib.hid hup'
        clear hup'
        go_wp2
        go_roundw
        case rel => exact ⟨k + 1, pre ++ [(x, y)], by rw [← HI.out]; go_num, .inr (by rw [← HI.out]; omega), by rw [HX.out, List.append_assoc]; rfl, HUP'.out, by first | exact HBQ.out | exact below_drewN Hb.out _⟩
        case measure => simp [intOf]; omega
      · have d2 : decide (0 ≤ z) = true := decide_eq_true (by omega)
        have hT : R = false := by
          rw [HRR.out]
          unfold riseB
          rw [List.all_eq_false]
          exact ⟨(x, y), by rw [HX.out]; simp, by rw [← HZ.out]; simpa using hc⟩
        have HT := Lib.hid hT
        clear hT
        go_wp2
        go_ret
        exact ⟨by rw [HT.out]; rfl, by first | exact HBQ.out | exact below_drewN Hb.out _⟩
    · have d1 : decide ((i : Int) < (N : Int)) = false := by simp; omega
      have he : prs (L.drop k) = [] := prs_end (by rw [← HN.out]; omega)
      have hT : R = true := by
        rw [HRR.out]
        unfold riseB
        rw [List.all_eq_true]
        rw [hx, he, List.append_nil]
        exact fun p hp => decide_eq_true (HUP.out p hp)
      have HT := Lib.hid hT
      clear hT he hx
      go_wp2
      go_ret
      exact ⟨by rw [HT.out]; rfl, Hb.out⟩
set_option maxRecDepth 100000 in
set_option maxHeartbeats 4000000 in
theorem rSameR_any (P Q : Option Addr) (c d N : Nat) (Js : List (List Cel)) (w : World) (h1 : RunsC w P N Js) (h2 : RunsC w Q N Js) (hN : N = Js.length) (hf : ∀ J ∈ Js, FewC J ∧ J.length ≤ 1000000) (hn : N ≤ 1000000) :
    Calls Try.prog 27 #[.slice P N c, .slice Q N d] w fun e w' => e = .returned (.bool true) ∧ Below w.heap.size w w' := by
  have H1 := Lib.hid h1
  have H2 := Lib.hid h2
  have HN := Lib.hid hN
  have HF := Lib.hid hf
  clear h1 h2 hN hf
  have d0 : ((N : Int) != (N : Int)) = false := by simp
  go_enter Try.func27, Try.ntmps27
  go_wp2_with fail
  go_loopw [5] (fun v wr => ∃ k : Nat, v = .int .i64 k ∧ k ≤ N ∧ Below w.heap.size w wr) (fun v _ => N - (intOf v).toNat)
  case atStart => exact ⟨0, rfl, Nat.zero_le _, Below.refl _ _⟩
  case round =>
    obtain ⟨k, rfl, hk, hb⟩ := hrel
    rename World => wr
    have Hb := Lib.hid hb
    clear hb
    by_cases hlt : k < N
    · have d1 : decide ((k : Int) < (N : Int)) = true := decide_eq_true (by omega)
      obtain ⟨J, hJ⟩ : ∃ J, Js[k]? = some J := ⟨_, List.getElem?_eq_getElem (by have := HN.out; omega)⟩
      obtain ⟨ad, rfl, hp⟩ := H1.out.keep (Keeps.of_below Hb.out) (by omega)
      obtain ⟨bd, rfl, hq⟩ := H2.out.keep (Keeps.of_below Hb.out) (by omega)
      obtain ⟨f1, f2⟩ := HF.out J (List.mem_of_getElem? hJ)
      obtain ⟨Pi, ci, a0, ra, -⟩ := hp k J hJ
      obtain ⟨Qi, di, b0, rq, -⟩ := hq k J hJ
      have kw : Keeps wr wr.drew := (Keeps.refl wr).drewN 1
      obtain ⟨n, hn'⟩ : ∃ n, n = J.length := ⟨_, rfl⟩
      rw [← hn'] at a0 b0 ra rq f2
      have HS := Lib.hid (same_yes Pi Qi n ci di J wr.drew (ra.keep kw) (rq.keep kw) hn' f1 f2)
      have HBD := Lib.hid (Hb.out.trans ((Below.refl wr.heap.size wr).drew.mono Hb.out.size))
      have i0 : (0 : Int) ≤ (k : Int) := by omega
      have i1 : (k : Int) < (N : Int) := by omega
      clear hp hq hJ f1 f2 ra rq kw hn'
      go_wp2_with fail
      refine wp_region_held_drew (S := fun W' => W'.cell? (ad.add k) = some (.slice Pi n ci) ∧ W'.cell? (bd.add k) = some (.slice Qi n di)) (by kernel_rfl) ⟨a0, b0⟩ (fun hHeld => ?_)
      refine wpAnyH_take (i := 0) (v := ?vsb0) rfl (by kernel_rfl) (by kernel_rfl) (by kernel_rfl) (fun _ _ _ h => h) (Or.inl ⟨by rfl, ?ysb0⟩) hHeld ?rsb0
      case ysb0 => (intro W hW; obtain ⟨g1, g2⟩ := hW; go_simp; first | done | with_reducible rfl)
      try simp only [List.getElem_toArray, List.getElem_cons_zero, Act.put, List.setIfInBounds_toArray, List.set_cons_zero, List.set_cons_succ]
      refine wpAnyH_take (i := 1) (v := ?vsb1) rfl (by kernel_rfl) (by kernel_rfl) (by kernel_rfl) (fun _ _ _ h => h) (Or.inl ⟨by rfl, ?ysb1⟩) hHeld ?rsb1
      case ysb1 => (intro W hW; obtain ⟨g1, g2⟩ := hW; go_simp; first | done | with_reducible rfl)
      try simp only [List.getElem_toArray, List.getElem_cons_succ, List.getElem_cons_zero, Act.put, List.setIfInBounds_toArray, List.set_cons_zero, List.set_cons_succ]
      refine wpAnyH_take (i := 2) (v := ?vsb2) rfl (by kernel_rfl) (by kernel_rfl) (by kernel_rfl) (fun _ _ _ h => h) (Or.inl ⟨by rfl, ?ysb2⟩) hHeld ?rsb2
      case ysb2 => (intro W hW; obtain ⟨g1, g2⟩ := hW; go_simp; first | done | with_reducible rfl)
      try simp only [List.getElem_toArray, List.getElem_cons_succ, List.getElem_cons_zero, Act.put, List.setIfInBounds_toArray, List.set_cons_zero, List.set_cons_succ]
      refine wpAnyH_take (i := 3) (v := ?vsb3) rfl (by kernel_rfl) (by kernel_rfl) (by kernel_rfl) (fun _ _ _ h => h) (Or.inl ⟨by rfl, ?ysb3⟩) hHeld ?rsb3
      case ysb3 => (intro W hW; obtain ⟨g1, g2⟩ := hW; go_simp; first | done | with_reducible rfl)
      try simp only [List.getElem_toArray, List.getElem_cons_succ, List.getElem_cons_zero, Act.put, List.setIfInBounds_toArray, List.set_cons_zero, List.set_cons_succ]
      refine wpAnyH_take (i := 4) (v := ?vsb4) rfl (by kernel_rfl) (by kernel_rfl) (by kernel_rfl) (fun _ _ _ h => h) (Or.inl ⟨by rfl, ?ysb4⟩) hHeld ?rsb4
      case ysb4 => (intro W hW; obtain ⟨g1, g2⟩ := hW; go_simp; first | done | with_reducible rfl)
      try simp only [List.getElem_toArray, List.getElem_cons_succ, List.getElem_cons_zero, Act.put, List.setIfInBounds_toArray, List.set_cons_zero, List.set_cons_succ]
      refine wpAnyH_take (i := 5) (v := ?vsb5) rfl (by kernel_rfl) (by kernel_rfl) (by kernel_rfl) (fun _ _ _ h => h) (Or.inl ⟨by rfl, ?ysb5⟩) hHeld ?rsb5
      case ysb5 => (intro W hW; obtain ⟨g1, g2⟩ := hW; go_simp; first | done | with_reducible rfl)
      try simp only [List.getElem_toArray, List.getElem_cons_succ, List.getElem_cons_zero, Act.put, List.setIfInBounds_toArray, List.set_cons_zero, List.set_cons_succ]
      refine wpAnyH_take (i := 6) (v := ?vsb6) rfl (by kernel_rfl) (by kernel_rfl) (by kernel_rfl) (fun _ _ _ h => h) (Or.inl ⟨by rfl, ?ysb6⟩) hHeld ?rsb6
      case ysb6 => (intro W hW; obtain ⟨g1, g2⟩ := hW; go_simp; first | done | with_reducible rfl)
      try simp only [List.getElem_toArray, List.getElem_cons_succ, List.getElem_cons_zero, Act.put, List.setIfInBounds_toArray, List.set_cons_zero, List.set_cons_succ]
      refine wpAnyH_take (i := 7) (v := ?vsb7) rfl (by kernel_rfl) (by kernel_rfl) (by kernel_rfl) (fun _ _ _ h => h) (Or.inl ⟨by rfl, ?ysb7⟩) hHeld ?rsb7
      case ysb7 => (intro W hW; obtain ⟨g1, g2⟩ := hW; go_simp; first | done | with_reducible rfl)
      try simp only [List.getElem_toArray, List.getElem_cons_succ, List.getElem_cons_zero, Act.put, List.setIfInBounds_toArray, List.set_cons_zero, List.set_cons_succ]
      refine wpAnyH_ready (rs := [8]) (by kernel_rfl) (by simp) ?_
      refine AllReadyH.cons rfl (fun K hK => ?_) (AllReadyH.nil)
      go_simp
      refine HS.out.mono ?_
      rintro e w' ⟨rfl, hb'⟩
      have kq := Keeps.of_below hb'
      have HB' := Lib.hid (HBD.out.trans (hb'.mono HBD.out.size))
      clear hb'
      refine hK.out _ _ (⟨kq _ _ hHeld.1, kq _ _ hHeld.2⟩) (fun hHeld => ?_)
      clear hK K
      try simp only [List.getElem_toArray, List.getElem_cons_succ, List.getElem_cons_zero, Act.put, List.setIfInBounds_toArray, List.set_cons_zero, List.set_cons_succ]
      refine wpAnyH_take (i := 9) (v := ?vsb9) rfl (by kernel_rfl) (by kernel_rfl) (by kernel_rfl) (fun _ _ _ h => h) (Or.inl ⟨by rfl, ?ysb9⟩) hHeld ?rsb9
      case ysb9 => (intro W hW; obtain ⟨g1, g2⟩ := hW; go_simp; first | done | with_reducible rfl)
      try simp only [List.getElem_toArray, List.getElem_cons_succ, List.getElem_cons_zero, Act.put, List.setIfInBounds_toArray, List.set_cons_zero, List.set_cons_succ]
      refine wpAnyH_done (by kernel_rfl) ?_ _
      go_wp2
      go_roundw
      case rel => exact ⟨k + 1, by go_num, by omega, HB'.out⟩
      case measure => simp [intOf]; omega
    · obtain rfl : k = N := by omega
      have d1 : decide ((k : Int) < (k : Int)) = false := by simp
      go_wp2
      go_ret
      exact ⟨rfl, Hb.out⟩
end Go.Proofs.Ytmolfcccfekcpaa
/- The reference's Runs. -/
namespace Go.Proofs.Ytmolfcccfekcpaa
open Go.RowKit Go.Shelf
attribute [local go_sem] Oper.semAt_some
theorem GSz.belowS {B : Nat} {X Y : World} {st : RSt} {Js : List (List Cel)} (h : GSz B X st Js) (hb : Below X.heap.size X Y) : GSz B Y st Js := h.stayF fun k hk => hb.block k (h.fp_lt hk).2
theorem GSz.nil (B : Nat) (X : World) : GSz B X (.slice none 0 0, []) [] := ⟨World.ownsRow_nil _ _ _ _, rfl, fun i p J hp => by cases hp⟩
/-- What is held is laid behind the runs. -/
theorem gz_more {B : Nat} {X : World} {v u : Value} {gs : List (Value × List V5)} {us : List V5} {Js : List (List Cel)} {H : List Cel} (h : GSz B X (v, gs) Js) (hu : GRs B X u us H) (hl : Js.length + 1 ≤ 1000000) (hB : B ≤ X.heap.size) :
    ∃ v' gs' Y, (Builtin.append_ #[29, 29] 29 #[v, .slice (some ⟨X.heap.size, 0, none⟩) 1 1]).run Try.prog (X.alloc (.cells #[u] 31)) = .ok v' Y ∧ GSz B Y (v', gs') (Js ++ [H]) ∧ Below B X Y := by
  have hne : ∀ k, fpG u us k → v.ownBlock ≠ some k := fun k hk e => by
    obtain ⟨cs, T, e1, hT⟩ := hu.fp_cells hk
    obtain ⟨cs2, e2⟩ := cells_row h.1 e
    rw [e1] at e2
    injection e2 with e2
    injection e2 with _ e3 _
    rcases hT with hT | hT <;> (rw [hT] at e3; exact absurd e3 (by decide))
  obtain ⟨v', Y, hrun, hG, ht, -⟩ := append_gz h hu hne (by rw [h.2.1]; exact hl) hB
  exact ⟨v', _, Y, hrun, hG, ht.below (fun k hk => (h.fp_lt (.inl hk)).1) hB⟩
theorem runsP_cons (m : Nat) (H : List Cel) (c : Cel) (l : List Cel) : runsP m H (c :: l) = if hasK H c then runsP m (putC H c) l else if H.length = m then H :: runsP m [c] l else runsP m (putC H c) l := rfl
theorem putC_all {p : Cel → Prop} {H : List Cel} {c : Cel} (h : ∀ y ∈ H, p y) (hc : p c) (hj : ∀ y, p y → p (join2 y c)) : ∀ y ∈ putC H c, p y := by
  induction H with
  | nil => intro y hy; simp only [putC, List.mem_singleton] at hy; rw [hy]; exact hc
  | cons x l ih =>
    simp only [putC]
    split
    · intro y hy
      rcases List.mem_cons.1 hy with rfl | hy
      · exact h _ (by simp)
      · exact ih (fun z hz => h z (by simp [hz])) y hy
    · split
      · intro y hy
        rcases List.mem_cons.1 hy with rfl | hy
        · exact hj _ (h x (by simp))
        · exact h y (by simp [hy])
      · intro y hy
        rcases List.mem_cons.1 hy with rfl | hy
        · exact hc
        · exact h y hy
set_option maxRecDepth 100000 in
set_option maxHeartbeats 8000000 in
theorem rRuns_any (P : Option Addr) (c N m me : Nat) (L : List Cel) (w : World) (hr : RowC w P N L) (hN : N = L.length) (hN1 : N ≤ 1000) (ho : ∀ x ∈ L, EvenC me x ∧ x.key.length ≤ 1000) (hme : me ≤ 1000) :
    Calls Try.prog 15 #[.slice P N c, .int .i64 m] w fun e w' => ∃ v gs, e = .returned v ∧ GSz w.heap.size w' (v, gs) (runsP m [] L) ∧ Below w.heap.size w w' := by
  have HR := Lib.hid hr
  have HN := Lib.hid hN
  have HO := Lib.hid ho
  clear hr hN ho
  go_enter Try.func15, Try.ntmps15
  go_wp2_with fail
  go_loopw [5, 6, 7] (fun s5 s6 s7 wr => ∃ (i : Nat) (gs : List (Value × List V5)) (Js : List (List Cel)) (us : List V5) (H : List Cel), s7 = .int .i64 i ∧ i ≤ N ∧ runsP m [] L = Js ++ runsP m H (L.drop i) ∧ GSz w.heap.size wr (s5, gs) Js ∧ GRs w.heap.size wr s6 us H ∧ (H.length ≤ i ∧ Js.length ≤ i ∧ ∀ x ∈ H, EvenC me x ∧ x.key.length ≤ 1000) ∧ Below w.heap.size w wr) (fun _ _ s7 _ => N - (intOf s7).toNat)
  case atStart => exact ⟨0, [], [], [], [], rfl, Nat.zero_le _, rfl, GSz.nil _ _, GRs.nil _ _, ⟨Nat.le_refl _, Nat.le_refl _, fun x hx => absurd hx List.not_mem_nil⟩, Below.refl _ _⟩
  case round =>
    obtain ⟨i, gs, Js, us, H, rfl, hi, hx, hZ, hG, ⟨hl1, hl2, hHo⟩, hb⟩ := hrel
    rename World => wr
    rename_i s5 s6 _
    obtain ⟨Ph, ch, fh, -⟩ := hG.form
    have hul := hG.len
    rw [hul] at fh
    subst fh
    have hrow := hG.rowC.1
    obtain ⟨nh, hnh⟩ : ∃ nh, nh = H.length := ⟨_, rfl⟩
    rw [← hnh] at hG hrow hl1 ⊢
    have HZ := Lib.hid hZ
    have HG := Lib.hid hG
    have Hb := Lib.hid hb
    have HX := Lib.hid hx
    have HH := Lib.hid hHo
    have HRO := Lib.hid hrow
    have HNH := Lib.hid hnh
    clear hZ hG hb hx hHo hrow hul hnh
    by_cases hlt : i < N
    · have d1 : decide ((i : Int) < (N : Int)) = true := decide_eq_true (by omega)
      obtain ⟨x, hx⟩ : ∃ x, L[i]? = some x := ⟨_, List.getElem?_eq_getElem (by rw [← HN.out]; exact hlt)⟩
      have hdr : L.drop i = x :: L.drop (i + 1) := by rw [List.drop_eq_getElem_cons (List.getElem?_eq_some_iff.1 hx).1, (List.getElem?_eq_some_iff.1 hx).2]
      obtain ⟨ad, rfl, hcl⟩ := HR.out (by omega)
      obtain ⟨vk, vs, vn, vm, a0', a1', a2', a3', a4', hcx, hck⟩ := hcl i x hx
      obtain ⟨h1, h2⟩ := HO.out x (List.mem_of_getElem? hx)
      have hxk := hcx.key
      obtain ⟨Pk, ck, fk, nk, -⟩ := hxk
      obtain ⟨lk, hlk⟩ : ∃ lk, lk = x.key.length := ⟨_, rfl⟩
      rw [← hlk] at fk nk
      subst fk
      have k0 : Keeps w wr := Keeps.of_below Hb.out
      have HHA := Lib.hid (rHas_any Ph ch nh Pk lk ck H x wr HRO.out HNH.out (fun y hy => by have := (HH.out y hy).2; omega) (nk.keep k0) (by omega) (by omega))
      have HCX := Lib.hid hcx
      have HX2 := Lib.hid (show runsP m [] L = Js ++ runsP m H (x :: L.drop (i + 1)) by rw [HX.out, hdr])
      have HXE := Lib.hid (And.intro h1 h2)
      have HCK := Lib.hid hck
      obtain ⟨xc, hxc⟩ : ∃ xc, xc = x.cnt := ⟨_, rfl⟩
      rw [← hxc] at a1'
      have HXC := Lib.hid hxc
      have i0 : (0 : Int) ≤ (i : Int) := by omega
      have i1 : (i : Int) < (N : Int) := by omega
      have PUT0 := fun (Q : Option Addr) (n d : Nat) (us' : List V5) (K : List Cel) (W : World) (hg : GRs w.heap.size W (.slice Q n d) us' K) (hb : Below w.heap.size w W) (hK : ∀ y ∈ K, EvenC me y ∧ y.key.length ≤ 1000) (hn : n ≤ 1000) =>
        rPut_any w.heap.size Q n d us' K _ vs vn vm x me W hg (HCX.out.keep (Keeps.of_below hb)) (fun y hy => (hK y hy).1) HXE.out.1 (fun y hy => by have := (hK y hy).2; omega) (by have := HXE.out.2; omega) hn (by omega) HCK.out hb.size
      rw [← hxc] at PUT0
      have PUT := Lib.hid PUT0
      have HAT := Lib.hid (fun (W : World) (hb : Below w.heap.size w W) => (show W.cell? (ad.add (i * 5)) = some (.slice Pk lk ck) ∧ W.cell? ⟨(ad.add (i * 5)).block, (ad.add (i * 5)).off + 1, none⟩ = some (.int .i64 xc) ∧ W.cell? ⟨(ad.add (i * 5)).block, (ad.add (i * 5)).off + 2, none⟩ = some vs ∧ W.cell? ⟨(ad.add (i * 5)).block, (ad.add (i * 5)).off + 3, none⟩ = some vn ∧ W.cell? ⟨(ad.add (i * 5)).block, (ad.add (i * 5)).off + 4, none⟩ = some vm from
        ⟨Keeps.of_below hb _ _ a0', Keeps.of_below hb _ _ a1', Keeps.of_below hb _ _ a2', Keeps.of_below hb _ _ a3', Keeps.of_below hb _ _ a4'⟩))
      have hOK := fun (K : List Cel) (hK : ∀ y ∈ K, EvenC me y ∧ y.key.length ≤ 1000) => putC_all (p := fun y => EvenC me y ∧ y.key.length ≤ 1000) hK ⟨h1, h2⟩ (fun y hy => ⟨join2_even hy.1 h1, hy.2⟩)
      have HOK := Lib.hid hOK
      obtain ⟨⟨_, _, es, -⟩, ⟨_, _, en, -⟩, ⟨_, _, em, -⟩⟩ := And.intro hcx.sum (And.intro hcx.mn hcx.mx)
      subst es en em
      have p0 := k0 _ _ a0'
      clear hcl hcx hck h1 h2 hx hdr nk hlk hxc PUT0 hOK k0 a0' a1' a2' a3' a4'
      go_wp2_with fail
      refine HHA.out.mono ?_
      rintro e w1 ⟨rfl, hb1⟩
      have HB1 := Lib.hid (Hb.out.trans (hb1.mono Hb.out.size))
      have HZ1 := Lib.hid (HZ.out.belowS hb1)
      have HG1 := Lib.hid (HG.out.below hb1)
      clear hb1 HHA HZ HG p0
      by_cases hc : hasK H x = false ∧ nh = m
      · obtain ⟨hc1, hc2⟩ := hc
        have hx3 : runsP m [] L = (Js ++ [H]) ++ runsP m (putC [] x) (L.drop (i + 1)) := by
          rw [HX2.out, runsP_cons, if_neg (by rw [hc1]; simp), if_pos (by rw [← HNH.out]; exact hc2), List.append_assoc]
          rfl
        have HX3 := Lib.hid hx3
        have d3 : ((nh : Int) == (m : Int)) = true := by rw [hc2]; simp
        obtain ⟨v', gs', Y, hrun, hGY, hbY⟩ := gz_more HZ1.out HG1.out (by omega) HB1.out.size
        have Hrun := Lib.hid hrun
        have HGY := Lib.hid hGY
        have HBY := Lib.hid (HB1.out.trans hbY)
        obtain ⟨q0, q1, q2, q3, q4⟩ := HAT.out Y HBY.out
        clear hx3 hrun hGY hbY hc2
        rw [hc1]
        clear hc1
        go_wp2_with (first | (at_builtin; have _t := Hrun; refine wpList_append_eq rfl (.tmp 28) (.tmp 30) 29 rfl _ _ _ _ rfl rfl Hrun.out ?_; clear _t Hrun) | fail)
        refine (PUT.out none 0 0 [] [] Y (GRs.nil _ _) HBY.out (fun y hy => absurd hy List.not_mem_nil) (by omega)).mono ?_
        rintro e w3 ⟨v3, us3, rfl, hg3, hb3⟩
        have HG3 := Lib.hid hg3
        have HZ3 := Lib.hid (HGY.out.belowS hb3)
        have HB3 := Lib.hid (HBY.out.trans (hb3.mono HBY.out.size))
        clear hg3 hb3
        go_wp2
        go_roundw
        case rel => exact ⟨i + 1, gs', Js ++ [H], us3, putC [] x, by go_num, by omega, HX3.out, HZ3.out, HG3.out, ⟨by simp [putC], by rw [List.length_append, List.length_singleton]; omega, HOK.out [] (fun y hy => absurd hy List.not_mem_nil)⟩, HB3.out⟩
        case measure => simp [intOf]; omega
      · have hx3 : runsP m [] L = Js ++ runsP m (putC H x) (L.drop (i + 1)) := by
          rw [HX2.out, runsP_cons]
          cases hh : hasK H x with
          | true => rw [if_pos rfl]
          | false => rw [if_neg (by simp), if_neg (fun e => hc ⟨hh, by rw [HNH.out]; exact e⟩)]
        have HX3 := Lib.hid hx3
        obtain ⟨q0, q1, q2, q3, q4⟩ := HAT.out w1 HB1.out
        have hpl := putC_lt x H
        have HPL := Lib.hid hpl
        clear hx3 hpl
        have FIN : ∀ K : Prop, K → K := fun _ k => k
        clear FIN
        cases hh : hasK H x with
        | true =>
          clear hh hc
          go_wp2_with fail
          refine (PUT.out Ph nh ch us H w1 HG1.out HB1.out HH.out (by omega)).mono ?_
          rintro e w3 ⟨v3, us3, rfl, hg3, hb3⟩
          have HG3 := Lib.hid hg3
          have HZ3 := Lib.hid (HZ1.out.belowS hb3)
          have HB3 := Lib.hid (HB1.out.trans (hb3.mono HB1.out.size))
          clear hg3 hb3
          go_wp2
          go_roundw
          case rel => exact ⟨i + 1, gs, Js, us3, putC H x, by go_num, by omega, HX3.out, HZ3.out, HG3.out, ⟨by have := HPL.out; have := HNH.out; omega, by omega, HOK.out H HH.out⟩, HB3.out⟩
          case measure => simp [intOf]; omega
        | false =>
          have hne : ¬ nh = m := fun e => hc ⟨hh, e⟩
          have d3 : ((nh : Int) == (m : Int)) = false := by rw [beq_eq_false_iff_ne]; omega
          clear hh hc hne
          go_wp2_with fail
          refine (PUT.out Ph nh ch us H w1 HG1.out HB1.out HH.out (by omega)).mono ?_
          rintro e w3 ⟨v3, us3, rfl, hg3, hb3⟩
          have HG3 := Lib.hid hg3
          have HZ3 := Lib.hid (HZ1.out.belowS hb3)
          have HB3 := Lib.hid (HB1.out.trans (hb3.mono HB1.out.size))
          clear hg3 hb3
          go_wp2
          go_roundw
          case rel => exact ⟨i + 1, gs, Js, us3, putC H x, by go_num, by omega, HX3.out, HZ3.out, HG3.out, ⟨by have := HPL.out; have := HNH.out; omega, by omega, HOK.out H HH.out⟩, HB3.out⟩
          case measure => simp [intOf]; omega
    · obtain rfl : i = N := by omega
      have d1 : decide ((i : Int) < (i : Int)) = false := by simp
      have hdr : L.drop i = [] := List.drop_eq_nil_iff.2 (by rw [← HN.out]; exact Nat.le_refl _)
      have hx3 : runsP m [] L = Js ++ (if H = [] then [] else [H]) := by rw [HX.out, hdr]; rfl
      by_cases hc : nh = 0
      · have h0 : H = [] := List.length_eq_zero_iff.1 (by rw [← HNH.out]; exact hc)
        rw [if_pos h0, List.append_nil] at hx3
        have HX3 := Lib.hid hx3
        have d4 : decide (0 < nh) = false := by simp; omega
        clear hx3 h0 hc hdr
        go_wp2
        go_ret
        exact ⟨_, gs, rfl, by rw [HX3.out]; exact HZ.out, Hb.out⟩
      · have h0 : ¬ H = [] := fun e => hc (by rw [HNH.out, e]; rfl)
        rw [if_neg h0] at hx3
        have HX3 := Lib.hid hx3
        have d4 : decide (0 < nh) = true := decide_eq_true (by omega)
        obtain ⟨v', gs', Y, hrun, hGY, hbY⟩ := gz_more HZ.out HG.out (by omega) Hb.out.size
        have Hrun := Lib.hid hrun
        have HGY := Lib.hid hGY
        have HBY := Lib.hid (Hb.out.trans hbY)
        clear hx3 hrun hGY hbY hc h0 hdr
        go_wp2_with (first | (at_builtin; have _t := Hrun; refine wpList_append_eq rfl (.tmp 41) (.tmp 43) 29 rfl _ _ _ _ rfl rfl Hrun.out ?_; clear _t Hrun) | fail)
        go_ret
        exact ⟨_, gs', rfl, by rw [HX3.out]; exact HGY.out, HBY.out⟩
end Go.Proofs.Ytmolfcccfekcpaa
