/- The reference's Two. -/
import Derived.IntWalk
import Derived.Test.YtmolfcccfekcpaaAliP
import Derived.Test.YtmolfcccfekcpaaRfacts
import Derived.Test.YtmolfcccfekcpaaSet
import Derived.Test.YtmolfcccfekcpaaRegP
import Derived.Test.YtmolfcccfekcpaaGood5
import Derived.Test.YtmolfcccfekcpaaMath5
import Derived.Test.YtmolfcccfekcpaaMcmp
import Derived.Test.YtmolfcccfekcpaaCelj
namespace Go.Proofs.Ytmolfcccfekcpaa
open Go.RowKit Go.Shelf
attribute [local go_sem] Oper.semAt_some
theorem two_put {B : Nat} {X : World} {v k s n m : Value} {us : List V5} {K : List Cel} {x : Cel} (h : GRs B X v us K) (hc : CO B X k s n m x) (hi : inK .i64 x.cnt) (hl : us.length + 1 ≤ 1000000) (hB : B ≤ X.heap.size) :
    ∃ v' us' Y, (Builtin.append_ #[31, 31] 31 #[v, .slice (some ⟨X.heap.size, 0, none⟩) 1 1]).run Try.prog (X.alloc (.cells #[k, .int .i64 x.cnt, s, n, m] 44)) = .ok v' Y ∧ GRs B Y v' us' (K ++ [x]) ∧ us'.length = us.length + 1 ∧ Below B X Y := by
  have ho : OwnC B X ⟨k, .int .i64 x.cnt, s, n, m⟩ x := ⟨rfl, hc, hi⟩
  obtain ⟨v', Y, hrun, hG, hg, -⟩ := append_one h ho hl hB
  refine ⟨v', _, Y, hrun, hG, by simp, ?_⟩
  have hb2 : Below B X (X.alloc (.cells #[k, .int .i64 x.cnt, s, n, m] 44)) := (Below.refl B X).alloc hB _
  exact hb2.grown hg (by simp; omega) fun j hj => (h.1.lt j hj).1
theorem two_a {a b : List Cel} {i j : Nat} {x : Cel} (hx : a[i]? = some x) (h : b.drop j = [] ∨ ∃ y, b[j]? = some y ∧ cmpL x.key y.key < 0) : twoP (a.drop i) (b.drop j) = x :: twoP (a.drop (i + 1)) (b.drop j) := by
  have e1 : a.drop i = x :: a.drop (i + 1) := by rw [List.drop_eq_getElem_cons (List.getElem?_eq_some_iff.1 hx).1, (List.getElem?_eq_some_iff.1 hx).2]
  rcases h with h | ⟨y, hy, h⟩
  · rw [h, twoP_nil2, twoP_nil2, e1]
  · have e2 : b.drop j = y :: b.drop (j + 1) := by rw [List.drop_eq_getElem_cons (List.getElem?_eq_some_iff.1 hy).1, (List.getElem?_eq_some_iff.1 hy).2]
    rw [e1, e2, twoP_cons, if_pos h]
theorem two_b {a b : List Cel} {i j : Nat} {y : Cel} (hy : b[j]? = some y) (h : a.drop i = [] ∨ ∃ x, a[i]? = some x ∧ 0 < cmpL x.key y.key) : twoP (a.drop i) (b.drop j) = y :: twoP (a.drop i) (b.drop (j + 1)) := by
  have e2 : b.drop j = y :: b.drop (j + 1) := by rw [List.drop_eq_getElem_cons (List.getElem?_eq_some_iff.1 hy).1, (List.getElem?_eq_some_iff.1 hy).2]
  rcases h with h | ⟨x, hx, h⟩
  · rw [h, twoP_nil, twoP_nil, e2]
  · have e1 : a.drop i = x :: a.drop (i + 1) := by rw [List.drop_eq_getElem_cons (List.getElem?_eq_some_iff.1 hx).1, (List.getElem?_eq_some_iff.1 hx).2]
    rw [e1, e2, twoP_cons, if_neg (by omega), if_neg (by omega)]
theorem two_ab {a b : List Cel} {i j : Nat} {x y : Cel} (hx : a[i]? = some x) (hy : b[j]? = some y) (h : cmpL x.key y.key = 0) : twoP (a.drop i) (b.drop j) = join2 x y :: twoP (a.drop (i + 1)) (b.drop (j + 1)) := by
  have e1 : a.drop i = x :: a.drop (i + 1) := by rw [List.drop_eq_getElem_cons (List.getElem?_eq_some_iff.1 hx).1, (List.getElem?_eq_some_iff.1 hx).2]
  have e2 : b.drop j = y :: b.drop (j + 1) := by rw [List.drop_eq_getElem_cons (List.getElem?_eq_some_iff.1 hy).1, (List.getElem?_eq_some_iff.1 hy).2]
  rw [e1, e2, twoP_cons, if_neg (by omega), if_pos h]
set_option maxRecDepth 100000 in
set_option maxHeartbeats 8000000 in
theorem rTwo_any (P Q : Option Addr) (c d N M me : Nat) (La Lb : List Cel) (w : World) (ha : RowC w P N La) (hb : RowC w Q M Lb) (hN : N = La.length) (hM : M = Lb.length) (hN1 : N ≤ 1000) (hM1 : M ≤ 1000) (he : ∀ x ∈ La ++ Lb, EvenC me x ∧ x.key.length ≤ 1000) (hme : me ≤ 1000) :
    Calls Try.prog 24 #[.slice P N c, .slice Q M d] w fun e w' => ∃ v us, e = .returned v ∧ GRs w.heap.size w' v us (twoP La Lb) ∧ Below w.heap.size w w' := by
  have HA := Lib.hid ha
  have HB := Lib.hid hb
  have HN := Lib.hid hN
  have HM := Lib.hid hM
  have HE := Lib.hid he
  clear ha hb hN hM he
  go_enter Try.func24, Try.ntmps24
  go_wp2_with fail
  go_loopw [5, 6, 7] (fun s5 s6 s7 wr => ∃ (i j : Nat) (us : List V5) (K : List Cel), s6 = .int .i64 i ∧ s7 = .int .i64 j ∧ i ≤ N ∧ j ≤ M ∧ twoP La Lb = K ++ twoP (La.drop i) (Lb.drop j) ∧ GRs w.heap.size wr s5 us K ∧ us.length ≤ i + j ∧ Below w.heap.size w wr) (fun _ s6 s7 _ => (N - (intOf s6).toNat) + (M - (intOf s7).toNat))
  case atStart => exact ⟨0, 0, [], [], rfl, rfl, Nat.zero_le _, Nat.zero_le _, rfl, GRs.nil _ _, Nat.le_refl _, Below.refl _ _⟩
  case round =>
    obtain ⟨i, j, us, K, rfl, rfl, hi, hj, hx, hG, hul, hb⟩ := hrel
    rename World => wr
    have HG := Lib.hid hG
    have Hb := Lib.hid hb
    have HX := Lib.hid hx
    clear hG hb hx
    by_cases hA : i < N
    · by_cases hB : j < M
      · have d1 : decide ((i : Int) < (N : Int)) = true := decide_eq_true (by omega)
        have d1n : decide (i < N) = true := decide_eq_true (by omega)
        have e1 : ((i : Int) == (N : Int)) = false := by rw [beq_eq_false_iff_ne]; omega
        have d2 : decide ((j : Int) < (M : Int)) = true := decide_eq_true (by omega)
        have d2n : decide (j < M) = true := decide_eq_true (by omega)
        have e2 : ((j : Int) == (M : Int)) = false := by rw [beq_eq_false_iff_ne]; omega
        obtain ⟨x, hx⟩ : ∃ x, La[i]? = some x := ⟨_, List.getElem?_eq_getElem (by rw [← HN.out]; assumption)⟩
        obtain ⟨ad, rfl, hcga⟩ := HA.out (by omega)
        obtain ⟨gak, gas, gan, gam, ga0, ga1, ga2, ga3, ga4, hcx, hix⟩ := (hcga.keep (Keeps.of_below Hb.out)) i x hx
        obtain ⟨hex, hkx⟩ := HE.out x (by simp [List.mem_of_getElem? hx])
        have HCx := Lib.hid hcx
        obtain ⟨⟨P1ga, c1ga, f1ga, -⟩, ⟨P2ga, c2ga, f2ga, -⟩, ⟨P3ga, c3ga, f3ga, -⟩, ⟨P4ga, c4ga, f4ga, -⟩⟩ := And.intro hcx.key (And.intro hcx.sum (And.intro hcx.mn hcx.mx))
        subst f1ga f2ga f3ga f4ga
        obtain ⟨gac, hgac⟩ : ∃ z, z = x.cnt := ⟨_, rfl⟩
        obtain ⟨l1ga, hl1ga⟩ : ∃ z, z = x.key.length := ⟨_, rfl⟩
        obtain ⟨l2ga, hl2ga⟩ : ∃ z, z = x.sum.length := ⟨_, rfl⟩
        obtain ⟨l3ga, hl3ga⟩ : ∃ z, z = x.mn.length := ⟨_, rfl⟩
        obtain ⟨l4ga, hl4ga⟩ : ∃ z, z = x.mx.length := ⟨_, rfl⟩
        rw [← hl1ga, ← hl2ga, ← hl3ga, ← hl4ga] at HCx
        rw [← hl1ga] at ga0
        rw [← hgac] at ga1
        rw [← hl2ga] at ga2
        rw [← hl3ga] at ga3
        rw [← hl4ga] at ga4
        have Hgac := Lib.hid hgac
        have HEx := Lib.hid (And.intro hex hkx)
        have HIx := Lib.hid hix
        have i0 : (0 : Int) ≤ (i : Int) := by omega
        have i1 : (i : Int) < (N : Int) := by omega
        clear hcga hcx hix hex hkx hl1ga hl2ga hl3ga hl4ga hgac
        obtain ⟨y, hy⟩ : ∃ y, Lb[j]? = some y := ⟨_, List.getElem?_eq_getElem (by rw [← HM.out]; assumption)⟩
        obtain ⟨bd, rfl, hcgb⟩ := HB.out (by omega)
        obtain ⟨gbk, gbs, gbn, gbm, gb0, gb1, gb2, gb3, gb4, hcy, hiy⟩ := (hcgb.keep (Keeps.of_below Hb.out)) j y hy
        obtain ⟨hey, hky⟩ := HE.out y (by simp [List.mem_of_getElem? hy])
        have HCy := Lib.hid hcy
        obtain ⟨⟨P1gb, c1gb, f1gb, -⟩, ⟨P2gb, c2gb, f2gb, -⟩, ⟨P3gb, c3gb, f3gb, -⟩, ⟨P4gb, c4gb, f4gb, -⟩⟩ := And.intro hcy.key (And.intro hcy.sum (And.intro hcy.mn hcy.mx))
        subst f1gb f2gb f3gb f4gb
        obtain ⟨gbc, hgbc⟩ : ∃ z, z = y.cnt := ⟨_, rfl⟩
        obtain ⟨l1gb, hl1gb⟩ : ∃ z, z = y.key.length := ⟨_, rfl⟩
        obtain ⟨l2gb, hl2gb⟩ : ∃ z, z = y.sum.length := ⟨_, rfl⟩
        obtain ⟨l3gb, hl3gb⟩ : ∃ z, z = y.mn.length := ⟨_, rfl⟩
        obtain ⟨l4gb, hl4gb⟩ : ∃ z, z = y.mx.length := ⟨_, rfl⟩
        rw [← hl1gb, ← hl2gb, ← hl3gb, ← hl4gb] at HCy
        rw [← hl1gb] at gb0
        rw [← hgbc] at gb1
        rw [← hl2gb] at gb2
        rw [← hl3gb] at gb3
        rw [← hl4gb] at gb4
        have Hgbc := Lib.hid hgbc
        have HEy := Lib.hid (And.intro hey hky)
        have HIy := Lib.hid hiy
        have j0 : (0 : Int) ≤ (j : Int) := by omega
        have j1 : (j : Int) < (M : Int) := by omega
        clear hcgb hcy hiy hey hky hl1gb hl2gb hl3gb hl4gb hgbc
        have kd : Keeps wr wr.drew := (Keeps.refl wr).drewN 1
        obtain ⟨z, hz⟩ : ∃ z, z = cmpL x.key y.key := ⟨_, rfl⟩
        have HLS : Hid (Calls Try.prog 39 #[.slice P1ga l1ga c1ga, .slice P1gb l1gb c1gb] wr.drew fun e w' => e = .returned (.int .i64 z) ∧ ∃ q, w' = wr.drew.drewN q) := Lib.hid (by
          obtain ⟨U1, r1, e1, n1, -⟩ := HCx.out.key
          obtain ⟨U2, r2, e2, n2, -⟩ := HCy.out.key
          injection e1 with e3 e4 e5
          injection e2 with e6 e7 e8
          subst e3 e5 e6 e8
          rw [← e4] at n1
          rw [← e7] at n2
          rw [hz]
          exact rLess _ _ l1ga c1ga l1gb c1gb x.key y.key wr.drew (n1.keep kd) (n2.keep kd) (by rw [e4]; have := HEx.out.2; omega) (by rw [e7]; have := HEy.out.2; omega))
        have HZ := Lib.hid hz
        clear hA hB hz
        go_wp2_with fail
        refine wp_region_held_drew (S := fun W' => W'.cell? (ad.add (i * 5)) = some (.slice P1ga l1ga c1ga) ∧ W'.cell? (bd.add (j * 5)) = some (.slice P1gb l1gb c1gb)) (by kernel_rfl) ⟨ga0, gb0⟩ (fun hHeld => ?_)
        refine wpAnyH_take (i := 0) (v := ?vta0) rfl (by kernel_rfl) (by kernel_rfl) (by kernel_rfl) (fun _ _ _ h => h) (Or.inl ⟨by rfl, ?yta0⟩) hHeld ?rta0
        case yta0 => (intro W hW; obtain ⟨g1, g2⟩ := hW; go_simp; first | done | with_reducible rfl)
        try simp only [List.getElem_toArray, List.getElem_cons_zero, Act.put, List.setIfInBounds_toArray, List.set_cons_zero, List.set_cons_succ]
        refine wpAnyH_take (i := 1) (v := ?vta1) rfl (by kernel_rfl) (by kernel_rfl) (by kernel_rfl) (fun _ _ _ h => h) (Or.inl ⟨by rfl, ?yta1⟩) hHeld ?rta1
        case yta1 => (intro W hW; obtain ⟨g1, g2⟩ := hW; go_simp; first | done | with_reducible rfl)
        try simp only [List.getElem_toArray, List.getElem_cons_succ, List.getElem_cons_zero, Act.put, List.setIfInBounds_toArray, List.set_cons_zero, List.set_cons_succ]
        refine wpAnyH_take (i := 2) (v := ?vta2) rfl (by kernel_rfl) (by kernel_rfl) (by kernel_rfl) (fun _ _ _ h => h) (Or.inl ⟨by rfl, ?yta2⟩) hHeld ?rta2
        case yta2 => (intro W hW; obtain ⟨g1, g2⟩ := hW; go_simp; first | done | with_reducible rfl)
        try simp only [List.getElem_toArray, List.getElem_cons_succ, List.getElem_cons_zero, Act.put, List.setIfInBounds_toArray, List.set_cons_zero, List.set_cons_succ]
        refine wpAnyH_take (i := 3) (v := ?vta3) rfl (by kernel_rfl) (by kernel_rfl) (by kernel_rfl) (fun _ _ _ h => h) (Or.inl ⟨by rfl, ?yta3⟩) hHeld ?rta3
        case yta3 => (intro W hW; obtain ⟨g1, g2⟩ := hW; go_simp; first | done | with_reducible rfl)
        try simp only [List.getElem_toArray, List.getElem_cons_succ, List.getElem_cons_zero, Act.put, List.setIfInBounds_toArray, List.set_cons_zero, List.set_cons_succ]
        refine wpAnyH_take (i := 4) (v := ?vta4) rfl (by kernel_rfl) (by kernel_rfl) (by kernel_rfl) (fun _ _ _ h => h) (Or.inl ⟨by rfl, ?yta4⟩) hHeld ?rta4
        case yta4 => (intro W hW; obtain ⟨g1, g2⟩ := hW; go_simp; first | done | with_reducible rfl)
        try simp only [List.getElem_toArray, List.getElem_cons_succ, List.getElem_cons_zero, Act.put, List.setIfInBounds_toArray, List.set_cons_zero, List.set_cons_succ]
        refine wpAnyH_take (i := 5) (v := ?vta5) rfl (by kernel_rfl) (by kernel_rfl) (by kernel_rfl) (fun _ _ _ h => h) (Or.inl ⟨by rfl, ?yta5⟩) hHeld ?rta5
        case yta5 => (intro W hW; obtain ⟨g1, g2⟩ := hW; go_simp; first | done | with_reducible rfl)
        try simp only [List.getElem_toArray, List.getElem_cons_succ, List.getElem_cons_zero, Act.put, List.setIfInBounds_toArray, List.set_cons_zero, List.set_cons_succ]
        refine wpAnyH_take (i := 6) (v := ?vta6) rfl (by kernel_rfl) (by kernel_rfl) (by kernel_rfl) (fun _ _ _ h => h) (Or.inl ⟨by rfl, ?yta6⟩) hHeld ?rta6
        case yta6 => (intro W hW; obtain ⟨g1, g2⟩ := hW; go_simp; first | done | with_reducible rfl)
        try simp only [List.getElem_toArray, List.getElem_cons_succ, List.getElem_cons_zero, Act.put, List.setIfInBounds_toArray, List.set_cons_zero, List.set_cons_succ]
        refine wpAnyH_take (i := 7) (v := ?vta7) rfl (by kernel_rfl) (by kernel_rfl) (by kernel_rfl) (fun _ _ _ h => h) (Or.inl ⟨by rfl, ?yta7⟩) hHeld ?rta7
        case yta7 => (intro W hW; obtain ⟨g1, g2⟩ := hW; go_simp; first | done | with_reducible rfl)
        try simp only [List.getElem_toArray, List.getElem_cons_succ, List.getElem_cons_zero, Act.put, List.setIfInBounds_toArray, List.set_cons_zero, List.set_cons_succ]
        refine wpAnyH_take (i := 8) (v := ?vta8) rfl (by kernel_rfl) (by kernel_rfl) (by kernel_rfl) (fun _ _ _ h => h) (Or.inl ⟨by rfl, ?yta8⟩) hHeld ?rta8
        case yta8 => (intro W hW; obtain ⟨g1, g2⟩ := hW; go_simp; first | done | with_reducible rfl)
        try simp only [List.getElem_toArray, List.getElem_cons_succ, List.getElem_cons_zero, Act.put, List.setIfInBounds_toArray, List.set_cons_zero, List.set_cons_succ]
        refine wpAnyH_take (i := 9) (v := ?vta9) rfl (by kernel_rfl) (by kernel_rfl) (by kernel_rfl) (fun _ _ _ h => h) (Or.inl ⟨by rfl, ?yta9⟩) hHeld ?rta9
        case yta9 => (intro W hW; obtain ⟨g1, g2⟩ := hW; go_simp; first | done | with_reducible rfl)
        try simp only [List.getElem_toArray, List.getElem_cons_succ, List.getElem_cons_zero, Act.put, List.setIfInBounds_toArray, List.set_cons_zero, List.set_cons_succ]
        refine wpAnyH_ready (rs := [10]) (by kernel_rfl) (by simp) ?_
        refine AllReadyH.cons rfl (fun K hK => ?_) (AllReadyH.nil)
        go_simp
        refine HLS.out.mono ?_
        rintro e w' ⟨rfl, q, rfl⟩
        have kq := (Keeps.refl wr.drew).drewN q
        refine hK.out _ _ (⟨kq _ _ hHeld.1, kq _ _ hHeld.2⟩) (fun hHeld => ?_)
        clear hK K
        try simp only [List.getElem_toArray, List.getElem_cons_succ, List.getElem_cons_zero, Act.put, List.setIfInBounds_toArray, List.set_cons_zero, List.set_cons_succ]
        refine wpAnyH_take (i := 11) (v := ?vta11) rfl (by kernel_rfl) (by kernel_rfl) (by kernel_rfl) (fun _ _ _ h => h) (Or.inl ⟨by rfl, ?yta11⟩) hHeld ?rta11
        case yta11 => (intro W hW; obtain ⟨g1, g2⟩ := hW; go_simp; first | done | with_reducible rfl)
        try simp only [List.getElem_toArray, List.getElem_cons_succ, List.getElem_cons_zero, Act.put, List.setIfInBounds_toArray, List.set_cons_zero, List.set_cons_succ]
        refine wpAnyH_done (by kernel_rfl) ?_ _
        have hkq : Keeps wr (wr.drewN (1 + q)) := (Keeps.refl wr).drewN (1 + q)
        clear HLS
        by_cases hz1 : z < 0
        · have hzz := hz1
          have c1 : decide (z < 0) = true := decide_eq_true hz1
          clear hz1
          have hx2 : twoP La Lb = (K ++ [x]) ++ twoP (La.drop (i + 1)) (Lb.drop (j)) := by rw [HX.out, two_a hx (.inr ⟨y, hy, HZ.out ▸ hzz⟩), List.append_assoc]; rfl
          have HX2 := Lib.hid hx2
          have HCP := Lib.hid (fun (W : World) (hW : Keeps wr W) => rCopy_any _ _ _ _ x W (HCx.out.keep hW) (by have := HEx.out.2; omega) (by have := HEx.out.1.1; omega) (by have := HEx.out.1.2.1; omega) (by have := HEx.out.1.2.2; omega))
          rw [← Hgac.out] at HCP
          clear hx2 hx hy
          go_wp2_with fail
          refine (HCP.out (wr.drewN (1 + q)) hkq).mono ?_
          rintro e w1 ⟨k', s', n', m', rfl, hco, hb1⟩
          obtain ⟨⟨A1, q1, g1, -⟩, ⟨A2, q2, g2, -⟩, ⟨A3, q3, g3, -⟩, ⟨A4, q4, g4, -⟩⟩ := And.intro hco.key.form (And.intro hco.sum.form (And.intro hco.mn.form hco.mx.form))
          subst g1 g2 g3 g4
          have hbw : Below wr.heap.size wr w1 := (below_drewN (Below.refl wr.heap.size wr) (1 + q)).trans hb1
          obtain ⟨v', us', Y, hrun, hG', hul', hbY⟩ := two_put (HG.out.below hbw) (hco.mono Hb.out.size) HIx.out (by omega) (Nat.le_trans Hb.out.size hbw.size)
          rw [← Hgac.out] at hrun
          have Hrun := Lib.hid hrun
          have HG' := Lib.hid hG'
          have HBY := Lib.hid ((Hb.out.trans (hbw.mono Hb.out.size)).trans hbY)
          clear hco hb1 hbw hrun hG' hbY HCP
          go_wp2_with (first | (at_builtin; have _t := Hrun; refine wpList_append_eq rfl (.tmp 59) (.tmp 65) 31 rfl _ _ _ _ rfl rfl Hrun.out ?_; clear _t Hrun) | fail)
          go_roundw
          case rel => exact ⟨i + 1, j, us', K ++ [x], by go_num, by go_num, by omega, by omega, HX2.out, HG'.out, by omega, HBY.out⟩
          case measure => simp [intOf]; omega
        · by_cases hz2 : z = 0
          · have c1 : decide (z < 0) = false := decide_eq_false (by omega)
            have c2 : decide (0 < z) = false := decide_eq_false (by omega)
            have hx2 : twoP La Lb = (K ++ [join2 x y]) ++ twoP (La.drop (i + 1)) (Lb.drop (j + 1)) := by rw [HX.out, two_ab hx hy (by rw [← HZ.out]; exact hz2), List.append_assoc]; rfl
            have HX2 := Lib.hid hx2
            have HJN := Lib.hid (fun (W : World) (hW : Keeps wr W) => rJoin_any _ _ _ _ _ _ _ _ x y me W (HCx.out.keep hW) (HCy.out.keep hW) HEx.out.1 HEy.out.1 (by have := HEx.out.2; omega) (by omega) HIx.out HIy.out)
            rw [← Hgac.out, ← Hgbc.out] at HJN
            have ka := (hkq.trans (Keeps.refl _))
            have t0 := hkq _ _ ga0
            have t1 := hkq _ _ ga1
            have t2 := hkq _ _ ga2
            have t3 := hkq _ _ ga3
            have t4 := hkq _ _ ga4
            have u0 := hkq _ _ gb0
            have u1 := hkq _ _ gb1
            have u2 := hkq _ _ gb2
            have u3 := hkq _ _ gb3
            have u4 := hkq _ _ gb4
            clear hx2 hx hy hz1 hz2 ka ga0 ga1 ga2 ga3 ga4 gb0 gb1 gb2 gb3 gb4
            go_wp2_with fail
            refine region_P (S := fun W' => (W'.cell? (ad.add (i * 5)) = some (.slice P1ga l1ga c1ga) ∧ W'.cell? ⟨(ad.add (i * 5)).block, (ad.add (i * 5)).off + 1, none⟩ = some (.int .i64 gac) ∧ W'.cell? ⟨(ad.add (i * 5)).block, (ad.add (i * 5)).off + 2, none⟩ = some (.slice P2ga l2ga c2ga) ∧ W'.cell? ⟨(ad.add (i * 5)).block, (ad.add (i * 5)).off + 3, none⟩ = some (.slice P3ga l3ga c3ga) ∧ W'.cell? ⟨(ad.add (i * 5)).block, (ad.add (i * 5)).off + 4, none⟩ = some (.slice P4ga l4ga c4ga)) ∧ W'.cell? (bd.add (j * 5)) = some (.slice P1gb l1gb c1gb) ∧ W'.cell? ⟨(bd.add (j * 5)).block, (bd.add (j * 5)).off + 1, none⟩ = some (.int .i64 gbc) ∧ W'.cell? ⟨(bd.add (j * 5)).block, (bd.add (j * 5)).off + 2, none⟩ = some (.slice P2gb l2gb c2gb) ∧ W'.cell? ⟨(bd.add (j * 5)).block, (bd.add (j * 5)).off + 3, none⟩ = some (.slice P3gb l3gb c3gb) ∧ W'.cell? ⟨(bd.add (j * 5)).block, (bd.add (j * 5)).off + 4, none⟩ = some (.slice P4gb l4gb c4gb)) (kill := [9,10,11]) (by kernel_rfl) ⟨⟨t0, t1, t2, t3, t4⟩, u0, u1, u2, u3, u4⟩ (fun hHeld => ?_)
            refine anyP_pure (i := 0) (v := ?vtb0) rfl (by kernel_rfl) (by kernel_rfl) (by kernel_rfl) (by kernel_rfl) (fun _ _ _ h => h) (Or.inl ⟨by rfl, ?ytb0⟩) ?rtb0
            case ytb0 => (intro W hW; go_simp; first | done | with_reducible rfl)
            try simp only [List.getElem_toArray, List.getElem_cons_zero, Act.put, List.setIfInBounds_toArray, List.set_cons_zero, List.set_cons_succ]
            refine anyP_take (i := 1) (v := ?vtb1) rfl (by kernel_rfl) (by kernel_rfl) (by kernel_rfl) (by kernel_rfl) (by kernel_rfl) (fun _ _ _ h => h) (Or.inl ⟨by rfl, ?ytb1⟩) hHeld ?rtb1
            case ytb1 => (intro W hW; obtain ⟨⟨g0, g1, g2, g3, g4⟩, g5, g6, g7, g8, g9⟩ := hW; go_simp; first | done | with_reducible rfl)
            try simp only [List.getElem_toArray, List.getElem_cons_succ, List.getElem_cons_zero, Act.put, List.setIfInBounds_toArray, List.set_cons_zero, List.set_cons_succ]
            refine anyP_take (i := 2) (v := ?vtb2) rfl (by kernel_rfl) (by kernel_rfl) (by kernel_rfl) (by kernel_rfl) (by kernel_rfl) (fun _ _ _ h => h) (Or.inl ⟨by rfl, ?ytb2⟩) hHeld ?rtb2
            case ytb2 => (intro W hW; obtain ⟨⟨g0, g1, g2, g3, g4⟩, g5, g6, g7, g8, g9⟩ := hW; go_simp; first | done | with_reducible rfl)
            try simp only [List.getElem_toArray, List.getElem_cons_succ, List.getElem_cons_zero, Act.put, List.setIfInBounds_toArray, List.set_cons_zero, List.set_cons_succ]
            refine anyP_take (i := 3) (v := ?vtb3) rfl (by kernel_rfl) (by kernel_rfl) (by kernel_rfl) (by kernel_rfl) (by kernel_rfl) (fun _ _ _ h => h) (Or.inl ⟨by rfl, ?ytb3⟩) hHeld ?rtb3
            case ytb3 => (intro W hW; obtain ⟨⟨g0, g1, g2, g3, g4⟩, g5, g6, g7, g8, g9⟩ := hW; go_simp; first | done | with_reducible rfl)
            try simp only [List.getElem_toArray, List.getElem_cons_succ, List.getElem_cons_zero, Act.put, List.setIfInBounds_toArray, List.set_cons_zero, List.set_cons_succ]
            refine anyP_take (i := 4) (v := ?vtb4) rfl (by kernel_rfl) (by kernel_rfl) (by kernel_rfl) (by kernel_rfl) (by kernel_rfl) (fun _ _ _ h => h) (Or.inl ⟨by rfl, ?ytb4⟩) hHeld ?rtb4
            case ytb4 => (intro W hW; obtain ⟨⟨g0, g1, g2, g3, g4⟩, g5, g6, g7, g8, g9⟩ := hW; go_simp; first | done | with_reducible rfl)
            try simp only [List.getElem_toArray, List.getElem_cons_succ, List.getElem_cons_zero, Act.put, List.setIfInBounds_toArray, List.set_cons_zero, List.set_cons_succ]
            refine anyP_take (i := 5) (v := ?vtb5) rfl (by kernel_rfl) (by kernel_rfl) (by kernel_rfl) (by kernel_rfl) (by kernel_rfl) (fun _ _ _ h => h) (Or.inl ⟨by rfl, ?ytb5⟩) hHeld ?rtb5
            case ytb5 => (intro W hW; obtain ⟨⟨g0, g1, g2, g3, g4⟩, g5, g6, g7, g8, g9⟩ := hW; go_simp; first | done | with_reducible rfl)
            try simp only [List.getElem_toArray, List.getElem_cons_succ, List.getElem_cons_zero, Act.put, List.setIfInBounds_toArray, List.set_cons_zero, List.set_cons_succ]
            refine anyP_take (i := 6) (v := ?vtb6) rfl (by kernel_rfl) (by kernel_rfl) (by kernel_rfl) (by kernel_rfl) (by kernel_rfl) (fun _ _ _ h => h) (Or.inl ⟨by rfl, ?ytb6⟩) hHeld ?rtb6
            case ytb6 => (intro W hW; obtain ⟨⟨g0, g1, g2, g3, g4⟩, g5, g6, g7, g8, g9⟩ := hW; go_simp; first | done | with_reducible rfl)
            try simp only [List.getElem_toArray, List.getElem_cons_succ, List.getElem_cons_zero, Act.put, List.setIfInBounds_toArray, List.set_cons_zero, List.set_cons_succ]
            refine anyP_take (i := 7) (v := ?vtb7) rfl (by kernel_rfl) (by kernel_rfl) (by kernel_rfl) (by kernel_rfl) (by kernel_rfl) (fun _ _ _ h => h) (Or.inl ⟨by rfl, ?ytb7⟩) hHeld ?rtb7
            case ytb7 => (intro W hW; obtain ⟨⟨g0, g1, g2, g3, g4⟩, g5, g6, g7, g8, g9⟩ := hW; go_simp; first | done | with_reducible rfl)
            try simp only [List.getElem_toArray, List.getElem_cons_succ, List.getElem_cons_zero, Act.put, List.setIfInBounds_toArray, List.set_cons_zero, List.set_cons_succ]
            refine anyP_take (i := 8) (v := ?vtb8) rfl (by kernel_rfl) (by kernel_rfl) (by kernel_rfl) (by kernel_rfl) (by kernel_rfl) (fun _ _ _ h => h) (Or.inl ⟨by rfl, ?ytb8⟩) hHeld ?rtb8
            case ytb8 => (intro W hW; obtain ⟨⟨g0, g1, g2, g3, g4⟩, g5, g6, g7, g8, g9⟩ := hW; go_simp; first | done | with_reducible rfl)
            try simp only [List.getElem_toArray, List.getElem_cons_succ, List.getElem_cons_zero, Act.put, List.setIfInBounds_toArray, List.set_cons_zero, List.set_cons_succ]
            refine anyP_ready (rs := [9]) (by kernel_rfl) (by simp) ?_
            refine AllP.cons rfl (fun K hK => ?_) (AllP.nil)
            go_simp
            first | refine (HJN.out (wr.drewN (1 + q + 1)) (fun _ _ h => h)).mono ?_ | refine (HJN.out (wr.drewN (1 + (1 + q))) (fun _ _ h => h)).mono ?_ | refine (HJN.out (wr.drewN (2 + q)) (fun _ _ h => h)).mono ?_ | refine (HJN.out (wr.drewN (1 + q)).drew (fun _ _ h => h)).mono ?_
            rintro e w1 ⟨k', s', n', m', rfl, hco, hb1⟩
            obtain ⟨⟨A1, q1, g1, -⟩, ⟨A2, q2, g2, -⟩, ⟨A3, q3, g3, -⟩, ⟨A4, q4, g4, -⟩⟩ := And.intro hco.key.form (And.intro hco.sum.form (And.intro hco.mn.form hco.mx.form))
            subst g1 g2 g3 g4
            refine hK.out _ _ (fun h => absurd (by decide) h) ?_
            clear hK K
            try simp only [List.getElem_toArray, List.getElem_cons_succ, List.getElem_cons_zero, Act.put, List.setIfInBounds_toArray, List.set_cons_zero, List.set_cons_succ]
            have hbw : Below wr.heap.size wr w1 := (below_drewN (Below.refl wr.heap.size wr) (1 + q + 1)).trans hb1
            obtain ⟨v', us', Y, hrun, hG', hul', hbY⟩ := two_put (HG.out.below hbw) (hco.mono Hb.out.size) join2_ok (by omega) (Nat.le_trans Hb.out.size hbw.size)
            have Hrun := Lib.hid hrun
            have HG' := Lib.hid hG'
            have HBY := Lib.hid ((Hb.out.trans (hbw.mono Hb.out.size)).trans hbY)
            clear hco hb1 hbw hrun hG' hbY HJN t0 t1 t2 t3 t4 u0 u1 u2 u3 u4
            refine anyP_ready (rs := [10]) (by kernel_rfl) (by simp) ?_
            refine AllP.cons rfl (fun K hK => ?_) (AllP.nil)
            go_simp
            refine hK.out _ _ (fun h => absurd (by decide) h) ?_
            clear hK K
            try simp only [List.getElem_toArray, List.getElem_cons_succ, List.getElem_cons_zero, Act.put, List.setIfInBounds_toArray, List.set_cons_zero, List.set_cons_succ]
            refine anyP_ready (rs := [11]) (by kernel_rfl) (by simp) ?_
            refine AllP.cons rfl (fun K hK => ?_) (AllP.nil)
            rw [if_pos (by rfl)]
            refine oper_append (.tmp 40) (.tmp 50) 31 rfl _ _ _ _ rfl rfl Hrun.out ?_
            refine hK.out _ _ (fun h => absurd (by decide) h) ?_
            clear hK K
            try simp only [List.getElem_toArray, List.getElem_cons_succ, List.getElem_cons_zero, Act.put, List.setIfInBounds_toArray, List.set_cons_zero, List.set_cons_succ]
            refine anyP_pure (i := 12) (v := ?vtb12) rfl (by kernel_rfl) (by kernel_rfl) (by kernel_rfl) (by kernel_rfl) (fun _ _ _ h => h) (Or.inl ⟨by rfl, ?ytb12⟩) ?rtb12
            case ytb12 => (intro W hW; go_simp; first | done | with_reducible rfl)
            try simp only [List.getElem_toArray, List.getElem_cons_succ, List.getElem_cons_zero, Act.put, List.setIfInBounds_toArray, List.set_cons_zero, List.set_cons_succ]
            refine anyP_done (by kernel_rfl) ?_ _
            go_wp2
            go_roundw
            case rel => exact ⟨i + 1, j + 1, us', K ++ [join2 x y], by go_num, by go_num, by omega, by omega, HX2.out, HG'.out, by omega, HBY.out⟩
            case measure => simp [intOf]; omega
          · have c1 : decide (z < 0) = false := decide_eq_false (by omega)
            have c2 : decide (0 < z) = true := decide_eq_true (by omega)
            have hx2 : twoP La Lb = (K ++ [y]) ++ twoP (La.drop (i)) (Lb.drop (j + 1)) := by rw [HX.out, two_b hy (.inr ⟨x, hx, by rw [← HZ.out]; omega⟩), List.append_assoc]; rfl
            have HX2 := Lib.hid hx2
            have HCP := Lib.hid (fun (W : World) (hW : Keeps wr W) => rCopy_any _ _ _ _ y W (HCy.out.keep hW) (by have := HEy.out.2; omega) (by have := HEy.out.1.1; omega) (by have := HEy.out.1.2.1; omega) (by have := HEy.out.1.2.2; omega))
            rw [← Hgbc.out] at HCP
            clear hx2 hx hy hz1 hz2
            go_wp2_with fail
            refine (HCP.out (wr.drewN (1 + q)) hkq).mono ?_
            rintro e w1 ⟨k', s', n', m', rfl, hco, hb1⟩
            obtain ⟨⟨A1, q1, g1, -⟩, ⟨A2, q2, g2, -⟩, ⟨A3, q3, g3, -⟩, ⟨A4, q4, g4, -⟩⟩ := And.intro hco.key.form (And.intro hco.sum.form (And.intro hco.mn.form hco.mx.form))
            subst g1 g2 g3 g4
            have hbw : Below wr.heap.size wr w1 := (below_drewN (Below.refl wr.heap.size wr) (1 + q)).trans hb1
            obtain ⟨v', us', Y, hrun, hG', hul', hbY⟩ := two_put (HG.out.below hbw) (hco.mono Hb.out.size) HIy.out (by omega) (Nat.le_trans Hb.out.size hbw.size)
            rw [← Hgbc.out] at hrun
            have Hrun := Lib.hid hrun
            have HG' := Lib.hid hG'
            have HBY := Lib.hid ((Hb.out.trans (hbw.mono Hb.out.size)).trans hbY)
            clear hco hb1 hbw hrun hG' hbY HCP
            go_wp2_with (first | (at_builtin; have _t := Hrun; refine wpList_append_eq rfl (.tmp 72) (.tmp 78) 31 rfl _ _ _ _ rfl rfl Hrun.out ?_; clear _t Hrun) | fail)
            go_roundw
            case rel => exact ⟨i, j + 1, us', K ++ [y], by go_num, by go_num, by omega, by omega, HX2.out, HG'.out, by omega, HBY.out⟩
            case measure => simp [intOf]; omega
      · have hjM : j = M := by omega
        have hbe : Lb.drop j = [] := List.drop_eq_nil_iff.2 (by rw [← HM.out]; omega)
        have d1 : decide ((i : Int) < (N : Int)) = true := decide_eq_true (by omega)
        have d1n : decide (i < N) = true := decide_eq_true (by omega)
        have e1 : ((i : Int) == (N : Int)) = false := by rw [beq_eq_false_iff_ne]; omega
        have d2 : decide ((j : Int) < (M : Int)) = false := decide_eq_false (by omega)
        have d2n : decide (j < M) = false := decide_eq_false (by omega)
        have e2 : ((j : Int) == (M : Int)) = true := by rw [show j = M by omega]; simp
        obtain ⟨x, hx⟩ : ∃ x, La[i]? = some x := ⟨_, List.getElem?_eq_getElem (by rw [← HN.out]; assumption)⟩
        obtain ⟨ad, rfl, hcga⟩ := HA.out (by omega)
        obtain ⟨gak, gas, gan, gam, ga0, ga1, ga2, ga3, ga4, hcx, hix⟩ := (hcga.keep (Keeps.of_below Hb.out)) i x hx
        obtain ⟨hex, hkx⟩ := HE.out x (by simp [List.mem_of_getElem? hx])
        have HCx := Lib.hid hcx
        obtain ⟨⟨P1ga, c1ga, f1ga, -⟩, ⟨P2ga, c2ga, f2ga, -⟩, ⟨P3ga, c3ga, f3ga, -⟩, ⟨P4ga, c4ga, f4ga, -⟩⟩ := And.intro hcx.key (And.intro hcx.sum (And.intro hcx.mn hcx.mx))
        subst f1ga f2ga f3ga f4ga
        obtain ⟨gac, hgac⟩ : ∃ z, z = x.cnt := ⟨_, rfl⟩
        obtain ⟨l1ga, hl1ga⟩ : ∃ z, z = x.key.length := ⟨_, rfl⟩
        obtain ⟨l2ga, hl2ga⟩ : ∃ z, z = x.sum.length := ⟨_, rfl⟩
        obtain ⟨l3ga, hl3ga⟩ : ∃ z, z = x.mn.length := ⟨_, rfl⟩
        obtain ⟨l4ga, hl4ga⟩ : ∃ z, z = x.mx.length := ⟨_, rfl⟩
        rw [← hl1ga, ← hl2ga, ← hl3ga, ← hl4ga] at HCx
        rw [← hl1ga] at ga0
        rw [← hgac] at ga1
        rw [← hl2ga] at ga2
        rw [← hl3ga] at ga3
        rw [← hl4ga] at ga4
        have Hgac := Lib.hid hgac
        have HEx := Lib.hid (And.intro hex hkx)
        have HIx := Lib.hid hix
        have i0 : (0 : Int) ≤ (i : Int) := by omega
        have i1 : (i : Int) < (N : Int) := by omega
        clear hcga hcx hix hex hkx hl1ga hl2ga hl3ga hl4ga hgac
        clear hA hB hjM
        have hx2 : twoP La Lb = (K ++ [x]) ++ twoP (La.drop (i + 1)) (Lb.drop (j)) := by rw [HX.out, two_a hx (.inl hbe), List.append_assoc]; rfl
        have HX2 := Lib.hid hx2
        have HCP := Lib.hid (fun (W : World) (hW : Keeps wr W) => rCopy_any _ _ _ _ x W (HCx.out.keep hW) (by have := HEx.out.2; omega) (by have := HEx.out.1.1; omega) (by have := HEx.out.1.2.1; omega) (by have := HEx.out.1.2.2; omega))
        rw [← Hgac.out] at HCP
        clear hx2 hx
        go_wp2_with fail
        refine (HCP.out _ (Keeps.refl _)).mono ?_
        rintro e w1 ⟨k', s', n', m', rfl, hco, hb1⟩
        obtain ⟨⟨A1, q1, g1, -⟩, ⟨A2, q2, g2, -⟩, ⟨A3, q3, g3, -⟩, ⟨A4, q4, g4, -⟩⟩ := And.intro hco.key.form (And.intro hco.sum.form (And.intro hco.mn.form hco.mx.form))
        subst g1 g2 g3 g4
        have hbw : Below wr.heap.size wr w1 := hb1
        obtain ⟨v', us', Y, hrun, hG', hul', hbY⟩ := two_put (HG.out.below hbw) (hco.mono Hb.out.size) HIx.out (by omega) (Nat.le_trans Hb.out.size hbw.size)
        rw [← Hgac.out] at hrun
        have Hrun := Lib.hid hrun
        have HG' := Lib.hid hG'
        have HBY := Lib.hid ((Hb.out.trans (hbw.mono Hb.out.size)).trans hbY)
        clear hco hb1 hbw hrun hG' hbY HCP
        go_wp2_with (first | (at_builtin; have _t := Hrun; refine wpList_append_eq rfl (.tmp 59) (.tmp 65) 31 rfl _ _ _ _ rfl rfl Hrun.out ?_; clear _t Hrun) | fail)
        go_roundw
        case rel => exact ⟨i + 1, j, us', K ++ [x], by go_num, by go_num, by omega, by omega, HX2.out, HG'.out, by omega, HBY.out⟩
        case measure => simp [intOf]; omega
    · have hiN : i = N := by omega
      have hae : La.drop i = [] := List.drop_eq_nil_iff.2 (by rw [← HN.out]; omega)
      by_cases hB : j < M
      · have d1 : decide ((i : Int) < (N : Int)) = false := decide_eq_false (by omega)
        have d1n : decide (i < N) = false := decide_eq_false (by omega)
        have e1 : ((i : Int) == (N : Int)) = true := by rw [show i = N by omega]; simp
        have d2 : decide ((j : Int) < (M : Int)) = true := decide_eq_true (by omega)
        have d2n : decide (j < M) = true := decide_eq_true (by omega)
        have e2 : ((j : Int) == (M : Int)) = false := by rw [beq_eq_false_iff_ne]; omega
        obtain ⟨y, hy⟩ : ∃ y, Lb[j]? = some y := ⟨_, List.getElem?_eq_getElem (by rw [← HM.out]; assumption)⟩
        obtain ⟨bd, rfl, hcgb⟩ := HB.out (by omega)
        obtain ⟨gbk, gbs, gbn, gbm, gb0, gb1, gb2, gb3, gb4, hcy, hiy⟩ := (hcgb.keep (Keeps.of_below Hb.out)) j y hy
        obtain ⟨hey, hky⟩ := HE.out y (by simp [List.mem_of_getElem? hy])
        have HCy := Lib.hid hcy
        obtain ⟨⟨P1gb, c1gb, f1gb, -⟩, ⟨P2gb, c2gb, f2gb, -⟩, ⟨P3gb, c3gb, f3gb, -⟩, ⟨P4gb, c4gb, f4gb, -⟩⟩ := And.intro hcy.key (And.intro hcy.sum (And.intro hcy.mn hcy.mx))
        subst f1gb f2gb f3gb f4gb
        obtain ⟨gbc, hgbc⟩ : ∃ z, z = y.cnt := ⟨_, rfl⟩
        obtain ⟨l1gb, hl1gb⟩ : ∃ z, z = y.key.length := ⟨_, rfl⟩
        obtain ⟨l2gb, hl2gb⟩ : ∃ z, z = y.sum.length := ⟨_, rfl⟩
        obtain ⟨l3gb, hl3gb⟩ : ∃ z, z = y.mn.length := ⟨_, rfl⟩
        obtain ⟨l4gb, hl4gb⟩ : ∃ z, z = y.mx.length := ⟨_, rfl⟩
        rw [← hl1gb, ← hl2gb, ← hl3gb, ← hl4gb] at HCy
        rw [← hl1gb] at gb0
        rw [← hgbc] at gb1
        rw [← hl2gb] at gb2
        rw [← hl3gb] at gb3
        rw [← hl4gb] at gb4
        have Hgbc := Lib.hid hgbc
        have HEy := Lib.hid (And.intro hey hky)
        have HIy := Lib.hid hiy
        have j0 : (0 : Int) ≤ (j : Int) := by omega
        have j1 : (j : Int) < (M : Int) := by omega
        clear hcgb hcy hiy hey hky hl1gb hl2gb hl3gb hl4gb hgbc
        clear hA hB hiN
        have hx2 : twoP La Lb = (K ++ [y]) ++ twoP (La.drop (i)) (Lb.drop (j + 1)) := by rw [HX.out, two_b hy (.inl hae), List.append_assoc]; rfl
        have HX2 := Lib.hid hx2
        have HCP := Lib.hid (fun (W : World) (hW : Keeps wr W) => rCopy_any _ _ _ _ y W (HCy.out.keep hW) (by have := HEy.out.2; omega) (by have := HEy.out.1.1; omega) (by have := HEy.out.1.2.1; omega) (by have := HEy.out.1.2.2; omega))
        rw [← Hgbc.out] at HCP
        clear hx2 hy
        go_wp2_with fail
        refine (HCP.out _ (Keeps.refl _)).mono ?_
        rintro e w1 ⟨k', s', n', m', rfl, hco, hb1⟩
        obtain ⟨⟨A1, q1, g1, -⟩, ⟨A2, q2, g2, -⟩, ⟨A3, q3, g3, -⟩, ⟨A4, q4, g4, -⟩⟩ := And.intro hco.key.form (And.intro hco.sum.form (And.intro hco.mn.form hco.mx.form))
        subst g1 g2 g3 g4
        have hbw : Below wr.heap.size wr w1 := hb1
        obtain ⟨v', us', Y, hrun, hG', hul', hbY⟩ := two_put (HG.out.below hbw) (hco.mono Hb.out.size) HIy.out (by omega) (Nat.le_trans Hb.out.size hbw.size)
        rw [← Hgbc.out] at hrun
        have Hrun := Lib.hid hrun
        have HG' := Lib.hid hG'
        have HBY := Lib.hid ((Hb.out.trans (hbw.mono Hb.out.size)).trans hbY)
        clear hco hb1 hbw hrun hG' hbY HCP
        go_wp2_with (first | (at_builtin; have _t := Hrun; refine wpList_append_eq rfl (.tmp 72) (.tmp 78) 31 rfl _ _ _ _ rfl rfl Hrun.out ?_; clear _t Hrun) | fail)
        go_roundw
        case rel => exact ⟨i, j + 1, us', K ++ [y], by go_num, by go_num, by omega, by omega, HX2.out, HG'.out, by omega, HBY.out⟩
        case measure => simp [intOf]; omega
      · have hjM : j = M := by omega
        have hbe : Lb.drop j = [] := List.drop_eq_nil_iff.2 (by rw [← HM.out]; omega)
        have d1 : decide ((i : Int) < (N : Int)) = false := decide_eq_false (by omega)
        have d2 : decide ((j : Int) < (M : Int)) = false := decide_eq_false (by omega)
        have d3 : decide (i < N) = false := decide_eq_false (by omega)
        have d4 : decide (j < M) = false := decide_eq_false (by omega)
        have hfin : twoP La Lb = K := by rw [HX.out, hae, hbe, twoP_nil, List.append_nil]
        have HF := Lib.hid hfin
        clear hfin hae hbe hA hB hiN hjM
        go_wp2
        go_ret
        exact ⟨_, us, rfl, by rw [HF.out]; exact HG.out, Hb.out⟩
end Go.Proofs.Ytmolfcccfekcpaa
/- A row of runs that read in an elder world, or are the call's own. -/
namespace Go.Proofs.Ytmolfcccfekcpaa
open Go.RowKit Go.Shelf
theorem OI.rowM {B B' : Nat} {X Y : World} {v w : Value} {xs : List Int} {n : Nat} {ys : List Value} (h : OI B X w xs) (ho : X.ownsRow B' 31 1 v n ys) (hg : X.grownBy Y v.ownBlock) : OI B Y w xs :=
  ⟨own_stay h.1 fun k hk => hg.block k (h.1.lt k hk).2 fun e => by
    rcases own_apart h.1 ho (by decide) with h0 | h0
    · rw [h0] at hk; cases hk
    · exact h0 (by rw [hk, e]), h.2⟩
theorem GRs.rowM {B B' : Nat} {X Y : World} {v w : Value} {us : List V5} {J : List Cel} {n : Nat} {ys : List Value} (h : GRs B X w us J) (ho : X.ownsRow B' 31 1 v n ys) (hg : X.grownBy Y v.ownBlock) : GRs B Y w us J :=
  ⟨own_stay h.1 fun k hk => hg.block k (h.1.lt k hk).2 fun e => by
    rcases own_apart h.1 ho (by decide) with h0 | h0
    · rw [h0] at hk; cases hk
    · exact h0 (by rw [hk, e]), h.2.stay fun o => o.rowM ho hg⟩
/-- A run: as of old, or the call's own. -/
def RV (w0 : World) (B : Nat) (X : World) (v : Value) (J : List Cel) : Prop := (∃ P c, v = .slice P J.length c ∧ RowC w0 P J.length J) ∨ ∃ us, GRs B X v us J
theorem RV.row {w0 X : World} {B : Nat} {v : Value} {J : List Cel} (h : RV w0 B X v J) (hb : Below w0.heap.size w0 X) : ∃ P c, v = .slice P J.length c ∧ RowC X P J.length J := by
  rcases h with ⟨P, c, e, hr⟩ | ⟨us, hG⟩
  · exact ⟨P, c, e, hr.keep (Keeps.of_below hb)⟩
  · obtain ⟨P, c, e, -⟩ := hG.form
    rw [hG.len] at e
    refine ⟨P, c, e, ?_⟩
    rw [e] at hG
    exact hG.rowC.1
theorem RV.below {w0 X Y : World} {B : Nat} {v : Value} {J : List Cel} (h : RV w0 B X v J) (hb : Below X.heap.size X Y) : RV w0 B Y v J := h.imp id fun ⟨us, hG⟩ => ⟨us, hG.below hb⟩
/-- A row of runs of the call's own. -/
def MG (w0 : World) (B : Nat) (X : World) (v : Value) (vals : List Value) (Js : List (List Cel)) : Prop :=
  X.ownsRow B 31 1 v vals.length vals ∧ vals.length = Js.length ∧ ∀ (i : Nat) u J, vals[i]? = some u → Js[i]? = some J → RV w0 B X u J
theorem MG.nil (w0 : World) (B : Nat) (X : World) : MG w0 B X (.slice none 0 0) [] [] := ⟨World.ownsRow_nil _ _ _ _, rfl, fun i u J hu => by cases hu⟩
theorem MG.below {w0 X Y : World} {B : Nat} {v : Value} {vals : List Value} {Js : List (List Cel)} (h : MG w0 B X v vals Js) (hb : Below X.heap.size X Y) : MG w0 B Y v vals Js :=
  ⟨own_below h.1 hb (Nat.le_refl _), h.2.1, fun i u J hu hJ => (h.2.2 i u J hu hJ).below hb⟩
theorem mg_more {w0 X : World} {B : Nat} {v u : Value} {vals : List Value} {Js : List (List Cel)} {J : List Cel} (h : MG w0 B X v vals Js) (hu : RV w0 B X u J) (hl : Js.length + 1 ≤ 1000000) (hB : B ≤ X.heap.size) :
    ∃ v' Y, (Builtin.append_ #[29, 29] 29 #[v, .slice (some ⟨X.heap.size, 0, none⟩) 1 1]).run Try.prog (X.alloc (.cells #[u] 31)) = .ok v' Y ∧ MG w0 B Y v' (vals ++ [u]) (Js ++ [J]) ∧ Below B X Y := by
  have hb : Below X.heap.size X (X.alloc (.cells #[u] 31)) := (Below.refl _ _).alloc (Nat.le_refl _) _
  obtain ⟨i0, hi, hz0, hz1, hz2⟩ := info_parts infoSC
  have ho2 := own_below h.1 hb (Nat.le_refl _)
  have hone : u.oneCell' = true := by
    rcases hu with ⟨P, c, e, -⟩ | ⟨us, hG⟩
    · rw [e]; rfl
    · obtain ⟨P, c, e, -⟩ := hG.form
      rw [e]; rfl
  have hvl := h.2.1
  obtain ⟨v', Y, hrun, hr, hg, -, -⟩ := run_append_own_at (P := Try.prog) (X.alloc (.cells #[u] 31)) B 29 29 31 i0 _ 1 24 Try.underlying29 hi hz0 hz1 hz2 rfl (by omega) v vals.length vals ho2 ⟨X.heap.size, 0, none⟩ 1 1 [u] rfl
    (fun j w hw => by
      rw [add0, show (X.alloc (.cells #[u] 31)).cell? ⟨X.heap.size, j, none⟩ = #[u][j]? from cell_of_row _ _ _ _ 31 (0, 0) (heap_alloc_new X _)]
      simpa using hw) (by intro x hx; rw [List.mem_singleton] at hx; subst hx; exact hone) (by simp only [maxLen]; omega) (by omega) (by simp; omega)
  have stay : ∀ {p : Value} {K : List Cel}, RV w0 B X p K → RV w0 B Y p K := fun {p K} hp => hp.imp id fun ⟨us, hG⟩ => ⟨us, (hG.below hb).rowM ho2 hg⟩
  refine ⟨v', Y, hrun, ⟨by rw [List.length_append]; exact hr, by rw [List.length_append, List.length_append, h.2.1]; rfl, fun i p K hp hK => ?_⟩, ((Below.refl B X).alloc hB _).grown hg (by simp; omega) fun k hk => (h.1.lt k hk).1⟩
  rcases Nat.lt_or_ge i vals.length with hi' | hi'
  · rw [List.getElem?_append_left hi'] at hp
    rw [List.getElem?_append_left (by rw [← h.2.1]; exact hi')] at hK
    exact stay (h.2.2 i p K hp hK)
  · rw [List.getElem?_append_right hi'] at hp
    rw [List.getElem?_append_right (by rw [← h.2.1]; exact hi'), ← h.2.1] at hK
    have e0 : i - vals.length = 0 := by
      rcases Nat.eq_zero_or_pos (i - vals.length) with h0 | h0
      · exact h0
      · rw [List.getElem?_eq_none (by simp; omega)] at hp; cases hp
    rw [e0] at hp hK
    simp only [List.getElem?_cons_zero, Option.some.injEq] at hp hK
    subst hp hK
    exact stay hu
theorem MG.form {w0 X : World} {B : Nat} {v : Value} {vals : List Value} {Js : List (List Cel)} (h : MG w0 B X v vals Js) (hb : Below w0.heap.size w0 X) : ∃ P c, v = .slice P Js.length c ∧ 
    (0 < Js.length → ∃ ad, P = some ad ∧ ∀ i J, Js[i]? = some J → ∃ Pi ci, X.cell? (ad.add i) = some (.slice Pi J.length ci) ∧ RowC X Pi J.length J) := by
  obtain ⟨P, c, hv, -, -, h3⟩ := own_form h.1
  rw [h.2.1] at hv h3
  refine ⟨P, c, hv, fun hn => ?_⟩
  obtain ⟨g, rfl, -, q⟩ := h3 hn
  refine ⟨_, rfl, fun i J hJ => ?_⟩
  obtain ⟨u, hu⟩ : ∃ u, vals[i]? = some u := ⟨_, List.getElem?_eq_getElem (by rw [h.2.1]; exact (List.getElem?_eq_some_iff.1 hJ).1)⟩
  obtain ⟨Pi, ci, e, hr⟩ := (h.2.2 i u J hu hJ).row hb
  exact ⟨Pi, ci, by rw [add0, ← e]; exact q i u hu, hr⟩
end Go.Proofs.Ytmolfcccfekcpaa
/- Package merge: a heap of what is left of runs: Len, least. -/
namespace Go.Proofs.Ytmolfcccfekcpaa
open Go.RowKit Go.Shelf
attribute [local go_sem] Oper.semAt_some
set_option maxHeartbeats 1000000 in
theorem hdLen_any (h n c : Nat) (P : Option Addr) (F : Value) (w : World) (o : Own 86 w h [.slice P n c, F]) :
    Calls Try.prog 56 #[.pointer (some ⟨h, 0, none⟩)] w fun e w' => e = .returned (.int .i64 (n : Int)) ∧ w = w' := by
  have c0 := o.cell (i := 0) rfl
  go_enter Try.func56, Try.ntmps56
  go_wp2
  go_ret
  exact ⟨rfl, rfl⟩
set_option maxRecDepth 100000 in
set_option maxHeartbeats 2000000 in
/-- The first cell of the first run that is left. -/
theorem hdLeast_any (h g n c m q : Nat) (A : Addr) (F : Value) (vk vs vn vm : Value) (x : Cel) (w : World) (o : Own 86 w h [.slice (some ⟨g, 0, none⟩) n c, F]) (hn : 0 < n) (hg : w.cell? ⟨g, 0, none⟩ = some (.slice (some A) m q)) (hm : 0 < m)
    (a0 : w.cell? A = some vk) (a1 : w.cell? ⟨A.block, A.off + 1, none⟩ = some (.int .i64 x.cnt)) (a2 : w.cell? ⟨A.block, A.off + 2, none⟩ = some vs) (a3 : w.cell? ⟨A.block, A.off + 3, none⟩ = some vn) (a4 : w.cell? ⟨A.block, A.off + 4, none⟩ = some vm) (hx : CR w vk vs vn vm x) :
    Calls Try.prog 58 #[.pointer (some ⟨h, 0, none⟩)] w fun e w' => e = .returned (.agg #[vk, .int .i64 x.cnt, vs, vn, vm]) ∧ Below w.heap.size w w' := by
  have c0 := o.cell (i := 0) rfl
  obtain ⟨⟨Pk, ck, rfl, -⟩, ⟨Ps, cs, rfl, -⟩, ⟨Pn, cn, rfl, -⟩, ⟨Pm, cm, rfl, -⟩⟩ := hx
  obtain ⟨lk, hlk⟩ : ∃ z, z = x.key.length := ⟨_, rfl⟩
  obtain ⟨ls, hls⟩ : ∃ z, z = x.sum.length := ⟨_, rfl⟩
  obtain ⟨ln, hln⟩ : ∃ z, z = x.mn.length := ⟨_, rfl⟩
  obtain ⟨lm, hlm⟩ : ∃ z, z = x.mx.length := ⟨_, rfl⟩
  obtain ⟨xc, hxc⟩ : ∃ z, z = x.cnt := ⟨_, rfl⟩
  rw [← hlk] at a0 ⊢
  rw [← hxc] at a1 ⊢
  rw [← hls] at a2 ⊢
  rw [← hln] at a3 ⊢
  rw [← hlm] at a4 ⊢
  clear hlk hls hln hlm hxc
  go_enter Try.func58, Try.ntmps58
  go_upto_region 1 with (fail)
  obtain ⟨Z, hZ⟩ : ∃ Z, Z = w.alloc (.cells #[.slice none 0 0, .int .i64 0, .slice none 0 0, .slice none 0 0, .slice none 0 0] 44) := ⟨_, rfl⟩
  have oZ : Own 44 Z w.heap.size [.slice none 0 0, .int .i64 0, .slice none 0 0, .slice none 0 0, .slice none 0 0] := by rw [hZ]; exact heap_alloc_new w _
  have bZ : Below w.heap.size w Z := by rw [hZ]; exact (Below.refl _ _).alloc (Nat.le_refl _) _
  rw [← hZ]
  have kZ := Keeps.of_below bZ
  have c0' := kZ _ _ c0
  have hg' := kZ _ _ hg
  have b0 := kZ _ _ a0
  have b1 := kZ _ _ a1
  have b2 := kZ _ _ a2
  have b3 := kZ _ _ a3
  have b4 := kZ _ _ a4
  obtain ⟨f0, f1, f2, f3, f4⟩ := Own.bx oZ
  have z0 := oZ.frozen 0
  have z1 := oZ.frozen 1
  have z2 := oZ.frozen 2
  have z3 := oZ.frozen 3
  have z4 := oZ.frozen 4
  have o2 := ((((oZ.set_ 0 (.slice Pk lk ck)).set_ 1 (.int .i64 xc)).set_ 2 (.slice Ps ls cs)).set_ 3 (.slice Pn ln cn)).set_ 4 (.slice Pm lm cm)
  have R0 := Lib.hid (o2.cell (i := 0) rfl)
  have R1 := Lib.hid (o2.cell (i := 1) rfl)
  have R2 := Lib.hid (o2.cell (i := 2) rfl)
  have R3 := Lib.hid (o2.cell (i := 3) rfl)
  have R4 := Lib.hid (o2.cell (i := 4) rfl)
  have HB := Lib.hid (((((bZ.setCell (p := ⟨w.heap.size, 0, none⟩) (Nat.le_refl _) (.slice Pk lk ck)).setCell (p := ⟨w.heap.size, 1, none⟩) (Nat.le_refl _) (.int .i64 xc)).setCell (p := ⟨w.heap.size, 2, none⟩) (Nat.le_refl _) (.slice Ps ls cs)).setCell (p := ⟨w.heap.size, 3, none⟩) (Nat.le_refl _) (.slice Pn ln cn)).setCell (p := ⟨w.heap.size, 4, none⟩) (Nat.le_refl _) (.slice Pm lm cm))
  clear hZ oZ bZ kZ o2 c0 hg a0 a1 a2 a3 a4
  go_wp2
  have r0 := R0.out
  have r1 := R1.out
  have r2 := R2.out
  have r3 := R3.out
  have r4 := R4.out
  exact bodyPost_ret (v := .agg #[.slice Pk lk ck, .int .i64 xc, .slice Ps ls cs, .slice Pn ln cn, .slice Pm lm cm]) (by simp [results, Try.results58, go_sem, r0, r1, r2, r3, r4]) rfl ⟨rfl, HB.out⟩
end Go.Proofs.Ytmolfcccfekcpaa
/- Package merge: even. -/
namespace Go.Proofs.Ytmolfcccfekcpaa
open Go.RowKit Go.Shelf
attribute [local go_sem] Oper.semAt_some
set_option maxRecDepth 100000 in
set_option maxHeartbeats 4000000 in
theorem meven_any (ad : Addr) (c : Nat) (l : List Cel) (me : Nat) (w : World) (hl : CellsR w ad l) (he : ∀ x ∈ l, EvenC me x) (_hm : me ≤ 1000000) (hn : l.length ≤ 1000000) :
    Calls Try.prog 44 #[.slice (some ad) l.length c] w fun e w' => e = .returned (.bool true) ∧ Below w.heap.size w w' := by
  obtain ⟨N, hN⟩ : ∃ N, N = l.length := ⟨_, rfl⟩
  rw [← hN] at hn ⊢
  have HN := Lib.hid hN
  have Hl := Lib.hid hl
  have He := Lib.hid he
  clear hN hl he
  go_enter Try.func44, Try.ntmps44
  go_wp2_with fail
  go_loopw [8] (fun i wr => ∃ k : Nat, k ≤ N ∧ i = .int .i64 k ∧ Below w.heap.size w wr) (fun i _ => N - (intOf i).toNat)
  case atStart => exact ⟨0, by omega, rfl, Below.refl _ _⟩
  case round =>
    obtain ⟨k, hk, rfl, hb⟩ := hrel
    rename World => wr
    have Hb := Lib.hid hb
    clear hb
    by_cases hlt : k < N
    · obtain ⟨x, hx⟩ : ∃ x, l[k]? = some x := ⟨_, List.getElem?_eq_getElem (by have := HN.out; omega)⟩
      obtain ⟨y, hy⟩ : ∃ y, l[0]? = some y := ⟨_, List.getElem?_eq_getElem (by have := HN.out; omega)⟩
      obtain ⟨ex1, ex2, ex3⟩ := He.out x (List.mem_of_getElem? hx)
      obtain ⟨ey1, _, _⟩ := He.out y (List.mem_of_getElem? hy)
      obtain ⟨vk, vs, vn, vm, a0, a1, a2, a3, a4, ⟨⟨Pk, ck, rfl, _⟩, ⟨Ps, cs, rfl, _⟩, ⟨Pn, cn, rfl, _⟩, ⟨Pm, cm, rfl, _⟩⟩, _⟩ := (Hl.out k x hx).keep (Keeps.of_below Hb.out)
      have hy0 := (Hl.out 0 y hy).keep (Keeps.of_below Hb.out)
      rw [show ad.add (0 * 5) = ad from by simp [Addr.add]] at hy0
      obtain ⟨uk, us, un, um, c0, c1, c2, c3, c4, ⟨⟨Qk, dk, rfl, _⟩, ⟨Qs, ds, rfl, _⟩, ⟨Qn, dn, rfl, _⟩, ⟨Qm, dm, rfl, _⟩⟩, _⟩ := hy0
      rw [ex1] at a2
      rw [ex2] at a3
      rw [ex3] at a4
      rw [ey1] at c2
      have hbx := Below.alloc Hb.out Hb.out.size (.cells #[.slice Pk x.key.length ck, .int .i64 x.cnt, .slice Ps me cs, .slice Pn me cn, .slice Pm me cm] 44)
      have c2' : (wr.alloc (.cells #[.slice Pk x.key.length ck, .int .i64 x.cnt, .slice Ps me cs, .slice Pn me cn, .slice Pm me cm] 44)).cell? ⟨ad.block, ad.off + 2, none⟩ = some (.slice Qs me ds) := ((Keeps.refl wr).alloc _) _ _ c2
      have Hbx := Lib.hid hbx
      have i0 : (0 : Int) ≤ (k : Int) := by omega
      have i1 : (k : Int) < (N : Int) := by omega
      have d1 : decide (k < N) = true := by simp; omega
      have q0 : 0 < N := by omega
      have q1 : (0 : Int) < (N : Int) := by omega
      generalize x.key.length = lk at *
      generalize x.cnt = cnt at *
      clear hx hy ex1 ex2 ex3 ey1 hbx c0 c1 c3 c4
      go_wp2
      go_roundw
      case rel => exact ⟨k + 1, by omega, by go_num, Hbx.out⟩
      case measure => simp [intOf]; omega
    · obtain rfl : k = N := by omega
      have d1 : decide (k < k) = false := by simp
      go_wp2
      go_ret
      exact ⟨rfl, Hb.out⟩
set_option maxHeartbeats 2000000 in
theorem meven_none (P : Option Addr) (c : Nat) (w : World) :
    Calls Try.prog 44 #[.slice P 0 c] w fun e w' => e = .returned (.bool true) ∧ Below w.heap.size w w' := by
  obtain ⟨N, hN⟩ : ∃ N, N = 0 := ⟨_, rfl⟩
  rw [← hN]
  have HN := Lib.hid hN
  clear hN
  go_enter Try.func44, Try.ntmps44
  go_wp2_with fail
  go_loopw [8] (fun i wr => i = .int .i64 (0 : Nat) ∧ Below w.heap.size w wr) (fun i _ => 0)
  case atStart => exact ⟨rfl, Below.refl _ _⟩
  case round =>
    obtain ⟨rfl, hb⟩ := hrel
    rename World => wr
    have Hb := Lib.hid hb
    clear hb
    obtain rfl := HN.out
    have d1 : decide ((0 : Int) < ((0 : Nat) : Int)) = false := rfl
    go_wp2
    go_ret
    exact ⟨rfl, Hb.out⟩
end Go.Proofs.Ytmolfcccfekcpaa
