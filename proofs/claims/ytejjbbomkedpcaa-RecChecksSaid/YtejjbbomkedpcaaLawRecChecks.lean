/- The walk of the law RecChecks: the Go text returns true, and writes nothing that was there. -/
import Derived.Test.YtejjbbomkedpcaaFactsLaw
import Derived.Test.YtejjbbomkedpcaaFew
import Derived.Test.YtejjbbomkedpcaaRefCheck
import Derived.Test.YtejjbbomkedpcaaWithin
import Derived.Test.YtejjbbomkedpcaaRegion
import Derived.Test.YtejjbbomkedpcaaAnyRow
import Derived.Test.YtejjbbomkedpcaaBagPut
import Derived.Deep.CutRange
import Derived.Deep.DeepCutAuto
import Derived.Deep.CutBlock
namespace Go.Proofs.Ytejjbbomkedpcaa
open Go.RowKit
set_option maxRecDepth 100000 in
set_option maxHeartbeats 2000000 in
theorem checks_walk (A0 : Option Addr) (n0 c0 : Nat) (cs0 : List Int) (me0 : Int) (A1 : Option Addr) (n1 c1 : Nat) (l1 : List Fact) (a2 : Int) (a3 : Option Addr) (len3 cap3 : Nat) (z3 : List Int) (a4 : Int) (a5 : Option Addr) (len5 cap5 : Nat) (z5 : List Int) (a6 a7 : Int) (w : World)
    (hA0 : Nums .i64 w A0 n0 cs0) (hn0 : n0 ≤ 9223372036854775807) (hme : inK .i64 me0) (hF1 : Facts w A1 n1 l1) (hn1 : n1 ≤ 9223372036854775807) (hl1 : ∀ r ∈ l1, r.key.length ≤ 9223372036854775807 ∧ r.m.length ≤ 9223372036854775807)
    (h2 : inK .i64 a2) (w3 : IsRow .i64 w a3 len3 cap3 z3) (h4 : inK .i64 a4) (w5 : IsRow .i64 w a5 len5 cap5 z5) (h6 : inK .i64 a6) (h7 : inK .i64 a7) :
    Calls Try.prog 3 #[.agg #[.slice A0 n0 c0, .int .i64 me0], .slice A1 n1 c1, .int .i64 a2, .slice a3 len3 cap3, .int .i64 a4, .slice a5 len5 cap5, .int .i64 a6, .int .i64 a7] w fun e w' => e = .returned (.bool true) ∧ Below w.heap.size w w' := by
  obtain ⟨n3, lc3, cm3⟩ := w3.nums
  obtain ⟨n5, lc5, cm5⟩ := w5.nums
  have N3 := Lib.hid n3
  have N5 := Lib.hid n5
  have H2 := Lib.hid h2
  have H4 := Lib.hid h4
  have H6 := Lib.hid h6
  have H7 := Lib.hid h7
  have Hme := Lib.hid hme
  have hb0 := (Below.refl w.heap.size w).alloc (Nat.le_refl _) (.cells #[.slice A0 n0 c0, .int .i64 me0] 24)
  have hx0 := Box2.new w 24 (.slice A0 n0 c0) (.int .i64 me0)
  have HA0 := Lib.hid hA0
  have HF1 := Lib.hid hF1
  have Hl1 := Lib.hid hl1
  have Hb0 := Lib.hid hb0
  have Hx0 := Lib.hid hx0
  clear w3 w5 n3 n5 h2 h4 h6 h7 hme hA0 hF1 hl1 hb0 hx0
  go_enter Try.func3, Try.ntmps3
  go_wp2_with fail
  obtain ⟨T0, hT0⟩ : ∃ T0, T0 = w.heap.size := ⟨_, rfl⟩
  have hT0' : T0 < (w.alloc (.cells #[.slice A0 n0 c0, .int .i64 me0] 24)).heap.size := by simp [hT0]
  rw [← hT0] at Hx0 ⊢
  have HT0 := Lib.hid hT0
  clear hT0
  generalize w.alloc _ = w1 at Hb0 Hx0 hT0' ⊢
  refine (known_any w1).mono ?_
  rintro e w2 ⟨rfl, hb1⟩
  have hx1 := Hx0.out.below hb1 hT0'
  have s0 := hx1.cell0
  have s1 := hx1.cell1
  have Hb2 := Lib.hid (Hb0.out.trans (hb1.mono Hb0.out.size))
  have Hx1 := Lib.hid hx1
  have hT2 : T0 < w2.heap.size := hx1.lt
  clear hb1 hx1 hT0' Hb0 Hx0
  go_wp2_with fail
  refine (Few_any A0 A1 n0 c0 n1 c1 me0 l1 w2 (HF1.out.keep (Keeps.of_below Hb2.out)) hn0 hn1 Hl1.out).mono ?_
  rintro e w3 ⟨rfl, hb3⟩
  have hx3 := Hx1.out.below hb3 hT2
  have Hb3 := Lib.hid (Hb2.out.trans (hb3.mono Hb2.out.size))
  have Hx3 := Lib.hid hx3
  have hT3 : T0 < w3.heap.size := hx3.lt
  clear hb3 hx3 hT2 Hb2 Hx1 s0 s1
  cases hfw : fewB n0 l1 with
  | false =>
    go_wp2
    go_ret
    exact ⟨rfl, Hb3.out⟩
  | true =>
  have hfw' := fewB_spec hfw
  obtain ⟨f1, f2, f3⟩ := hfw'
  have f2' : n1 ≤ 60 := by rw [← HF1.out.1]; exact f2
  have Hf3 := Lib.hid f3
  clear hfw f3 f2 hn0 hn1
  go_wp2_with fail
  refine (Facts_res a2 a4 a3 a5 len3 cap3 len5 cap5 _ _ w3 (N3.out.keep (Keeps.of_below Hb3.out)) (N5.out.keep (Keeps.of_below Hb3.out)) (by omega) (by omega) H2.out H4.out).mono ?_
  rintro e w4 ⟨A, c, D, d, C, q, mm, m, cs, l, rfl, hF⟩
  have F := Lib.hid hF
  obtain ⟨k1, k2, k3, k4⟩ : 1 ≤ q ∧ q ≤ 4 ∧ mm ≤ 2 ∧ m ≤ 40 := ⟨hF.q1, hF.q4, hF.m2, hF.m40⟩
  have hck : checkB cs (mm : Int) = true := by rw [hF.ecs, hF.emm]; exact fCards_check _ _ _
  have Hck := Lib.hid hck
  clear hF hck
  go_upto_region 6 with (fail)
  have hs := Box2.new w4 24 (.slice A q c) (.int .i64 mm)
  have hb := (Below.refl w4.heap.size w4).alloc (Nat.le_refl _) (.cells #[.slice A q c, .int .i64 mm] 24)
  obtain ⟨S, hS⟩ : ∃ S, S = w4.heap.size := ⟨_, rfl⟩
  have h4 : Below w3.heap.size w3 (w4.alloc (.cells #[.slice A q c, .int .i64 mm] 24)) := F.out.below.trans (hb.mono F.out.below.size)
  have hx5 := Hx3.out.below h4 hT3
  have hn5 := F.out.nums.keep (Keeps.of_below hb)
  have hf5 := F.out.facts.keep (Keeps.of_below hb)
  have ho5 := own_below F.out.own hb (Nat.le_refl _)
  have Hb5 := Lib.hid (Hb3.out.trans (h4.mono Hb3.out.size))
  rw [← hS] at hs
  have HS := Lib.hid hS
  have Hs5 := Lib.hid hs
  have Hx5 := Lib.hid hx5
  have Hn5 := Lib.hid hn5
  have Hf5 := Lib.hid hf5
  have Ho5 := Lib.hid ho5
  have hS5 : S < (w4.alloc (.cells #[.slice A q c, .int .i64 mm] 24)).heap.size := by simp [hS]
  have hS3 : w3.heap.size ≤ S := by rw [hS]; exact F.out.below.size
  have hw3 : w.heap.size ≤ w3.heap.size := Hb3.out.size
  clear hs hb h4 hx5 hn5 hf5 ho5 Hb3 Hx3 hS
  rw [← HS.out]
  generalize w4.alloc _ = w5 at Hb5 Hs5 Hx5 Hn5 Hf5 Ho5 hS5 ⊢
  have HA5 := Lib.hid (HA0.out.keep (Keeps.of_below Hb5.out))
  have HF5 := Lib.hid (HF1.out.keep (Keeps.of_below Hb5.out))
  have c0' := Hx5.out.cell0
  have c1' := Hx5.out.cell1
  have b0 := Hs5.out.cell0
  have b1 := Hs5.out.cell1
  obtain ⟨bb, hbb⟩ : ∃ bb, bb = checkB cs0 me0 := ⟨_, rfl⟩
  have Hbb := Lib.hid hbb
  clear hbb
  go_cut [45] from 36 to 45 (fun t wx => t = .bool false ∧ Below w5.heap.size w5 wx)
  case first =>
    refine wp_region_held_drew (S := fun W => Keeps w5 W) (by kernel_rfl) ((Keeps.refl w5).drewN 1) (fun hHeld => ?_)
    refine wpAnyH_take (i := 0) (v := ?va0) rfl (by kernel_rfl) (by kernel_rfl) (by kernel_rfl) (fun _ _ _ h => h) (Or.inl ⟨by rfl, ?ya0⟩) hHeld ?ra0
    case ya0 => (intro W hW; have h0 := hW _ _ b0; have h1 := hW _ _ b1; have h2 := hW _ _ c0'; have h3 := hW _ _ c1'; go_simp; first | done | with_reducible rfl)
    try simp only [List.getElem_toArray, List.getElem_cons_zero, Act.put, List.setIfInBounds_toArray, List.set_cons_zero, List.set_cons_succ]
    refine wpAnyH_ready (rs := [1]) (by kernel_rfl) (by simp) ?_
    refine AllReadyH.cons rfl (fun K hK => ?_) AllReadyH.nil
    go_simp
    refine (Check_any A q c cs (mm : Int) _ (by exact Hn5.out) (by omega) (by constructor <;> omega)).mono ?_
    rintro e w6 ⟨rfl, hb6⟩
    have hk6 : Keeps w5 w6 := (show Keeps w5.drew w6 from Keeps.of_below hb6)
    rw [Hck.out]
    go_wp2_with fail
    refine hK.out _ _ ?_ (fun hHeld => ?_)
    · exact hk6
    clear hK K
    try simp only [List.getElem_toArray, List.getElem_cons_succ, List.getElem_cons_zero, Act.put, List.setIfInBounds_toArray, List.set_cons_zero, List.set_cons_succ]
    refine wpAnyH_take (i := 2) (v := ?va2) rfl (by kernel_rfl) (by kernel_rfl) (by kernel_rfl) (fun _ _ _ h => h) (Or.inl ⟨by rfl, ?ya2⟩) hHeld ?ra2
    case ya2 => (intro W hW; go_simp; first | done | with_reducible rfl)
    try simp only [List.getElem_toArray, List.getElem_cons_succ, List.getElem_cons_zero, Act.put, List.setIfInBounds_toArray, List.set_cons_zero, List.set_cons_succ]
    refine wpAnyH_take (i := 3) (v := ?va3) rfl (by kernel_rfl) (by kernel_rfl) (by kernel_rfl) (fun _ _ _ h => h) (Or.inl ⟨by rfl, ?ya3⟩) hHeld ?ra3
    case ya3 => (intro W hW; go_simp; first | done | with_reducible rfl)
    try simp only [List.getElem_toArray, List.getElem_cons_succ, List.getElem_cons_zero, Act.put, List.setIfInBounds_toArray, List.set_cons_zero, List.set_cons_succ]
    refine wpAnyH_take (i := 4) (v := ?va4) rfl (by kernel_rfl) (by kernel_rfl) (by kernel_rfl) (fun _ _ _ h => h) (Or.inl ⟨by rfl, ?ya4⟩) hHeld ?ra4
    case ya4 => (intro W hW; have h0 := hW _ _ b0; have h1 := hW _ _ b1; have h2 := hW _ _ c0'; have h3 := hW _ _ c1'; go_simp; first | done | with_reducible rfl)
    try simp only [List.getElem_toArray, List.getElem_cons_succ, List.getElem_cons_zero, Act.put, List.setIfInBounds_toArray, List.set_cons_zero, List.set_cons_succ]
    refine wpAnyH_take (i := 6) (v := ?va6) rfl (by kernel_rfl) (by kernel_rfl) (by kernel_rfl) (fun _ _ _ h => h) (Or.inl ⟨by rfl, ?ya6⟩) hHeld ?ra6
    case ya6 => (intro W hW; have h0 := hW _ _ b0; have h1 := hW _ _ b1; have h2 := hW _ _ c0'; have h3 := hW _ _ c1'; go_simp; first | done | with_reducible rfl)
    try simp only [List.getElem_toArray, List.getElem_cons_succ, List.getElem_cons_zero, Act.put, List.setIfInBounds_toArray, List.set_cons_zero, List.set_cons_succ]
    refine wpAnyH_ready (rs := [5]) (by kernel_rfl) (by simp) ?_
    refine AllReadyH.cons rfl (fun K hK => ?_) AllReadyH.nil
    go_simp
    refine (Check_any A0 n0 c0 cs0 me0 _ (by exact HA5.out.keep hk6) (by omega) Hme.out).mono ?_
    rintro e w7 ⟨rfl, hb7⟩
    have hk7 : Keeps w5 w7 := hk6.trans (Keeps.of_below hb7)
    rw [← Hbb.out]
    go_wp2_with fail
    refine hK.out _ _ ?_ (fun hHeld => ?_)
    · exact hk7
    clear hK K
    try simp only [List.getElem_toArray, List.getElem_cons_succ, List.getElem_cons_zero, Act.put, List.setIfInBounds_toArray, List.set_cons_zero, List.set_cons_succ]
    refine wpAnyH_ready (rs := [7]) (by kernel_rfl) (by simp) ?_
    refine AllReadyH.cons rfl (fun K hK => ?_) AllReadyH.nil
    go_simp
    refine (rCheck_any A0 n0 c0 cs0 me0 _ (by exact HA5.out.keep hk7) (by omega) Hme.out).mono ?_
    rintro e w8 ⟨rfl, hb8⟩
    have hk8 : Keeps w5 w8 := hk7.trans (Keeps.of_below hb8)
    rw [← Hbb.out]
    go_wp2_with fail
    refine hK.out _ _ ?_ (fun hHeld => ?_)
    · exact hk8
    clear hK K
    try simp only [List.getElem_toArray, List.getElem_cons_succ, List.getElem_cons_zero, Act.put, List.setIfInBounds_toArray, List.set_cons_zero, List.set_cons_succ]
    refine wpAnyH_take (i := 8) (v := ?va8) rfl (by kernel_rfl) (by kernel_rfl) (by kernel_rfl) (fun _ _ _ h => h) (Or.inl ⟨by rfl, ?ya8⟩) hHeld ?ra8
    case ya8 => (intro W hW; go_simp; first | done | with_reducible rfl)
    try simp only [List.getElem_toArray, List.getElem_cons_succ, List.getElem_cons_zero, Act.put, List.setIfInBounds_toArray, List.set_cons_zero, List.set_cons_succ]
    refine wpAnyH_take (i := 9) (v := ?va9) rfl (by kernel_rfl) (by kernel_rfl) (by kernel_rfl) (fun _ _ _ h => h) (Or.inl ⟨by rfl, ?ya9⟩) hHeld ?ra9
    case ya9 => (intro W hW; go_simp; first | done | with_reducible rfl)
    try simp only [List.getElem_toArray, List.getElem_cons_succ, List.getElem_cons_zero, Act.put, List.setIfInBounds_toArray, List.set_cons_zero, List.set_cons_succ]
    refine wpAnyH_done (by kernel_rfl) ?_ _
    have b6 : Below w5.heap.size w5 w6 := (below_drewN (Below.refl _ _) 1).trans hb6
    have b7 := b6.trans (hb7.mono b6.size)
    have b8 := b7.trans (hb8.mono b7.size)
    have B8 := Lib.hid b8
    clear hb6 hb7 hb8 b6 b7 b8 hk6 hk7 hk8
    go_wp2_with fail
    go_meet
    exact ⟨rfl, B8.out⟩
  case rest =>
  obtain ⟨rfl, hcut⟩ := hcut
  rename World => w6
  have Hc6 := Lib.hid hcut
  clear hcut
  go_wp2_with fail
  go_loopw [19] (fun i wr => ∃ k : Nat, k ≤ n1 ∧ i = .int .i64 k ∧ Below w5.heap.size w5 wr) (fun i _ => n1 - (intOf i).toNat)
  case atStart => exact ⟨0, by omega, rfl, Hc6.out⟩
  case round =>
    obtain ⟨k, hk, rfl, hb⟩ := hrel
    rename World => wr
    have Hb := Lib.hid hb
    clear hb
    have hsr := Hs5.out.below Hb.out hS5
    have b0 := hsr.cell0
    have b1 := hsr.cell1
    clear hsr
    by_cases hlt : k < n1
    · obtain ⟨ad, r, rfl, hrk, Ak, ck, Am, cm, r0, r1, hK, hM⟩ := (HF5.out.keep (Keeps.of_below Hb.out)).at_ hlt
      obtain ⟨f4, f5⟩ := Hf3.out r (List.mem_of_getElem? hrk)
      obtain ⟨nk, hnk⟩ : ∃ nk, nk = r.key.length := ⟨_, rfl⟩
      obtain ⟨nm, hnm⟩ : ∃ nm, nm = r.m.length := ⟨_, rfl⟩
      rw [← hnk] at r0 hK f4
      rw [← hnm] at r1 hM f5
      obtain ⟨tt, htt⟩ : ∃ tt, tt = rightB cs (mm : Int) r := ⟨_, rfl⟩
      have HK := Lib.hid hK
      have HM := Lib.hid hM
      have HN := Lib.hid (Hn5.out.keep (Keeps.of_below Hb.out))
      have Htt := Lib.hid htt
      have hk0 : (0 : Int) ≤ (k : Int) := by omega
      have hk1 : (k : Int) < (n1 : Int) := by omega
      clear hrk hK hM htt hnk hnm c0' c1'
      go_wp2_with fail
      refine wp_region_held_drew (S := fun W => Keeps wr W) (by kernel_rfl) ((Keeps.refl wr).drewN 1) (fun hHeld => ?_)
      refine wpAnyH_take (i := 0) (v := ?vb0) rfl (by kernel_rfl) (by kernel_rfl) (by kernel_rfl) (fun _ _ _ h => h) (Or.inl ⟨by rfl, ?yb0⟩) hHeld ?rb0
      case yb0 => (intro W hW; have h0 := hW _ _ b0; have h1 := hW _ _ b1; have h2 := hW _ _ r0; have h3 := hW _ _ r1; go_simp; first | done | with_reducible rfl)
      try simp only [List.getElem_toArray, List.getElem_cons_zero, Act.put, List.setIfInBounds_toArray, List.set_cons_zero, List.set_cons_succ]
      refine wpAnyH_take (i := 1) (v := ?vb1) rfl (by kernel_rfl) (by kernel_rfl) (by kernel_rfl) (fun _ _ _ h => h) (Or.inl ⟨by rfl, ?yb1⟩) hHeld ?rb1
      case yb1 => (intro W hW; go_simp; first | done | with_reducible rfl)
      try simp only [List.getElem_toArray, List.getElem_cons_succ, List.getElem_cons_zero, Act.put, List.setIfInBounds_toArray, List.set_cons_zero, List.set_cons_succ]
      refine wpAnyH_take (i := 2) (v := ?vb2) rfl (by kernel_rfl) (by kernel_rfl) (by kernel_rfl) (fun _ _ _ h => h) (Or.inl ⟨by rfl, ?yb2⟩) hHeld ?rb2
      case yb2 => (intro W hW; go_simp; first | done | with_reducible rfl)
      try simp only [List.getElem_toArray, List.getElem_cons_succ, List.getElem_cons_zero, Act.put, List.setIfInBounds_toArray, List.set_cons_zero, List.set_cons_succ]
      refine wpAnyH_take (i := 3) (v := ?vb3) rfl (by kernel_rfl) (by kernel_rfl) (by kernel_rfl) (fun _ _ _ h => h) (Or.inl ⟨by rfl, ?yb3⟩) hHeld ?rb3
      case yb3 => (intro W hW; go_simp; first | done | with_reducible rfl)
      try simp only [List.getElem_toArray, List.getElem_cons_succ, List.getElem_cons_zero, Act.put, List.setIfInBounds_toArray, List.set_cons_zero, List.set_cons_succ]
      refine wpAnyH_take (i := 4) (v := ?vb4) rfl (by kernel_rfl) (by kernel_rfl) (by kernel_rfl) (fun _ _ _ h => h) (Or.inl ⟨by rfl, ?yb4⟩) hHeld ?rb4
      case yb4 => (intro W hW; have h0 := hW _ _ b0; have h1 := hW _ _ b1; have h2 := hW _ _ r0; have h3 := hW _ _ r1; go_simp; first | done | with_reducible rfl)
      try simp only [List.getElem_toArray, List.getElem_cons_succ, List.getElem_cons_zero, Act.put, List.setIfInBounds_toArray, List.set_cons_zero, List.set_cons_succ]
      refine wpAnyH_take (i := 6) (v := ?vb6) rfl (by kernel_rfl) (by kernel_rfl) (by kernel_rfl) (fun _ _ _ h => h) (Or.inl ⟨by rfl, ?yb6⟩) hHeld ?rb6
      case yb6 => (intro W hW; have h0 := hW _ _ b0; have h1 := hW _ _ b1; have h2 := hW _ _ r0; have h3 := hW _ _ r1; go_simp; first | done | with_reducible rfl)
      try simp only [List.getElem_toArray, List.getElem_cons_succ, List.getElem_cons_zero, Act.put, List.setIfInBounds_toArray, List.set_cons_zero, List.set_cons_succ]
      refine wpAnyH_take (i := 7) (v := ?vb7) rfl (by kernel_rfl) (by kernel_rfl) (by kernel_rfl) (fun _ _ _ h => h) (Or.inl ⟨by rfl, ?yb7⟩) hHeld ?rb7
      case yb7 => (intro W hW; go_simp; first | done | with_reducible rfl)
      try simp only [List.getElem_toArray, List.getElem_cons_succ, List.getElem_cons_zero, Act.put, List.setIfInBounds_toArray, List.set_cons_zero, List.set_cons_succ]
      refine wpAnyH_take (i := 8) (v := ?vb8) rfl (by kernel_rfl) (by kernel_rfl) (by kernel_rfl) (fun _ _ _ h => h) (Or.inl ⟨by rfl, ?yb8⟩) hHeld ?rb8
      case yb8 => (intro W hW; go_simp; first | done | with_reducible rfl)
      try simp only [List.getElem_toArray, List.getElem_cons_succ, List.getElem_cons_zero, Act.put, List.setIfInBounds_toArray, List.set_cons_zero, List.set_cons_succ]
      refine wpAnyH_take (i := 9) (v := ?vb9) rfl (by kernel_rfl) (by kernel_rfl) (by kernel_rfl) (fun _ _ _ h => h) (Or.inl ⟨by rfl, ?yb9⟩) hHeld ?rb9
      case yb9 => (intro W hW; go_simp; first | done | with_reducible rfl)
      try simp only [List.getElem_toArray, List.getElem_cons_succ, List.getElem_cons_zero, Act.put, List.setIfInBounds_toArray, List.set_cons_zero, List.set_cons_succ]
      refine wpAnyH_take (i := 10) (v := ?vb10) rfl (by kernel_rfl) (by kernel_rfl) (by kernel_rfl) (fun _ _ _ h => h) (Or.inl ⟨by rfl, ?yb10⟩) hHeld ?rb10
      case yb10 => (intro W hW; have h0 := hW _ _ b0; have h1 := hW _ _ b1; have h2 := hW _ _ r0; have h3 := hW _ _ r1; go_simp; first | done | with_reducible rfl)
      try simp only [List.getElem_toArray, List.getElem_cons_succ, List.getElem_cons_zero, Act.put, List.setIfInBounds_toArray, List.set_cons_zero, List.set_cons_succ]
      refine wpAnyH_ready (rs := [5]) (by kernel_rfl) (by simp) ?_
      refine AllReadyH.cons rfl (fun K hK => ?_) AllReadyH.nil
      go_simp
      refine (Right_any A Ak Am q c nk ck nm cm cs (mm : Int) r _ (by exact HN.out) (by exact HK.out) (by exact HM.out) (by omega) (by omega) (by omega) (by constructor <;> omega)).mono ?_
      rintro e w7 ⟨rfl, hb7⟩
      have hk7 : Keeps wr w7 := (show Keeps wr.drew w7 from Keeps.of_below hb7)
      rw [← Htt.out]
      go_wp2_with fail
      refine hK.out _ _ ?_ (fun hHeld => ?_)
      · exact hk7
      clear hK K
      try simp only [List.getElem_toArray, List.getElem_cons_succ, List.getElem_cons_zero, Act.put, List.setIfInBounds_toArray, List.set_cons_zero, List.set_cons_succ]
      refine wpAnyH_ready (rs := [11]) (by kernel_rfl) (by simp) ?_
      refine AllReadyH.cons rfl (fun K hK => ?_) AllReadyH.nil
      go_simp
      refine (rRight_any A Ak Am q c nk ck nm cm cs (mm : Int) r _ (by exact HN.out.keep hk7) (by exact HK.out.keep hk7) (by exact HM.out.keep hk7) (by omega) (by omega) (by omega) (by constructor <;> omega)).mono ?_
      rintro e w8 ⟨rfl, hb8⟩
      have hk8 : Keeps wr w8 := hk7.trans (Keeps.of_below hb8)
      rw [← Htt.out]
      go_wp2_with fail
      refine hK.out _ _ ?_ (fun hHeld => ?_)
      · exact hk8
      clear hK K
      try simp only [List.getElem_toArray, List.getElem_cons_succ, List.getElem_cons_zero, Act.put, List.setIfInBounds_toArray, List.set_cons_zero, List.set_cons_succ]
      refine wpAnyH_take (i := 12) (v := ?vb12) rfl (by kernel_rfl) (by kernel_rfl) (by kernel_rfl) (fun _ _ _ h => h) (Or.inl ⟨by rfl, ?yb12⟩) hHeld ?rb12
      case yb12 => (intro W hW; go_simp; first | done | with_reducible rfl)
      try simp only [List.getElem_toArray, List.getElem_cons_succ, List.getElem_cons_zero, Act.put, List.setIfInBounds_toArray, List.set_cons_zero, List.set_cons_succ]
      refine wpAnyH_done (by kernel_rfl) ?_ _
      have b7 : Below wr.heap.size wr w7 := (below_drewN (Below.refl _ _) 1).trans hb7
      have b8 := b7.trans (hb8.mono b7.size)
      have B8 := Lib.hid (Hb.out.trans (b8.mono Hb.out.size))
      clear hb7 hb8 b7 b8 hk7 hk8
      go_wp2
      exact ⟨⟨k + 1, by omega, by go_num, B8.out⟩, by simp [intOf]; omega⟩
    · have Hw := Lib.hid Hb.out
      clear Hb
      go_wp2_with fail
      clear hlt
      go_loopw [20] (fun i wk => ∃ k : Nat, k ≤ m ∧ i = .int .i64 k ∧ Below w5.heap.size w5 wk) (fun i _ => m - (intOf i).toNat)
      case atStart => exact ⟨0, by omega, rfl, Hw.out⟩
      case round =>
        obtain ⟨j, hj, rfl, hb⟩ := hrel
        rename World => wk
        have Hb := Lib.hid hb
        have hsr := Hs5.out.below hb hS5
        have b0 := hsr.cell0
        have b1 := hsr.cell1
        clear hb hsr
        by_cases hlt : j < m
        · obtain ⟨ad, r, rfl, hrk, Ak, ck, Am, cm, r0, r1, hK, hM⟩ := (Hf5.out.keep (Keeps.of_below Hb.out)).at_ hlt
          obtain ⟨f4, f5⟩ := F.out.lens r (List.mem_of_getElem? hrk)
          have hrt : rightB cs (mm : Int) r = true := (allRightB_spec F.out.right).2 r (List.mem_of_getElem? hrk)
          rw [f4] at r0 hK
          rw [f5] at r1 hM
          have HK := Lib.hid hK
          have HM := Lib.hid hM
          have HN := Lib.hid (Hn5.out.keep (Keeps.of_below Hb.out))
          have Hrt := Lib.hid hrt
          have hk0 : (0 : Int) ≤ (j : Int) := by omega
          have hk1 : (j : Int) < (m : Int) := by omega
          clear hrk hK hM hrt f4 f5 c0' c1'
          go_wp2_with fail
          refine wp_region_held_drew (S := fun W => Keeps wk W) (by kernel_rfl) ((Keeps.refl wk).drewN 1) (fun hHeld => ?_)
          refine wpAnyH_take (i := 0) (v := ?vc0) rfl (by kernel_rfl) (by kernel_rfl) (by kernel_rfl) (fun _ _ _ h => h) (Or.inl ⟨by rfl, ?yc0⟩) hHeld ?rc0
          case yc0 => (intro W hW; have h0 := hW _ _ b0; have h1 := hW _ _ b1; have h2 := hW _ _ r0; have h3 := hW _ _ r1; go_simp; first | done | with_reducible rfl)
          try simp only [List.getElem_toArray, List.getElem_cons_zero, Act.put, List.setIfInBounds_toArray, List.set_cons_zero, List.set_cons_succ]
          refine wpAnyH_take (i := 1) (v := ?vc1) rfl (by kernel_rfl) (by kernel_rfl) (by kernel_rfl) (fun _ _ _ h => h) (Or.inl ⟨by rfl, ?yc1⟩) hHeld ?rc1
          case yc1 => (intro W hW; go_simp; first | done | with_reducible rfl)
          try simp only [List.getElem_toArray, List.getElem_cons_succ, List.getElem_cons_zero, Act.put, List.setIfInBounds_toArray, List.set_cons_zero, List.set_cons_succ]
          refine wpAnyH_take (i := 2) (v := ?vc2) rfl (by kernel_rfl) (by kernel_rfl) (by kernel_rfl) (fun _ _ _ h => h) (Or.inl ⟨by rfl, ?yc2⟩) hHeld ?rc2
          case yc2 => (intro W hW; go_simp; first | done | with_reducible rfl)
          try simp only [List.getElem_toArray, List.getElem_cons_succ, List.getElem_cons_zero, Act.put, List.setIfInBounds_toArray, List.set_cons_zero, List.set_cons_succ]
          refine wpAnyH_take (i := 3) (v := ?vc3) rfl (by kernel_rfl) (by kernel_rfl) (by kernel_rfl) (fun _ _ _ h => h) (Or.inl ⟨by rfl, ?yc3⟩) hHeld ?rc3
          case yc3 => (intro W hW; go_simp; first | done | with_reducible rfl)
          try simp only [List.getElem_toArray, List.getElem_cons_succ, List.getElem_cons_zero, Act.put, List.setIfInBounds_toArray, List.set_cons_zero, List.set_cons_succ]
          refine wpAnyH_take (i := 4) (v := ?vc4) rfl (by kernel_rfl) (by kernel_rfl) (by kernel_rfl) (fun _ _ _ h => h) (Or.inl ⟨by rfl, ?yc4⟩) hHeld ?rc4
          case yc4 => (intro W hW; have h0 := hW _ _ b0; have h1 := hW _ _ b1; have h2 := hW _ _ r0; have h3 := hW _ _ r1; go_simp; first | done | with_reducible rfl)
          try simp only [List.getElem_toArray, List.getElem_cons_succ, List.getElem_cons_zero, Act.put, List.setIfInBounds_toArray, List.set_cons_zero, List.set_cons_succ]
          refine wpAnyH_ready (rs := [5]) (by kernel_rfl) (by simp) ?_
          refine AllReadyH.cons rfl (fun K hK => ?_) AllReadyH.nil
          go_simp
          refine (Right_any A Ak Am q c q ck mm cm cs (mm : Int) r _ (by exact HN.out) (by exact HK.out) (by exact HM.out) (by omega) (by omega) (by omega) (by constructor <;> omega)).mono ?_
          rintro e w7 ⟨rfl, hb7⟩
          have hk7 : Keeps wk w7 := (show Keeps wk.drew w7 from Keeps.of_below hb7)
          rw [Hrt.out]
          go_wp2_with fail
          refine hK.out _ _ ?_ (fun hHeld => ?_)
          · exact hk7
          clear hK K
          try simp only [List.getElem_toArray, List.getElem_cons_succ, List.getElem_cons_zero, Act.put, List.setIfInBounds_toArray, List.set_cons_zero, List.set_cons_succ]
          refine wpAnyH_take (i := 6) (v := ?vc6) rfl (by kernel_rfl) (by kernel_rfl) (by kernel_rfl) (fun _ _ _ h => h) (Or.inl ⟨by rfl, ?yc6⟩) hHeld ?rc6
          case yc6 => (intro W hW; go_simp; first | done | with_reducible rfl)
          try simp only [List.getElem_toArray, List.getElem_cons_succ, List.getElem_cons_zero, Act.put, List.setIfInBounds_toArray, List.set_cons_zero, List.set_cons_succ]
          refine wpAnyH_done (by kernel_rfl) ?_ _
          have b7 : Below wk.heap.size wk w7 := (below_drewN (Below.refl _ _) 1).trans hb7
          have B8 := Lib.hid (Hb.out.trans (b7.mono Hb.out.size))
          clear hb7 b7 hk7
          go_wp2
          exact ⟨⟨j + 1, by omega, by go_num, B8.out⟩, by simp [intOf]; omega⟩
        · clear Hw c0' c1'
          go_upto_region 18 with (fail)
          go_cut [80, 21] from 65 to 143 (fun t _ wx => t = .bool (decide (0 < m)) ∧ wk = wx)
          case first =>
            go_wp2_with fail
            go_meet
            exact ⟨rfl, rfl⟩
          case rest =>
          obtain ⟨rfl, hw⟩ := hcut
          subst hw
          clear hlt
          go_upto_if 80 with (fail)
          go_cut [21] from 80 to 143 (fun _ wx => Below w5.heap.size w5 wx)
          case first =>
            by_cases hm0 : 0 < m
            · have hmd : decide (0 < m) = true := by simp; omega
              rw [hmd]
              clear hmd
              go_upto_region 19 with (fail)
              obtain ⟨gl, cl, hDl, _⟩ := (F.out.rows.rows).form (by rw [F.out.em]; exact hm0)
              injection hDl with hDl e2 e3
              subst hDl
              clear e2 e3
              obtain ⟨ad, r, had, hrk, Ak, ck, Am, cm, r0, r1, hK, hM⟩ := (Hf5.out.keep (Keeps.of_below Hb.out)).at_ hm0
              injection had with had
              subst had
              obtain ⟨f4, f5⟩ := F.out.lens r (List.mem_of_getElem? hrk)
              rw [f4] at r0 hK
              rw [f5] at r1 hM
              have r0 : wk.cell? ⟨gl, 0, none⟩ = some (.slice Ak q ck) := r0
              have r1 : wk.cell? ⟨gl, 1, none⟩ = some (.slice Am mm cm) := r1
              have HK := Lib.hid hK
              have HM := Lib.hid hM
              have hm1 : (0 : Int) < (m : Int) := by omega
              clear hrk hK hM f4 f5
              go_cut [21] from 81 to 93 (fun rr wx => ∃ R gk ck gm cm, rr = .pointer (some ⟨R, 0, none⟩) ∧ wk.heap.size ≤ R ∧ Box2 33 wx R (.slice (some ⟨gk, 0, none⟩) q ck) (.slice (some ⟨gm, 0, none⟩) mm cm) ∧ BagI wk.heap.size 6400 wk wx [.slice (some ⟨gk, 0, none⟩) q ck, .slice (some ⟨gm, 0, none⟩) mm cm])
              case first =>
                refine wp_region_held_drew (S := fun W => Keeps wk W) (by kernel_rfl) ((Keeps.refl wk).drewN 1) (fun hHeld => ?_)
                refine wpAnyH_take (i := 1) (v := ?vd1) rfl (by kernel_rfl) (by kernel_rfl) (by kernel_rfl) (fun _ _ _ h => h) (Or.inl ⟨by rfl, ?yd1⟩) hHeld ?rd1
                case yd1 => (intro W hW; go_simp; first | done | with_reducible rfl)
                try simp only [List.getElem_toArray, List.getElem_cons_succ, List.getElem_cons_zero, Act.put, List.setIfInBounds_toArray, List.set_cons_zero, List.set_cons_succ]
                refine wpAnyH_take (i := 2) (v := ?vd2) rfl (by kernel_rfl) (by kernel_rfl) (by kernel_rfl) (fun _ _ _ h => h) (Or.inl ⟨by rfl, ?yd2⟩) hHeld ?rd2
                case yd2 => (intro W hW; go_simp; first | done | with_reducible rfl)
                try simp only [List.getElem_toArray, List.getElem_cons_succ, List.getElem_cons_zero, Act.put, List.setIfInBounds_toArray, List.set_cons_zero, List.set_cons_succ]
                refine wpAnyH_take (i := 3) (v := ?vd3) rfl (by kernel_rfl) (by kernel_rfl) (by kernel_rfl) (fun _ _ _ h => h) (Or.inl ⟨by rfl, ?yd3⟩) hHeld ?rd3
                case yd3 => (intro W hW; go_simp; first | done | with_reducible rfl)
                try simp only [List.getElem_toArray, List.getElem_cons_succ, List.getElem_cons_zero, Act.put, List.setIfInBounds_toArray, List.set_cons_zero, List.set_cons_succ]
                refine wpAnyH_take (i := 4) (v := ?vd4) rfl (by kernel_rfl) (by kernel_rfl) (by kernel_rfl) (fun _ _ _ h => h) (Or.inl ⟨by rfl, ?yd4⟩) hHeld ?rd4
                case yd4 => (intro W hW; have h0 := hW _ _ r0; have h1 := hW _ _ r1; go_simp; first | done | with_reducible rfl)
                try simp only [List.getElem_toArray, List.getElem_cons_succ, List.getElem_cons_zero, Act.put, List.setIfInBounds_toArray, List.set_cons_zero, List.set_cons_succ]
                refine wpAnyH_take (i := 7) (v := ?vd7) rfl (by kernel_rfl) (by kernel_rfl) (by kernel_rfl) (fun _ _ _ h => h) (Or.inl ⟨by rfl, ?yd7⟩) hHeld ?rd7
                case yd7 => (intro W hW; go_simp; first | done | with_reducible rfl)
                try simp only [List.getElem_toArray, List.getElem_cons_succ, List.getElem_cons_zero, Act.put, List.setIfInBounds_toArray, List.set_cons_zero, List.set_cons_succ]
                refine wpAnyH_take (i := 8) (v := ?vd8) rfl (by kernel_rfl) (by kernel_rfl) (by kernel_rfl) (fun _ _ _ h => h) (Or.inl ⟨by rfl, ?yd8⟩) hHeld ?rd8
                case yd8 => (intro W hW; go_simp; first | done | with_reducible rfl)
                try simp only [List.getElem_toArray, List.getElem_cons_succ, List.getElem_cons_zero, Act.put, List.setIfInBounds_toArray, List.set_cons_zero, List.set_cons_succ]
                refine wpAnyH_take (i := 9) (v := ?vd9) rfl (by kernel_rfl) (by kernel_rfl) (by kernel_rfl) (fun _ _ _ h => h) (Or.inl ⟨by rfl, ?yd9⟩) hHeld ?rd9
                case yd9 => (intro W hW; go_simp; first | done | with_reducible rfl)
                try simp only [List.getElem_toArray, List.getElem_cons_succ, List.getElem_cons_zero, Act.put, List.setIfInBounds_toArray, List.set_cons_zero, List.set_cons_succ]
                refine wpAnyH_take (i := 10) (v := ?vd10) rfl (by kernel_rfl) (by kernel_rfl) (by kernel_rfl) (fun _ _ _ h => h) (Or.inl ⟨by rfl, ?yd10⟩) hHeld ?rd10
                case yd10 => (intro W hW; have h0 := hW _ _ r0; have h1 := hW _ _ r1; go_simp; first | done | with_reducible rfl)
                try simp only [List.getElem_toArray, List.getElem_cons_succ, List.getElem_cons_zero, Act.put, List.setIfInBounds_toArray, List.set_cons_zero, List.set_cons_succ]
                have E1 : Hid (∃ A m c us, (Value.slice Ak q ck) = .slice A m c ∧ Nums .i64 wk.drew A m us ∧ m = q) := Lib.hid ⟨_, _, _, _, rfl, HK.out, rfl⟩
                have E2 : Hid (∃ A m c us, (Value.slice Am mm cm) = .slice A m c ∧ Nums .i64 wk.drew A m us ∧ m = mm) := Lib.hid ⟨_, _, _, _, rfl, HM.out, rfl⟩
                clear hHeld r0 r1 HK HM
                revert u21 u81 u86 u87 u92 u93
                refine anyRow' _ wk.drew.heap.size q mm wk.drew rfl (.slice Ak q ck) (.slice Am mm cm) E1.out E2.out (by omega) (by omega) (fun w h => (Keeps.of_below h : Keeps wk.drew w)) ?hr ?h0 ?h5 ?h6 ?h11 ?h13 ?h12 ?hend _ _ ?hfu ?hli
                case hfu => rfl
                case hli => kernel_rfl
                case hr => kernel_rfl
                case h0 =>
                  intro X w1 K hK
                  refine wpOp_step rfl (fun K' hK' => ?_)
                  have H := Lib.hid (hK' _ _ hK)
                  clear hK hK'
                  simp only [fr5]
                  go_simp
                  exact H.out
                case h6 =>
                  intro X w1 K hK
                  refine wpOp_step rfl (fun K' hK' => ?_)
                  have H := Lib.hid (hK' _ _ hK)
                  clear hK hK'
                  simp only [fr5]
                  go_simp
                  exact H.out
                case h13 =>
                  intro X w1 K hK
                  refine wpOp_step rfl (fun K' hK' => ?_)
                  have H := Lib.hid (hK' _ _ hK)
                  clear hK hK'
                  simp only [fr5]
                  go_simp
                  exact H.out
                case h5 =>
                  intro X w1 K v' w' hrun hK
                  refine wpOp_step rfl (fun K' hK' => ?_)
                  have H := Lib.hid (hK' _ _ hK)
                  clear hK hK'
                  rw [if_pos (by rfl)]
                  exact oper_append (.tmp 81) (.tmp 85) 22 rfl _ _ _ _ rfl rfl hrun H.out
                case h11 =>
                  intro X w1 K v' w' hrun hK
                  refine wpOp_step rfl (fun K' hK' => ?_)
                  have H := Lib.hid (hK' _ _ hK)
                  clear hK hK'
                  rw [if_pos (by rfl)]
                  exact oper_append (.tmp 87) (.tmp 91) 22 rfl _ _ _ _ rfl rfl hrun H.out
                case h12 =>
                  intro X w1 K hx2 hx4 hK
                  obtain ⟨g2, n2, c2, x2⟩ := hx2
                  obtain ⟨g4, n4, c4, x4⟩ := hx4
                  refine wpOp_step rfl (fun K' hK' => ?_)
                  have h := hK' _ _ hK
                  clear hK hK'
                  rw [x2, x4] at h
                  simp only [fr5, up5] at h ⊢
                  have H := Lib.hid h
                  clear h
                  go_simp
                  exact (by simpa [x2, x4] using H.out)
                case hend =>
                  intro X w1 R hbg hl2 hl4 hx6 hx5 hBR hbx
                  obtain ⟨gk, ck', x2⟩ := (hbg.all (X 2) (by simp)).shape
                  obtain ⟨gm, cm', x4⟩ := (hbg.all (X 4) (by simp)).shape
                  rw [hl2] at x2
                  rw [hl4] at x4
                  rw [x2, x4] at hbg hx6
                  have b0 := hbx.cell0
                  have b1 := hbx.cell1
                  have bf := hbx.frozen
                  have hfin : Box2 33 ((w1.setCell ⟨R, 0, none⟩ (.slice (some ⟨gk, 0, none⟩) q ck')).setCell ⟨R, 1, none⟩ (.slice (some ⟨gm, 0, none⟩) mm cm')) R (.slice (some ⟨gk, 0, none⟩) q ck') (.slice (some ⟨gm, 0, none⟩) mm cm') := (hbx.set0 _).set1 _
                  have hbw : Below wk.heap.size w1 ((w1.setCell ⟨R, 0, none⟩ (.slice (some ⟨gk, 0, none⟩) q ck')).setCell ⟨R, 1, none⟩ (.slice (some ⟨gm, 0, none⟩) mm cm')) := below_setCell (below_setCell (Below.refl _ _) (by exact hBR) 0 _) (by exact hBR) 1 _
                  have hbg' := hbg.kept (row := some R) (w' := (w1.setCell ⟨R, 0, none⟩ (.slice (some ⟨gk, 0, none⟩) q ck')).setCell ⟨R, 1, none⟩ (.slice (some ⟨gm, 0, none⟩) mm cm')) ⟨rfl, rfl, rfl, by simp [World.setCell], fun k _ hne => by rw [Below.heap_setCell _ _ _ _ (fun e => hne (by rw [e])), Below.heap_setCell _ _ _ _ (fun e => hne (by rw [e]))]⟩ (fun v hv e => by
                    obtain ⟨g, n, cap, cur, fz, rfl, _, h3, _⟩ := hbg.all v hv
                    simp only [Value.ownBlock, Option.some.injEq] at e
                    subst e
                    unfold Box2 at hbx
                    rw [h3] at hbx
                    injection hbx with hbx
                    injection hbx with _ h2
                    exact absurd h2 (by decide)) hbw
                  have Hbg := Lib.hid hbg'
                  have Hbx := Lib.hid hfin
                  have hHeld : Keeps wk w1 := (Keeps.of_below hbg.bel : Keeps wk.drew w1)
                  have hk14 : Keeps wk ((w1.setCell ⟨R, 0, none⟩ (.slice (some ⟨gk, 0, none⟩) q ck')).setCell ⟨R, 1, none⟩ (.slice (some ⟨gm, 0, none⟩) mm cm')) := (Keeps.of_below hbg'.bel : Keeps wk.drew _)
                  have Hk14 := Lib.hid hk14
                  clear hbg hbx hl2 hl4 hbg' hfin hbw hk14 x2 x4
                  simp only [fr5]
                  refine wpAnyH_ready (rs := [14]) (by kernel_rfl) (by simp) ?_
                  refine AllReadyH.cons rfl (fun K hK => ?_) AllReadyH.nil
                  go_simp
                  refine hK.out _ _ ?_ (fun hHeld => ?_)
                  · exact Hk14.out
                  clear hK K
                  try simp only [List.getElem_toArray, List.getElem_cons_succ, List.getElem_cons_zero, Act.put, List.setIfInBounds_toArray, List.set_cons_zero, List.set_cons_succ]
                  refine wpAnyH_done (by kernel_rfl) ?_ _
                  go_wp2_with fail
                  go_meet
                  exact ⟨R, gk, ck', gm, cm', rfl, hBR, Hbx.out, ⟨⟨Hbg.out.bel.os, Hbg.out.bel.tape, Hbg.out.bel.output, Hbg.out.bel.size, Hbg.out.bel.block⟩, Hbg.out.low, Hbg.out.all, Hbg.out.ap⟩⟩
              case rest =>
                obtain ⟨R, gk, ck', gm, cm', rfl, hBR, hbx, hbg⟩ := hcut
                rename World => wa
                have Hbx := Lib.hid hbx
                have Hbg := Lib.hid hbg
                clear hbx hbg r0 r1 HK HM
                obtain ⟨z, hz⟩ : ∃ z, z = a6 % 4 := ⟨_, rfl⟩
                have hz1 : 0 ≤ z := by omega
                have hz2 : z ≤ 3 := by omega
                have wz := fun W => lwithin a6 4 W H6.out (by omega) (by omega)
                rw [← hz] at wz
                have Wz := Lib.hid wz
                clear wz hz
                go_upto_block 4 with (refine (Wz.out _).mono ?_; rintro e w6 ⟨rfl, rfl⟩)
                go_cut [] from 96 to 136 (fun wx => ∃ Ak nk ck Am nm cm xs ys, Box2 33 wx R (.slice Ak nk ck) (.slice Am nm cm) ∧ Nums .i64 wx Ak nk xs ∧ Nums .i64 wx Am nm ys ∧ nk ≤ 100000000 ∧ nm ≤ 100000000 ∧ Below wk.heap.size wk wx)
                case first =>
                  have b0 := Hbx.out.cell0
                  have b1 := Hbx.out.cell1
                  have bf := Hbx.out.frozen
                  have hz4 : z = 0 ∨ z = 1 ∨ z = 2 ∨ z = 3 := by omega
                  clear hz1 hz2 Wz
                  rcases hz4 with rfl | rfl | rfl | rfl
                  · obtain ⟨j, hj⟩ : ∃ j : Nat, a7 % (4 : Int) = j := Int.eq_ofNat_of_zero_le (Int.emod_nonneg a7 (by omega))
                    have hj4 : j < 4 := by have := Int.emod_lt_of_pos a7 (show (0 : Int) < 4 by omega); omega
                    have wj := fun W => lwithin a7 4 W H7.out (by omega) (by omega)
                    rw [hj] at wj
                    have Wj := Lib.hid wj
                    obtain ⟨x0, hx0⟩ : ∃ x0, cs[0]? = some x0 := ⟨_, List.getElem?_eq_getElem (by rw [F.out.eq]; omega)⟩
                    obtain ⟨hc1, hc2⟩ := F.out.c16 x0 (List.mem_of_getElem? hx0)
                    obtain ⟨A', c', eA, _, _, hA⟩ := own_form F.out.own
                    obtain ⟨e1, -, -⟩ := Value.slice.inj eA
                    subst e1
                    obtain ⟨gA, rfl, _, _⟩ := hA (by omega)
                    have hkwa : Keeps w5 wa := (Keeps.of_below Hb.out).trans (Keeps.of_below (show Below wk.heap.size wk wa from Hbg.out.bel))
                    obtain ⟨adA, eA1, hcA⟩ := (Hn5.out.keep hkwa).2.2 (by omega)
                    injection eA1 with eA1
                    subst eA1
                    have aA : wa.cell? ⟨gA, 0, none⟩ = some (.int .i64 x0) := by have := hcA 0 x0 hx0; rwa [add0] at this
                    have aS : wa.cell? ⟨S, 0, none⟩ = some (.slice (some ⟨gA, 0, none⟩) q c) := hkwa _ _ Hs5.out.cell0
                    have hw1 : IntKind.i64.wrap (x0 - 1) = x0 - 1 := IntWalk.i64_in _ (by omega)
                    have hok : IntsOk [-1, x0, x0 - 1, a7] := by
                      intro x hx
                      simp only [List.mem_cons, List.not_mem_nil, or_false] at hx
                      have := H7.out
                      rcases hx with rfl | rfl | rfl | rfl
                      all_goals first | exact this | (constructor <;> omega)
                    obtain ⟨y, hy⟩ : ∃ y, ([-1, x0, x0 - 1, a7] : List Int)[j]? = some y := ⟨_, List.getElem?_eq_getElem (by simpa using hj4)⟩
                    have hyi : inK .i64 y := hok y (List.mem_of_getElem? hy)
                    have hbg0 := (Hbg.out.add [-1, x0, x0 - 1, a7] hok (by simp) (by simp)).1
                    have hbg1 : BagI wk.heap.size (2 * 6400) wk (wa.alloc (.cells #[.int .i64 (-1), .int .i64 x0, .int .i64 (x0 - 1), .int .i64 a7] 3)).drew [.slice (some ⟨wa.heap.size, 0, none⟩) 4 4, .slice (some ⟨gk, 0, none⟩) q ck', .slice (some ⟨gm, 0, none⟩) mm cm'] := ⟨below_drewN hbg0.bel 1, hbg0.low, hbg0.all, hbg0.ap⟩
                    have hcell : (wa.alloc (.cells #[.int .i64 (-1), .int .i64 x0, .int .i64 (x0 - 1), .int .i64 a7] 3)).drew.cell? ⟨wa.heap.size, j, none⟩ = some (.int .i64 y) := by
                      show (wa.alloc (.cells #[.int .i64 (-1), .int .i64 x0, .int .i64 (x0 - 1), .int .i64 a7] 3)).cell? ⟨wa.heap.size, j, none⟩ = some (.int .i64 y)
                      rw [cell_of_row _ _ j _ 3 (0, 0) (heap_alloc_new wa _)]
                      have h : ((ints [-1, x0, x0 - 1, a7]).toArray)[j]? = some (.int .i64 y) := by
                        rw [List.getElem?_toArray, ints, List.getElem?_map, hy]; rfl
                      exact h
                    have hP0 : wa.cell? ⟨R, 0, none⟩ = some (.slice (some ⟨gk, 0, none⟩) q ck') ∧ wa.cell? ⟨S, 0, none⟩ = some (.slice (some ⟨gA, 0, none⟩) q c) ∧ wa.cell? ⟨gA, 0, none⟩ = some (.int .i64 x0) := ⟨Hbx.out.cell0, aS, aA⟩
                    have hk1 : Keeps wa (wa.alloc (.cells #[.int .i64 (-1), .int .i64 x0, .int .i64 (x0 - 1), .int .i64 a7] 3)).drew := ((Keeps.refl wa).alloc (.cells #[.int .i64 (-1), .int .i64 x0, .int .i64 (x0 - 1), .int .i64 a7] 3)).drewN 1
                    obtain ⟨W1, hW1⟩ : ∃ W1, W1 = (wa.alloc (.cells #[.int .i64 (-1), .int .i64 x0, .int .i64 (x0 - 1), .int .i64 a7] 3)).drew := ⟨_, rfl⟩
                    rw [← hW1] at hbg1 hcell hk1
                    have hP1 : W1.cell? ⟨R, 0, none⟩ = some (.slice (some ⟨gk, 0, none⟩) q ck') ∧ W1.cell? ⟨S, 0, none⟩ = some (.slice (some ⟨gA, 0, none⟩) q c) ∧ W1.cell? ⟨gA, 0, none⟩ = some (.int .i64 x0) := ⟨hk1 _ _ Hbx.out.cell0, hk1 _ _ aS, hk1 _ _ aA⟩
                    obtain ⟨hbg2, hfz, u, hu⟩ := bag_put hbg1 (show Value.slice (some ⟨gk, 0, none⟩) q ck' ∈ _ by simp) (show 0 < q by omega) y hyi
                    have hgk := (hbg1.all _ (show Value.slice (some ⟨gk, 0, none⟩) q ck' ∈ _ by simp)).lt
                    obtain ⟨k', hk', hgk1, _⟩ := hgk
                    simp only [Value.ownBlock, Option.some.injEq] at hk'
                    subst hk'
                    have hRne : R ≠ gk := fun e => by
                      obtain ⟨g, n, cap, cur, fz, e0, _, h3, _⟩ := hbg1.all _ (show Value.slice (some ⟨gk, 0, none⟩) q ck' ∈ _ by simp)
                      injection e0 with e1 _ _
                      injection e1 with e1
                      injection e1 with e1
                      subst e1
                      have hb := (show Box2 33 (wa.alloc (.cells #[.int .i64 (-1), .int .i64 x0, .int .i64 (x0 - 1), .int .i64 a7] 3)).drew R _ _ from Hbx.out.alloc (.cells #[.int .i64 (-1), .int .i64 x0, .int .i64 (x0 - 1), .int .i64 a7] 3))
                      rw [← hW1] at hb
                      unfold Box2 at hb
                      rw [e, h3] at hb
                      injection hb with hb
                      injection hb with _ h2
                      exact absurd h2 (by decide)
                    have hlow : S < gk ∧ gA < gk := by
                      have h5 := hS5
                      have hwk : w5.heap.size ≤ wk.heap.size := Hb.out.size
                      obtain ⟨ad5, e5, hc5⟩ := Hn5.out.2.2 (show 0 < q by omega)
                      injection e5 with e5
                      subst e5
                      have hgA : gA < w5.heap.size := block_lt (hc5 0 x0 hx0)
                      omega
                    obtain ⟨W2, hW2⟩ : ∃ W2, W2 = W1.setCell ⟨gk, 0, none⟩ (.int .i64 y) := ⟨_, rfl⟩
                    have oth : ∀ (b : Nat) (v : Value), b ≠ gk → W1.cell? ⟨b, 0, none⟩ = some v → W2.cell? ⟨b, 0, none⟩ = some v := fun b v hne h => by
                      rw [hW2, World.cell?_of_block (w := W1) (Below.heap_setCell _ _ _ _ hne)]
                      exact h
                    have hP2 : W2.cell? ⟨R, 0, none⟩ = some (.slice (some ⟨gk, 0, none⟩) q ck') ∧ W2.cell? ⟨S, 0, none⟩ = some (.slice (some ⟨gA, 0, none⟩) q c) ∧ W2.cell? ⟨gA, 0, none⟩ = some (.int .i64 x0) := ⟨oth _ _ hRne hP1.1, oth _ _ (by omega) hP1.2.1, oth _ _ (by omega) hP1.2.2⟩
                    have hbx2 : Box2 33 W2 R (.slice (some ⟨gk, 0, none⟩) q ck') (.slice (some ⟨gm, 0, none⟩) mm cm') := by
                      have hb := (show Box2 33 (wa.alloc (.cells #[.int .i64 (-1), .int .i64 x0, .int .i64 (x0 - 1), .int .i64 a7] 3)).drew R _ _ from Hbx.out.alloc (.cells #[.int .i64 (-1), .int .i64 x0, .int .i64 (x0 - 1), .int .i64 a7] 3))
                      rw [← hW1] at hb
                      rw [hW2]
                      exact (Below.heap_setCell _ _ _ _ hRne).trans hb
                    rw [← hW2] at hbg2
                    obtain ⟨xs, hxs, hq1, _⟩ := slice_nums (hbg2.all (.slice (some ⟨gk, 0, none⟩) q ck') (by simp))
                    obtain ⟨ys, hys, hq2, _⟩ := slice_nums (hbg2.all (.slice (some ⟨gm, 0, none⟩) mm cm') (by simp))
                    have Hrel : Hid (∃ Ak nk ck Am nm cm xs ys, Box2 33 W2 R (.slice Ak nk ck) (.slice Am nm cm) ∧ Nums .i64 W2 Ak nk xs ∧ Nums .i64 W2 Am nm ys ∧ nk ≤ 100000000 ∧ nm ≤ 100000000 ∧ Below wk.heap.size wk W2) :=
                      Lib.hid ⟨_, _, _, _, _, _, xs, ys, hbx2, hxs, hys, by omega, by omega, hbg2.bel⟩
                    have HP1 := Lib.hid hP1
                    have HP2 := Lib.hid hP2
                    have HW1 := Lib.hid hW1
                    have HW2 := Lib.hid hW2
                    have i0 : (0 : Int) ≤ (j : Int) := by omega
                    have i1 : (j : Int) < 4 := by omega
                    have q1 : (0 : Int) < (q : Int) := by omega
                    have q0 : 0 < q := by omega
                    clear wj hj hx0 eA hA hkwa hcA aA aS hok hy hyi hbg0 hbg1 hk1 hW1 hP1 hbg2 hgk1 hRne hlow hW2 oth hP2 hbx2 hxs hys hq1 hq2 b0 b1 bf
                    go_upto_region 22 with (fail)
                    refine wp_region_held_drew (S := fun W => W.cell? ⟨R, 0, none⟩ = some (.slice (some ⟨gk, 0, none⟩) q ck') ∧ W.cell? ⟨S, 0, none⟩ = some (.slice (some ⟨gA, 0, none⟩) q c) ∧ W.cell? ⟨gA, 0, none⟩ = some (.int .i64 x0)) (by kernel_rfl) hP0 (fun hHeld => ?_)
                    refine wpAnyH_take (i := 0) (v := ?vp0) rfl (by kernel_rfl) (by kernel_rfl) (by kernel_rfl) (fun _ _ _ h => h) (Or.inl ⟨by rfl, ?yp0⟩) hHeld ?rp0
                    case yp0 => (intro W hW; obtain ⟨h1, h2, h3⟩ := hW; go_simp; first | done | with_reducible rfl)
                    try simp only [List.getElem_toArray, List.getElem_cons_zero, Act.put, List.setIfInBounds_toArray, List.set_cons_zero, List.set_cons_succ]
                    refine wpAnyH_take (i := 1) (v := ?vp1) rfl (by kernel_rfl) (by kernel_rfl) (by kernel_rfl) (fun _ _ _ h => h) (Or.inl ⟨by rfl, ?yp1⟩) hHeld ?rp1
                    case yp1 => (intro W hW; obtain ⟨h1, h2, h3⟩ := hW; go_simp; first | done | with_reducible rfl)
                    try simp only [List.getElem_toArray, List.getElem_cons_succ, List.getElem_cons_zero, Act.put, List.setIfInBounds_toArray, List.set_cons_zero, List.set_cons_succ]
                    refine wpAnyH_take (i := 2) (v := ?vp2) rfl (by kernel_rfl) (by kernel_rfl) (by kernel_rfl) (fun _ _ _ h => h) (Or.inl ⟨by rfl, ?yp2⟩) hHeld ?rp2
                    case yp2 => (intro W hW; obtain ⟨h1, h2, h3⟩ := hW; go_simp; first | done | with_reducible rfl)
                    try simp only [List.getElem_toArray, List.getElem_cons_succ, List.getElem_cons_zero, Act.put, List.setIfInBounds_toArray, List.set_cons_zero, List.set_cons_succ]
                    refine wpAnyH_take (i := 3) (v := ?vp3) rfl (by kernel_rfl) (by kernel_rfl) (by kernel_rfl) (fun _ _ _ h => h) (Or.inl ⟨by rfl, ?yp3⟩) hHeld ?rp3
                    case yp3 => (intro W hW; obtain ⟨h1, h2, h3⟩ := hW; go_simp; first | done | with_reducible rfl)
                    try simp only [List.getElem_toArray, List.getElem_cons_succ, List.getElem_cons_zero, Act.put, List.setIfInBounds_toArray, List.set_cons_zero, List.set_cons_succ]
                    refine wpAnyH_take (i := 4) (v := ?vp4) rfl (by kernel_rfl) (by kernel_rfl) (by kernel_rfl) (fun _ _ _ h => h) (Or.inl ⟨by rfl, ?yp4⟩) hHeld ?rp4
                    case yp4 => (intro W hW; obtain ⟨h1, h2, h3⟩ := hW; go_simp; first | done | with_reducible rfl)
                    try simp only [List.getElem_toArray, List.getElem_cons_succ, List.getElem_cons_zero, Act.put, List.setIfInBounds_toArray, List.set_cons_zero, List.set_cons_succ]
                    refine wpAnyH_take (i := 5) (v := ?vp5) rfl (by kernel_rfl) (by kernel_rfl) (by kernel_rfl) (fun _ _ _ h => h) (Or.inl ⟨by rfl, ?yp5⟩) hHeld ?rp5
                    case yp5 => (intro W hW; obtain ⟨h1, h2, h3⟩ := hW; go_simp; first | done | with_reducible rfl)
                    try simp only [List.getElem_toArray, List.getElem_cons_succ, List.getElem_cons_zero, Act.put, List.setIfInBounds_toArray, List.set_cons_zero, List.set_cons_succ]
                    refine wpAnyH_take (i := 6) (v := ?vp6) rfl (by kernel_rfl) (by kernel_rfl) (by kernel_rfl) (fun _ _ _ h => h) (Or.inl ⟨by rfl, ?yp6⟩) hHeld ?rp6
                    case yp6 => (intro W hW; obtain ⟨h1, h2, h3⟩ := hW; go_simp; first | done | with_reducible rfl)
                    try simp only [List.getElem_toArray, List.getElem_cons_succ, List.getElem_cons_zero, Act.put, List.setIfInBounds_toArray, List.set_cons_zero, List.set_cons_succ]
                    refine wpAnyH_take (i := 7) (v := ?vp7) rfl (by kernel_rfl) (by kernel_rfl) (by kernel_rfl) (fun _ _ _ h => h) (Or.inl ⟨by rfl, ?yp7⟩) hHeld ?rp7
                    case yp7 => (intro W hW; obtain ⟨h1, h2, h3⟩ := hW; go_simp; first | done | with_reducible rfl)
                    try simp only [List.getElem_toArray, List.getElem_cons_succ, List.getElem_cons_zero, Act.put, List.setIfInBounds_toArray, List.set_cons_zero, List.set_cons_succ]
                    refine wpAnyH_take (i := 8) (v := ?vp8) rfl (by kernel_rfl) (by kernel_rfl) (by kernel_rfl) (fun _ _ _ h => h) (Or.inl ⟨by rfl, ?yp8⟩) hHeld ?rp8
                    case yp8 => (intro W hW; obtain ⟨h1, h2, h3⟩ := hW; go_simp; first | done | with_reducible rfl)
                    try simp only [List.getElem_toArray, List.getElem_cons_succ, List.getElem_cons_zero, Act.put, List.setIfInBounds_toArray, List.set_cons_zero, List.set_cons_succ]
                    refine wpAnyH_take (i := 9) (v := ?vp9) rfl (by kernel_rfl) (by kernel_rfl) (by kernel_rfl) (fun _ _ _ h => h) (Or.inl ⟨by rfl, ?yp9⟩) hHeld ?rp9
                    case yp9 => (intro W hW; obtain ⟨h1, h2, h3⟩ := hW; go_simp; first | done | with_reducible rfl)
                    try simp only [List.getElem_toArray, List.getElem_cons_succ, List.getElem_cons_zero, Act.put, List.setIfInBounds_toArray, List.set_cons_zero, List.set_cons_succ]
                    refine wpAnyH_take (i := 10) (v := ?vp10) rfl (by kernel_rfl) (by kernel_rfl) (by kernel_rfl) (fun _ _ _ h => h) (Or.inl ⟨by rfl, ?yp10⟩) hHeld ?rp10
                    case yp10 => (intro W hW; obtain ⟨h1, h2, h3⟩ := hW; go_simp; first | done | with_reducible rfl)
                    try simp only [List.getElem_toArray, List.getElem_cons_succ, List.getElem_cons_zero, Act.put, List.setIfInBounds_toArray, List.set_cons_zero, List.set_cons_succ]
                    refine wpAnyH_take (i := 11) (v := ?vp11) rfl (by kernel_rfl) (by kernel_rfl) (by kernel_rfl) (fun _ _ _ h => h) (Or.inl ⟨by rfl, ?yp11⟩) hHeld ?rp11
                    case yp11 => (intro W hW; obtain ⟨h1, h2, h3⟩ := hW; go_simp; first | done | with_reducible rfl)
                    try simp only [List.getElem_toArray, List.getElem_cons_succ, List.getElem_cons_zero, Act.put, List.setIfInBounds_toArray, List.set_cons_zero, List.set_cons_succ]
                    refine wpAnyH_take (i := 13) (v := ?vp13) rfl (by kernel_rfl) (by kernel_rfl) (by kernel_rfl) (fun _ _ _ h => h) (Or.inl ⟨by rfl, ?yp13⟩) hHeld ?rp13
                    case yp13 => (intro W hW; obtain ⟨h1, h2, h3⟩ := hW; go_simp; first | done | with_reducible rfl)
                    try simp only [List.getElem_toArray, List.getElem_cons_succ, List.getElem_cons_zero, Act.put, List.setIfInBounds_toArray, List.set_cons_zero, List.set_cons_succ]
                    refine wpAnyH_ready (rs := [12, 14]) (by kernel_rfl) (by simp) ?_
                    refine AllReadyH.cons rfl (fun K hK => ?_) (AllReadyH.cons rfl (fun K hK => ?_) AllReadyH.nil)
                    · go_simp
                      rw [← HW1.out]
                      refine hK.out _ _ (HP1.out) (fun hHeld => ?_)
                      clear hK K
                      try simp only [List.getElem_toArray, List.getElem_cons_succ, List.getElem_cons_zero, Act.put, List.setIfInBounds_toArray, List.set_cons_zero, List.set_cons_succ]
                      refine wpAnyH_ready (rs := [14]) (by kernel_rfl) (by simp) ?_
                      refine AllReadyH.cons rfl (fun K hK => ?_) (AllReadyH.nil)
                      go_simp
                      refine (Wj.out _).mono ?_
                      rintro e w6 ⟨rfl, rfl⟩
                      go_wp2_with fail
                      refine hK.out _ _ (HP1.out) (fun hHeld => ?_)
                      clear hK K
                      try simp only [List.getElem_toArray, List.getElem_cons_succ, List.getElem_cons_zero, Act.put, List.setIfInBounds_toArray, List.set_cons_zero, List.set_cons_succ]
                      refine wpAnyH_ready (rs := [15]) (by kernel_rfl) (by simp) ?_
                      refine AllReadyH.cons rfl (fun K hK => ?_) (AllReadyH.nil)
                      go_simp
                      refine hK.out _ _ (HP1.out) (fun hHeld => ?_)
                      clear hK K
                      try simp only [List.getElem_toArray, List.getElem_cons_succ, List.getElem_cons_zero, Act.put, List.setIfInBounds_toArray, List.set_cons_zero, List.set_cons_succ]
                      refine wpAnyH_ready (rs := [16]) (by kernel_rfl) (by simp) ?_
                      refine AllReadyH.cons rfl (fun K hK => ?_) (AllReadyH.nil)
                      go_simp
                      refine hK.out _ _ (HP1.out) (fun hHeld => ?_)
                      clear hK K
                      try simp only [List.getElem_toArray, List.getElem_cons_succ, List.getElem_cons_zero, Act.put, List.setIfInBounds_toArray, List.set_cons_zero, List.set_cons_succ]
                      refine wpAnyH_ready (rs := [17]) (by kernel_rfl) (by simp) ?_
                      refine AllReadyH.cons rfl (fun K hK => ?_) (AllReadyH.nil)
                      go_simp
                      refine hK.out _ _ (HP1.out) (fun hHeld => ?_)
                      clear hK K
                      try simp only [List.getElem_toArray, List.getElem_cons_succ, List.getElem_cons_zero, Act.put, List.setIfInBounds_toArray, List.set_cons_zero, List.set_cons_succ]
                      refine wpAnyH_ready (rs := [18]) (by kernel_rfl) (by simp) ?_
                      refine AllReadyH.cons rfl (fun K hK => ?_) (AllReadyH.nil)
                      go_simp
                      rw [← HW2.out]
                      refine hK.out _ _ (HP2.out) (fun hHeld => ?_)
                      clear hK K
                      try simp only [List.getElem_toArray, List.getElem_cons_succ, List.getElem_cons_zero, Act.put, List.setIfInBounds_toArray, List.set_cons_zero, List.set_cons_succ]
                      refine wpAnyH_done (by kernel_rfl) ?_ _
                      go_wp2_with fail
                      go_meet
                      exact Hrel.out
                    · go_simp
                      refine (Wj.out _).mono ?_
                      rintro e w6 ⟨rfl, rfl⟩
                      go_wp2_with fail
                      refine hK.out _ _ (hP0) (fun hHeld => ?_)
                      clear hK K
                      try simp only [List.getElem_toArray, List.getElem_cons_succ, List.getElem_cons_zero, Act.put, List.setIfInBounds_toArray, List.set_cons_zero, List.set_cons_succ]
                      refine wpAnyH_ready (rs := [12]) (by kernel_rfl) (by simp) ?_
                      refine AllReadyH.cons rfl (fun K hK => ?_) (AllReadyH.nil)
                      go_simp
                      rw [← HW1.out]
                      refine hK.out _ _ (HP1.out) (fun hHeld => ?_)
                      clear hK K
                      try simp only [List.getElem_toArray, List.getElem_cons_succ, List.getElem_cons_zero, Act.put, List.setIfInBounds_toArray, List.set_cons_zero, List.set_cons_succ]
                      refine wpAnyH_ready (rs := [15]) (by kernel_rfl) (by simp) ?_
                      refine AllReadyH.cons rfl (fun K hK => ?_) (AllReadyH.nil)
                      go_simp
                      refine hK.out _ _ (HP1.out) (fun hHeld => ?_)
                      clear hK K
                      try simp only [List.getElem_toArray, List.getElem_cons_succ, List.getElem_cons_zero, Act.put, List.setIfInBounds_toArray, List.set_cons_zero, List.set_cons_succ]
                      refine wpAnyH_ready (rs := [16]) (by kernel_rfl) (by simp) ?_
                      refine AllReadyH.cons rfl (fun K hK => ?_) (AllReadyH.nil)
                      go_simp
                      refine hK.out _ _ (HP1.out) (fun hHeld => ?_)
                      clear hK K
                      try simp only [List.getElem_toArray, List.getElem_cons_succ, List.getElem_cons_zero, Act.put, List.setIfInBounds_toArray, List.set_cons_zero, List.set_cons_succ]
                      refine wpAnyH_ready (rs := [17]) (by kernel_rfl) (by simp) ?_
                      refine AllReadyH.cons rfl (fun K hK => ?_) (AllReadyH.nil)
                      go_simp
                      refine hK.out _ _ (HP1.out) (fun hHeld => ?_)
                      clear hK K
                      try simp only [List.getElem_toArray, List.getElem_cons_succ, List.getElem_cons_zero, Act.put, List.setIfInBounds_toArray, List.set_cons_zero, List.set_cons_succ]
                      refine wpAnyH_ready (rs := [18]) (by kernel_rfl) (by simp) ?_
                      refine AllReadyH.cons rfl (fun K hK => ?_) (AllReadyH.nil)
                      go_simp
                      rw [← HW2.out]
                      refine hK.out _ _ (HP2.out) (fun hHeld => ?_)
                      clear hK K
                      try simp only [List.getElem_toArray, List.getElem_cons_succ, List.getElem_cons_zero, Act.put, List.setIfInBounds_toArray, List.set_cons_zero, List.set_cons_succ]
                      refine wpAnyH_done (by kernel_rfl) ?_ _
                      go_wp2_with fail
                      go_meet
                      exact Hrel.out
                  · obtain ⟨v', w', hrun, hG, hgr⟩ : ∃ v' w', (Builtin.append_ #[22, 22] 22 #[.slice (some ⟨gk, 0, none⟩) q ck', .slice (some ⟨wa.heap.size, 0, none⟩) 1 1]).run Try.prog (wa.alloc (.cells #[.int .i64 0] 3)) = .ok v' w' ∧ BagI wk.heap.size 25600 wk w' [v', .slice (some ⟨gm, 0, none⟩) mm cm'] ∧ Box2 33 w' R (.slice (some ⟨gk, 0, none⟩) q ck') (.slice (some ⟨gm, 0, none⟩) mm cm') ∧ slen v' = q + 1 := grow_key Hbg.out Hbx.out 0 (by simp [inK])
                    obtain ⟨hbx', hsl⟩ := hgr
                    obtain ⟨gv, cv, hv⟩ := (hG.all v' (by simp)).shape
                    rw [hsl] at hv
                    subst hv
                    have Hrun := Lib.hid hrun
                    have HG := Lib.hid hG
                    have Hbx' := Lib.hid hbx'
                    have b0' := hbx'.cell0
                    have bf' := hbx'.frozen
                    clear hrun hG hbx' hsl
                    go_wp2_with (at_builtin; have _t := Hrun; refine wpList_append_eq rfl (.tmp 119) (.tmp 120) 22 rfl _ _ _ _ rfl rfl Hrun.out ?_; clear _t Hrun)
                    have hfin := row_set HG.out Hbx'.out hBR 0 (.slice (some ⟨gv, 0, none⟩) (q + 1) cv)
                    obtain ⟨xs, hxs, hq1, _⟩ := slice_nums (hfin.all (.slice (some ⟨gv, 0, none⟩) (q + 1) cv) (by simp))
                    obtain ⟨ys, hys, hq2, _⟩ := slice_nums (hfin.all (.slice (some ⟨gm, 0, none⟩) mm cm') (by simp))
                    go_meet
                    exact ⟨_, _, _, _, _, _, xs, ys, Hbx'.out.set0 _, hxs, hys, by omega, by omega, hfin.bel⟩
                  · obtain ⟨v', w', hrun, hG, hgr⟩ : ∃ v' w', (Builtin.append_ #[22, 22] 22 #[.slice (some ⟨gm, 0, none⟩) mm cm', .slice (some ⟨wa.heap.size, 0, none⟩) 1 1]).run Try.prog (wa.alloc (.cells #[.int .i64 a7] 3)) = .ok v' w' ∧ BagI wk.heap.size 25600 wk w' [v', .slice (some ⟨gk, 0, none⟩) q ck'] ∧ Box2 33 w' R (.slice (some ⟨gk, 0, none⟩) q ck') (.slice (some ⟨gm, 0, none⟩) mm cm') ∧ slen v' = mm + 1 := grow_key (Hbg.out.perm (List.Perm.swap _ _ _)) Hbx.out a7 H7.out
                    obtain ⟨hbx', hsl⟩ := hgr
                    obtain ⟨gv, cv, hv⟩ := (hG.all v' (by simp)).shape
                    rw [hsl] at hv
                    subst hv
                    have Hrun := Lib.hid hrun
                    have HG := Lib.hid hG
                    have Hbx' := Lib.hid hbx'
                    have b0' := hbx'.cell1
                    have bf' := hbx'.frozen
                    clear hrun hG hbx' hsl
                    go_wp2_with (at_builtin; have _t := Hrun; refine wpList_append_eq rfl (.tmp 126) (.tmp 128) 22 rfl _ _ _ _ rfl rfl Hrun.out ?_; clear _t Hrun)
                    have hfin := row_set HG.out Hbx'.out hBR 1 (.slice (some ⟨gv, 0, none⟩) (mm + 1) cv)
                    obtain ⟨ys, hys, hq1, _⟩ := slice_nums (hfin.all (.slice (some ⟨gv, 0, none⟩) (mm + 1) cv) (by simp))
                    obtain ⟨xs, hxs, hq2, _⟩ := slice_nums (hfin.all (.slice (some ⟨gk, 0, none⟩) q ck') (by simp))
                    go_meet
                    exact ⟨_, _, _, _, _, _, xs, ys, Hbx'.out.set1 _, hxs, hys, by omega, by omega, hfin.bel⟩
                  · obtain ⟨xs, hxs, _, hqc⟩ := slice_nums (Hbg.out.all (.slice (some ⟨gk, 0, none⟩) q ck') (by simp))
                    have Hxs := Lib.hid hxs
                    clear hxs
                    by_cases hc1 : ck' = 1
                    · have hfin := row_set Hbg.out Hbx.out hBR 0 (.slice (some ⟨gk, 0, none⟩) (q - 1) 0)
                      have Hfin := Lib.hid hfin
                      clear hfin
                      go_wp2_with fail
                      obtain ⟨ys, hys, hq2, _⟩ := slice_nums (Hfin.out.all (.slice (some ⟨gm, 0, none⟩) mm cm') (by simp))
                      have hq0 : q - 1 = 0 := by omega
                      go_meet
                      exact ⟨_, _, _, _, _, _, [], ys, Hbx.out.set0 _, by rw [hq0]; exact Nums.nil _ _ _, hys, by omega, by omega, Hfin.out.bel⟩
                    · have hfin := row_set Hbg.out Hbx.out hBR 0 (.slice (some ⟨gk, 1, none⟩) (q - 1) (ck' - 1))
                      have Hfin := Lib.hid hfin
                      clear hfin
                      go_wp2_with fail
                      obtain ⟨ys, hys, hq2, _⟩ := slice_nums (Hfin.out.all (.slice (some ⟨gm, 0, none⟩) mm cm') (by simp))
                      obtain ⟨xs', hxs', hq3, _⟩ := slice_nums (Hfin.out.all (.slice (some ⟨gk, 0, none⟩) q ck') (by simp))
                      have hdr := hxs'.drop k1
                      rw [add0] at hdr
                      go_meet
                      exact ⟨_, _, _, _, _, _, _, ys, Hbx.out.set0 _, hdr, hys, by omega, by omega, Hfin.out.bel⟩
                case rest =>
                  obtain ⟨Bk, nk, dk, Bm, nm, dm, xs, ys, hbx, hxs, hys, hnk, hnm, hbw⟩ := hcut
                  rename World => wb
                  have Hxs := Lib.hid hxs
                  have Hys := Lib.hid hys
                  have Hbw := Lib.hid hbw
                  have hB5 := Hb.out.trans (hbw.mono Hb.out.size)
                  have HB5 := Lib.hid hB5
                  have hsr := Hs5.out.below hB5 hS5
                  have b0 := hsr.cell0
                  have b1 := hsr.cell1
                  have r0 := hbx.cell0
                  have r1 := hbx.cell1
                  have HN := Lib.hid (Hn5.out.keep (Keeps.of_below hB5))
                  obtain ⟨tt, htt⟩ : ∃ tt, tt = rightB cs (mm : Int) ⟨xs, ys⟩ := ⟨_, rfl⟩
                  have Htt := Lib.hid htt
                  clear hbx hxs hys hbw hB5 hsr htt
                  go_wp2_with fail
                  refine wp_region_held_drew (S := fun W => Keeps wb W) (by kernel_rfl) ((Keeps.refl wb).drewN 1) (fun hHeld => ?_)
                  refine wpAnyH_take (i := 0) (v := ?vg0) rfl (by kernel_rfl) (by kernel_rfl) (by kernel_rfl) (fun _ _ _ h => h) (Or.inl ⟨by rfl, ?yg0⟩) hHeld ?rg0
                  case yg0 => (intro W hW; have h0 := hW _ _ b0; have h1 := hW _ _ b1; have h2 := hW _ _ r0; have h3 := hW _ _ r1; go_simp; first | done | with_reducible rfl)
                  try simp only [List.getElem_toArray, List.getElem_cons_zero, Act.put, List.setIfInBounds_toArray, List.set_cons_zero, List.set_cons_succ]
                  refine wpAnyH_take (i := 1) (v := ?vg1) rfl (by kernel_rfl) (by kernel_rfl) (by kernel_rfl) (fun _ _ _ h => h) (Or.inl ⟨by rfl, ?yg1⟩) hHeld ?rg1
                  case yg1 => (intro W hW; have h0 := hW _ _ b0; have h1 := hW _ _ b1; have h2 := hW _ _ r0; have h3 := hW _ _ r1; go_simp; first | done | with_reducible rfl)
                  try simp only [List.getElem_toArray, List.getElem_cons_succ, List.getElem_cons_zero, Act.put, List.setIfInBounds_toArray, List.set_cons_zero, List.set_cons_succ]
                  refine wpAnyH_take (i := 3) (v := ?vg3) rfl (by kernel_rfl) (by kernel_rfl) (by kernel_rfl) (fun _ _ _ h => h) (Or.inl ⟨by rfl, ?yg3⟩) hHeld ?rg3
                  case yg3 => (intro W hW; have h0 := hW _ _ b0; have h1 := hW _ _ b1; have h2 := hW _ _ r0; have h3 := hW _ _ r1; go_simp; first | done | with_reducible rfl)
                  try simp only [List.getElem_toArray, List.getElem_cons_succ, List.getElem_cons_zero, Act.put, List.setIfInBounds_toArray, List.set_cons_zero, List.set_cons_succ]
                  refine wpAnyH_take (i := 4) (v := ?vg4) rfl (by kernel_rfl) (by kernel_rfl) (by kernel_rfl) (fun _ _ _ h => h) (Or.inl ⟨by rfl, ?yg4⟩) hHeld ?rg4
                  case yg4 => (intro W hW; have h0 := hW _ _ b0; have h1 := hW _ _ b1; have h2 := hW _ _ r0; have h3 := hW _ _ r1; go_simp; first | done | with_reducible rfl)
                  try simp only [List.getElem_toArray, List.getElem_cons_succ, List.getElem_cons_zero, Act.put, List.setIfInBounds_toArray, List.set_cons_zero, List.set_cons_succ]
                  refine wpAnyH_ready (rs := [2]) (by kernel_rfl) (by simp) ?_
                  refine AllReadyH.cons rfl (fun K hK => ?_) AllReadyH.nil
                  go_simp
                  refine (Right_any A Bk Bm q c nk dk nm dm cs (mm : Int) ⟨xs, ys⟩ _ (by exact HN.out) (by exact Hxs.out) (by exact Hys.out) (by omega) (by omega) (by omega) (by constructor <;> omega)).mono ?_
                  rintro e w7 ⟨rfl, hb7⟩
                  have hk7 : Keeps wb w7 := (show Keeps wb.drew w7 from Keeps.of_below hb7)
                  rw [← Htt.out]
                  go_wp2_with fail
                  refine hK.out _ _ ?_ (fun hHeld => ?_)
                  · exact hk7
                  clear hK K
                  try simp only [List.getElem_toArray, List.getElem_cons_succ, List.getElem_cons_zero, Act.put, List.setIfInBounds_toArray, List.set_cons_zero, List.set_cons_succ]
                  refine wpAnyH_ready (rs := [5]) (by kernel_rfl) (by simp) ?_
                  refine AllReadyH.cons rfl (fun K hK => ?_) AllReadyH.nil
                  go_simp
                  refine (rRight_any A Bk Bm q c nk dk nm dm cs (mm : Int) ⟨xs, ys⟩ _ (by exact HN.out.keep hk7) (by exact Hxs.out.keep hk7) (by exact Hys.out.keep hk7) (by omega) (by omega) (by omega) (by constructor <;> omega)).mono ?_
                  rintro e w8 ⟨rfl, hb8⟩
                  have hk8 : Keeps wb w8 := hk7.trans (Keeps.of_below hb8)
                  rw [← Htt.out]
                  go_wp2_with fail
                  refine hK.out _ _ ?_ (fun hHeld => ?_)
                  · exact hk8
                  clear hK K
                  try simp only [List.getElem_toArray, List.getElem_cons_succ, List.getElem_cons_zero, Act.put, List.setIfInBounds_toArray, List.set_cons_zero, List.set_cons_succ]
                  refine wpAnyH_take (i := 6) (v := ?vg6) rfl (by kernel_rfl) (by kernel_rfl) (by kernel_rfl) (fun _ _ _ h => h) (Or.inl ⟨by rfl, ?yg6⟩) hHeld ?rg6
                  case yg6 => (intro W hW; go_simp; first | done | with_reducible rfl)
                  try simp only [List.getElem_toArray, List.getElem_cons_succ, List.getElem_cons_zero, Act.put, List.setIfInBounds_toArray, List.set_cons_zero, List.set_cons_succ]
                  refine wpAnyH_done (by kernel_rfl) ?_ _
                  have b7 : Below wb.heap.size wb w7 := (below_drewN (Below.refl _ _) 1).trans hb7
                  have b8 := b7.trans (hb8.mono b7.size)
                  have B8 := Lib.hid (HB5.out.trans (b8.mono HB5.out.size))
                  clear hb7 hb8 b7 b8 hk7 hk8
                  go_wp2
                  go_meet
                  exact B8.out
            · have hmd : decide (0 < m) = false := by simp; omega
              rw [hmd]
              clear hmd
              go_wp2
              go_meet
              exact Hb.out
          case rest =>
          rename World => wz
          have hBz := Hb5.out.trans (hcut.mono Hb5.out.size)
          have HBz := Lib.hid hBz
          have hsz := Hs5.out.below hcut hS5
          have hnz := Hn5.out.keep (Keeps.of_below hcut)
          have hoz := (own_below Ho5.out hcut (Nat.le_refl _)).mono hw3
          have hbag : BagI w.heap.size 100 w wz [.slice A q c] := ⟨hBz, hBz.size, (fun v hv => by
            simp only [List.mem_singleton] at hv
            subst hv
            exact gs_of_ownI (xs := cs) (by rw [F.out.eq]; exact hoz) (fun x hx => by have := F.out.c16 x hx; simp only [inK]; omega) (by rw [F.out.eq]; omega) (by rw [F.out.eq]; omega)), List.pairwise_singleton _ _⟩
          have hwS : w.heap.size ≤ S := by omega
          have Hsz := Lib.hid hsz
          have Hnz := Lib.hid hnz
          have Hbag := Lib.hid hbag
          have b0 := hsz.cell0
          have b1 := hsz.cell1
          have bf := hsz.frozen
          obtain ⟨z, hz⟩ : ∃ z, z = a6 % 5 := ⟨_, rfl⟩
          have hz1 : 0 ≤ z := by omega
          have hz2 : z ≤ 4 := by omega
          have wz5 := fun W => lwithin a6 5 W H6.out (by omega) (by omega)
          rw [← hz] at wz5
          have Wz5 := Lib.hid wz5
          clear hBz hcut hsz hnz hoz hbag wz5 hz Hb
          go_upto_block 5 with (refine (Wz5.out _).mono ?_; rintro e w6 ⟨rfl, rfl⟩)
          go_cut [] from 146 to 177 (fun wx => ∃ A' n' c' me' xs, Box2 24 wx S (.slice A' n' c') (.int .i64 me') ∧ Nums .i64 wx A' n' xs ∧ n' ≤ 100000000 ∧ inK .i64 me' ∧ Below w.heap.size w wx)
          case first =>
            have hz4 : z = 0 ∨ z = 1 ∨ z = 2 ∨ z = 3 ∨ z = 4 := by omega
            clear hz1 hz2 Wz5
            rcases hz4 with rfl | rfl | rfl | rfl | rfl
            · obtain ⟨j, hj⟩ : ∃ j : Nat, a7 % (5 : Int) = j := Int.eq_ofNat_of_zero_le (Int.emod_nonneg a7 (by omega))
              have hj5 : j < 5 := by have := Int.emod_lt_of_pos a7 (show (0 : Int) < 5 by omega); omega
              have wj := fun W => lwithin a7 5 W H7.out (by omega) (by omega)
              rw [hj] at wj
              have Wj := Lib.hid wj
              obtain ⟨A', c', eA, _, _, hA⟩ := own_form F.out.own
              obtain ⟨e1, -, -⟩ := Value.slice.inj eA
              subst e1
              obtain ⟨gA, rfl, _, _⟩ := hA (by omega)
              have hok : IntsOk [0, 1, 16, 17, a7] := by
                intro x hx
                simp only [List.mem_cons, List.not_mem_nil, or_false] at hx
                have := H7.out
                rcases hx with rfl | rfl | rfl | rfl | rfl
                all_goals first | exact this | (simp [inK])
              obtain ⟨y, hy⟩ : ∃ y, ([0, 1, 16, 17, a7] : List Int)[j]? = some y := ⟨_, List.getElem?_eq_getElem (by simpa using hj5)⟩
              have hyi : inK .i64 y := hok y (List.mem_of_getElem? hy)
              have hbg0 := (Hbag.out.add [0, 1, 16, 17, a7] hok (by simp) (by simp)).1
              have hbg1 : BagI w.heap.size (2 * 100) w (wz.alloc (.cells #[.int .i64 0, .int .i64 1, .int .i64 16, .int .i64 17, .int .i64 a7] 3)).drew [.slice (some ⟨wz.heap.size, 0, none⟩) 5 5, .slice (some ⟨gA, 0, none⟩) q c] := ⟨below_drewN hbg0.bel 1, hbg0.low, hbg0.all, hbg0.ap⟩
              have hcell : (wz.alloc (.cells #[.int .i64 0, .int .i64 1, .int .i64 16, .int .i64 17, .int .i64 a7] 3)).drew.cell? ⟨wz.heap.size, j, none⟩ = some (.int .i64 y) := by
                show (wz.alloc (.cells #[.int .i64 0, .int .i64 1, .int .i64 16, .int .i64 17, .int .i64 a7] 3)).cell? ⟨wz.heap.size, j, none⟩ = some (.int .i64 y)
                rw [cell_of_row _ _ j _ 3 (0, 0) (heap_alloc_new wz _)]
                have h : ((ints [0, 1, 16, 17, a7]).toArray)[j]? = some (.int .i64 y) := by
                  rw [List.getElem?_toArray, ints, List.getElem?_map, hy]; rfl
                exact h
              have hP0 : wz.cell? ⟨S, 0, none⟩ = some (.slice (some ⟨gA, 0, none⟩) q c) := b0
              have hk1 : Keeps wz (wz.alloc (.cells #[.int .i64 0, .int .i64 1, .int .i64 16, .int .i64 17, .int .i64 a7] 3)).drew := ((Keeps.refl wz).alloc (.cells #[.int .i64 0, .int .i64 1, .int .i64 16, .int .i64 17, .int .i64 a7] 3)).drewN 1
              obtain ⟨W1, hW1⟩ : ∃ W1, W1 = (wz.alloc (.cells #[.int .i64 0, .int .i64 1, .int .i64 16, .int .i64 17, .int .i64 a7] 3)).drew := ⟨_, rfl⟩
              have hbx1 : Box2 24 (wz.alloc (.cells #[.int .i64 0, .int .i64 1, .int .i64 16, .int .i64 17, .int .i64 a7] 3)).drew S _ _ := Hsz.out.alloc (.cells #[.int .i64 0, .int .i64 1, .int .i64 16, .int .i64 17, .int .i64 a7] 3)
              rw [← hW1] at hbg1 hcell hk1 hbx1
              have hP1 : W1.cell? ⟨S, 0, none⟩ = some (.slice (some ⟨gA, 0, none⟩) q c) := hk1 _ _ b0
              obtain ⟨hbg2, hfz, u, hu⟩ := bag_put hbg1 (show Value.slice (some ⟨gA, 0, none⟩) q c ∈ _ by simp) (show 0 < q by omega) y hyi
              have hSne : S ≠ gA := fun e => by
                obtain ⟨g, n, cap, cur, fz, e0, _, h3, _⟩ := hbg1.all _ (show Value.slice (some ⟨gA, 0, none⟩) q c ∈ _ by simp)
                injection e0 with e1 _ _
                injection e1 with e1
                injection e1 with e1
                subst e1
                have hb := hbx1
                unfold Box2 at hb
                rw [e, h3] at hb
                injection hb with hb
                injection hb with _ h2
                exact absurd h2 (by decide)
              obtain ⟨W2, hW2⟩ : ∃ W2, W2 = W1.setCell ⟨gA, 0, none⟩ (.int .i64 y) := ⟨_, rfl⟩
              have hP2 : W2.cell? ⟨S, 0, none⟩ = some (.slice (some ⟨gA, 0, none⟩) q c) := by
                rw [hW2, World.cell?_of_block (w := W1) (Below.heap_setCell _ _ _ _ hSne)]
                exact hP1
              have hbx2 : Box2 24 W2 S (.slice (some ⟨gA, 0, none⟩) q c) (.int .i64 mm) := by
                rw [hW2]
                exact (Below.heap_setCell _ _ _ _ hSne).trans hbx1
              rw [← hW2] at hbg2
              obtain ⟨xs, hxs, hq1, _⟩ := slice_nums (hbg2.all (.slice (some ⟨gA, 0, none⟩) q c) (by simp))
              have Hrel : Hid (∃ A' n' c' me' xs, Box2 24 W2 S (.slice A' n' c') (.int .i64 me') ∧ Nums .i64 W2 A' n' xs ∧ n' ≤ 100000000 ∧ inK .i64 me' ∧ Below w.heap.size w W2) :=
                Lib.hid ⟨_, _, _, mm, xs, hbx2, hxs, by omega, by constructor <;> omega, hbg2.bel⟩
              have HP1 := Lib.hid hP1
              have HP2 := Lib.hid hP2
              have HW1 := Lib.hid hW1
              have HW2 := Lib.hid hW2
              have i0 : (0 : Int) ≤ (j : Int) := by omega
              have i1 : (j : Int) < 5 := by omega
              have q1 : (0 : Int) < (q : Int) := by omega
              have q0 : 0 < q := by omega
              clear wj hj eA hA hok hy hyi hbg0 hbg1 hk1 hW1 hP1 hbg2 hSne hW2 hP2 hbx1 hbx2 hxs hq1 b0 b1 bf
              go_upto_region 33 with (fail)
              refine wp_region_held_drew (S := fun W => W.cell? ⟨S, 0, none⟩ = some (.slice (some ⟨gA, 0, none⟩) q c)) (by kernel_rfl) hP0 (fun hHeld => ?_)
              refine wpAnyH_take (i := 0) (v := ?vr0) rfl (by kernel_rfl) (by kernel_rfl) (by kernel_rfl) (fun _ _ _ h => h) (Or.inl ⟨by rfl, ?yr0⟩) hHeld ?rr0
              case yr0 => (intro W hW; go_simp; first | done | with_reducible rfl)
              try simp only [List.getElem_toArray, List.getElem_cons_zero, Act.put, List.setIfInBounds_toArray, List.set_cons_zero, List.set_cons_succ]
              refine wpAnyH_take (i := 1) (v := ?vr1) rfl (by kernel_rfl) (by kernel_rfl) (by kernel_rfl) (fun _ _ _ h => h) (Or.inl ⟨by rfl, ?yr1⟩) hHeld ?rr1
              case yr1 => (intro W hW; go_simp; first | done | with_reducible rfl)
              try simp only [List.getElem_toArray, List.getElem_cons_succ, List.getElem_cons_zero, Act.put, List.setIfInBounds_toArray, List.set_cons_zero, List.set_cons_succ]
              refine wpAnyH_take (i := 2) (v := ?vr2) rfl (by kernel_rfl) (by kernel_rfl) (by kernel_rfl) (fun _ _ _ h => h) (Or.inl ⟨by rfl, ?yr2⟩) hHeld ?rr2
              case yr2 => (intro W hW; go_simp; first | done | with_reducible rfl)
              try simp only [List.getElem_toArray, List.getElem_cons_succ, List.getElem_cons_zero, Act.put, List.setIfInBounds_toArray, List.set_cons_zero, List.set_cons_succ]
              refine wpAnyH_take (i := 4) (v := ?vr4) rfl (by kernel_rfl) (by kernel_rfl) (by kernel_rfl) (fun _ _ _ h => h) (Or.inl ⟨by rfl, ?yr4⟩) hHeld ?rr4
              case yr4 => (intro W hW; go_simp; first | done | with_reducible rfl)
              try simp only [List.getElem_toArray, List.getElem_cons_succ, List.getElem_cons_zero, Act.put, List.setIfInBounds_toArray, List.set_cons_zero, List.set_cons_succ]
              refine wpAnyH_ready (rs := [3, 5]) (by kernel_rfl) (by simp) ?_
              refine AllReadyH.cons rfl (fun K hK => ?_) (AllReadyH.cons rfl (fun K hK => ?_) AllReadyH.nil)
              · go_simp
                rw [← HW1.out]
                refine hK.out _ _ (HP1.out) (fun hHeld => ?_)
                clear hK K
                try simp only [List.getElem_toArray, List.getElem_cons_succ, List.getElem_cons_zero, Act.put, List.setIfInBounds_toArray, List.set_cons_zero, List.set_cons_succ]
                refine wpAnyH_ready (rs := [5]) (by kernel_rfl) (by simp) ?_
                refine AllReadyH.cons rfl (fun K hK => ?_) (AllReadyH.nil)
                go_simp
                refine (Wj.out _).mono ?_
                rintro e w6 ⟨rfl, rfl⟩
                go_wp2_with fail
                refine hK.out _ _ (HP1.out) (fun hHeld => ?_)
                clear hK K
                try simp only [List.getElem_toArray, List.getElem_cons_succ, List.getElem_cons_zero, Act.put, List.setIfInBounds_toArray, List.set_cons_zero, List.set_cons_succ]
                refine wpAnyH_ready (rs := [6]) (by kernel_rfl) (by simp) ?_
                refine AllReadyH.cons rfl (fun K hK => ?_) (AllReadyH.nil)
                go_simp
                refine hK.out _ _ (HP1.out) (fun hHeld => ?_)
                clear hK K
                try simp only [List.getElem_toArray, List.getElem_cons_succ, List.getElem_cons_zero, Act.put, List.setIfInBounds_toArray, List.set_cons_zero, List.set_cons_succ]
                refine wpAnyH_ready (rs := [7]) (by kernel_rfl) (by simp) ?_
                refine AllReadyH.cons rfl (fun K hK => ?_) (AllReadyH.nil)
                go_simp
                refine hK.out _ _ (HP1.out) (fun hHeld => ?_)
                clear hK K
                try simp only [List.getElem_toArray, List.getElem_cons_succ, List.getElem_cons_zero, Act.put, List.setIfInBounds_toArray, List.set_cons_zero, List.set_cons_succ]
                refine wpAnyH_ready (rs := [8]) (by kernel_rfl) (by simp) ?_
                refine AllReadyH.cons rfl (fun K hK => ?_) (AllReadyH.nil)
                go_simp
                refine hK.out _ _ (HP1.out) (fun hHeld => ?_)
                clear hK K
                try simp only [List.getElem_toArray, List.getElem_cons_succ, List.getElem_cons_zero, Act.put, List.setIfInBounds_toArray, List.set_cons_zero, List.set_cons_succ]
                refine wpAnyH_ready (rs := [9]) (by kernel_rfl) (by simp) ?_
                refine AllReadyH.cons rfl (fun K hK => ?_) (AllReadyH.nil)
                go_simp
                rw [← HW2.out]
                refine hK.out _ _ (HP2.out) (fun hHeld => ?_)
                clear hK K
                try simp only [List.getElem_toArray, List.getElem_cons_succ, List.getElem_cons_zero, Act.put, List.setIfInBounds_toArray, List.set_cons_zero, List.set_cons_succ]
                refine wpAnyH_done (by kernel_rfl) ?_ _
                go_wp2_with fail
                go_meet
                exact Hrel.out
              · go_simp
                refine (Wj.out _).mono ?_
                rintro e w6 ⟨rfl, rfl⟩
                go_wp2_with fail
                refine hK.out _ _ (hP0) (fun hHeld => ?_)
                clear hK K
                try simp only [List.getElem_toArray, List.getElem_cons_succ, List.getElem_cons_zero, Act.put, List.setIfInBounds_toArray, List.set_cons_zero, List.set_cons_succ]
                refine wpAnyH_ready (rs := [3]) (by kernel_rfl) (by simp) ?_
                refine AllReadyH.cons rfl (fun K hK => ?_) (AllReadyH.nil)
                go_simp
                rw [← HW1.out]
                refine hK.out _ _ (HP1.out) (fun hHeld => ?_)
                clear hK K
                try simp only [List.getElem_toArray, List.getElem_cons_succ, List.getElem_cons_zero, Act.put, List.setIfInBounds_toArray, List.set_cons_zero, List.set_cons_succ]
                refine wpAnyH_ready (rs := [6]) (by kernel_rfl) (by simp) ?_
                refine AllReadyH.cons rfl (fun K hK => ?_) (AllReadyH.nil)
                go_simp
                refine hK.out _ _ (HP1.out) (fun hHeld => ?_)
                clear hK K
                try simp only [List.getElem_toArray, List.getElem_cons_succ, List.getElem_cons_zero, Act.put, List.setIfInBounds_toArray, List.set_cons_zero, List.set_cons_succ]
                refine wpAnyH_ready (rs := [7]) (by kernel_rfl) (by simp) ?_
                refine AllReadyH.cons rfl (fun K hK => ?_) (AllReadyH.nil)
                go_simp
                refine hK.out _ _ (HP1.out) (fun hHeld => ?_)
                clear hK K
                try simp only [List.getElem_toArray, List.getElem_cons_succ, List.getElem_cons_zero, Act.put, List.setIfInBounds_toArray, List.set_cons_zero, List.set_cons_succ]
                refine wpAnyH_ready (rs := [8]) (by kernel_rfl) (by simp) ?_
                refine AllReadyH.cons rfl (fun K hK => ?_) (AllReadyH.nil)
                go_simp
                refine hK.out _ _ (HP1.out) (fun hHeld => ?_)
                clear hK K
                try simp only [List.getElem_toArray, List.getElem_cons_succ, List.getElem_cons_zero, Act.put, List.setIfInBounds_toArray, List.set_cons_zero, List.set_cons_succ]
                refine wpAnyH_ready (rs := [9]) (by kernel_rfl) (by simp) ?_
                refine AllReadyH.cons rfl (fun K hK => ?_) (AllReadyH.nil)
                go_simp
                rw [← HW2.out]
                refine hK.out _ _ (HP2.out) (fun hHeld => ?_)
                clear hK K
                try simp only [List.getElem_toArray, List.getElem_cons_succ, List.getElem_cons_zero, Act.put, List.setIfInBounds_toArray, List.set_cons_zero, List.set_cons_succ]
                refine wpAnyH_done (by kernel_rfl) ?_ _
                go_wp2_with fail
                go_meet
                exact Hrel.out
            · obtain ⟨j, hj⟩ : ∃ j : Nat, a7 % (5 : Int) = j := Int.eq_ofNat_of_zero_le (Int.emod_nonneg a7 (by omega))
              have hj5 : j < 5 := by have := Int.emod_lt_of_pos a7 (show (0 : Int) < 5 by omega); omega
              have wj := fun W => lwithin a7 5 W H7.out (by omega) (by omega)
              rw [hj] at wj
              have Wj := Lib.hid wj
              have hok : IntsOk [-1, 0, 2, 3, a7] := by
                intro x hx
                simp only [List.mem_cons, List.not_mem_nil, or_false] at hx
                have := H7.out
                rcases hx with rfl | rfl | rfl | rfl | rfl
                all_goals first | exact this | (simp [inK])
              obtain ⟨y, hy⟩ : ∃ y, ([-1, 0, 2, 3, a7] : List Int)[j]? = some y := ⟨_, List.getElem?_eq_getElem (by simpa using hj5)⟩
              have hyi : inK .i64 y := hok y (List.mem_of_getElem? hy)
              have hb1 := (Hbag.out.add [-1, 0, 2, 3, a7] hok (by simp) (by simp)).1
              have hbxa := Hsz.out.alloc (.cells (ints [-1, 0, 2, 3, a7]).toArray 3)
              have hcell : (wz.alloc (.cells #[.int .i64 (-1), .int .i64 0, .int .i64 2, .int .i64 3, .int .i64 a7] 3)).cell? (Addr.add ⟨wz.heap.size, 0, none⟩ j) = some (.int .i64 y) := by
                rw [add0, cell_of_row _ _ j _ 3 (0, 0) (heap_alloc_new wz _)]
                have h : ((ints [-1, 0, 2, 3, a7]).toArray)[j]? = some (.int .i64 y) := by
                  rw [List.getElem?_toArray, ints, List.getElem?_map, hy]; rfl
                exact h
              have hcell2 : (wz.alloc (.cells #[.int .i64 (-1), .int .i64 0, .int .i64 2, .int .i64 3, .int .i64 a7] 3)).cell? ⟨wz.heap.size, j, none⟩ = some (.int .i64 y) := by rw [← add0]; exact hcell
              have hfin := box_set (by decide) hb1 hbxa hwS 1 (.int .i64 y)
              obtain ⟨xs, hxs, hq1, _⟩ := slice_nums (hfin.all (.slice A q c) (by simp))
              have Hrel : Hid (∃ A' n' c' me' xs, Box2 24 ((wz.alloc (.cells #[.int .i64 (-1), .int .i64 0, .int .i64 2, .int .i64 3, .int .i64 a7] 3)).setCell ⟨S, 1, none⟩ (.int .i64 y)) S (.slice A' n' c') (.int .i64 me') ∧ Nums .i64 ((wz.alloc (.cells #[.int .i64 (-1), .int .i64 0, .int .i64 2, .int .i64 3, .int .i64 a7] 3)).setCell ⟨S, 1, none⟩ (.int .i64 y)) A' n' xs ∧ n' ≤ 100000000 ∧ inK .i64 me' ∧ Below w.heap.size w ((wz.alloc (.cells #[.int .i64 (-1), .int .i64 0, .int .i64 2, .int .i64 3, .int .i64 a7] 3)).setCell ⟨S, 1, none⟩ (.int .i64 y))) :=
                Lib.hid ⟨A, q, c, y, xs, hbxa.set1 _, hxs, by omega, hyi, hfin.bel⟩
              have hbx' : Box2 24 (wz.alloc (.cells #[.int .i64 (-1), .int .i64 0, .int .i64 2, .int .i64 3, .int .i64 a7] 3)) S (.slice A q c) (.int .i64 mm) := hbxa
              have b1' := hbx'.cell1
              have bf' := hbx'.frozen
              have hj0 : (0 : Int) ≤ (j : Int) := by omega
              have hj1 : (j : Int) < 5 := by omega
              clear hbx' hb1 hbxa hfin hxs hq1 hok hy hyi hj wj
              go_wp2_with fail
              refine (Wj.out _).mono ?_
              rintro e w6 ⟨rfl, rfl⟩
              go_wp2
              go_meet
              exact Hrel.out
            · obtain ⟨v1, w1', hrun1, hG1, hbx1, hsl1⟩ := grow_lit (by decide) Hbag.out Hsz.out [2, 2] (by intro x hx; simp at hx; subst hx; simp [inK]) (by decide) (by decide) (by decide)
              obtain ⟨g1, d1, hv1⟩ := (hG1.all v1 (by simp)).shape
              rw [hsl1] at hv1
              have hv1 : v1 = .slice (some ⟨g1, 0, none⟩) (q + 2) d1 := hv1
              subst hv1
              obtain ⟨v2, w2', hrun2, hG2, hbx2, hsl2⟩ := grow_lit (by decide) hG1 hbx1 [2] (by intro x hx; simp at hx; subst hx; simp [inK]) (by decide) (by decide) (by decide)
              obtain ⟨g2, d2, hv2⟩ := (hG2.all v2 (by simp)).shape
              rw [hsl2] at hv2
              have hv2 : v2 = .slice (some ⟨g2, 0, none⟩) (q + 2 + 1) d2 := hv2
              subst hv2
              have hfin := box_set (by decide) hG2 hbx2 hwS 0 (.slice (some ⟨g2, 0, none⟩) (q + 2 + 1) d2)
              obtain ⟨xs, hxs, hq1, _⟩ := slice_nums (hfin.all (.slice (some ⟨g2, 0, none⟩) (q + 2 + 1) d2) (by simp))
              have b0' := hbx2.cell0
              have bf' := hbx2.frozen
              have Hrun1 : Hid ((Builtin.append_ #[22, 22] 22 #[.slice A q c, .slice (some ⟨wz.heap.size, 0, none⟩) 2 2]).run Try.prog (wz.alloc (.cells #[.int .i64 2, .int .i64 2] 3)) = .ok (.slice (some ⟨g1, 0, none⟩) (q + 2) d1) w1') := Lib.hid hrun1
              have Hrun2 : Hid ((Builtin.append_ #[22, 22] 22 #[.slice (some ⟨g1, 0, none⟩) (q + 2) d1, .slice (some ⟨w1'.heap.size, 0, none⟩) 1 1]).run Try.prog (w1'.alloc (.cells #[.int .i64 2] 3)) = .ok (.slice (some ⟨g2, 0, none⟩) (q + 2 + 1) d2) w2') := Lib.hid hrun2
              have Hrel : Hid (∃ A' n' c' me' xs, Box2 24 (w2'.setCell ⟨S, 0, none⟩ (.slice (some ⟨g2, 0, none⟩) (q + 2 + 1) d2)) S (.slice A' n' c') (.int .i64 me') ∧ Nums .i64 (w2'.setCell ⟨S, 0, none⟩ (.slice (some ⟨g2, 0, none⟩) (q + 2 + 1) d2)) A' n' xs ∧ n' ≤ 100000000 ∧ inK .i64 me' ∧ Below w.heap.size w (w2'.setCell ⟨S, 0, none⟩ (.slice (some ⟨g2, 0, none⟩) (q + 2 + 1) d2))) :=
                Lib.hid ⟨_, _, _, mm, xs, hbx2.set0 _, hxs, by omega, by constructor <;> omega, hfin.bel⟩
              clear hrun1 hrun2 hG1 hG2 hbx1 hbx2 hsl1 hsl2 hfin hxs hq1
              go_wp2_with (at_builtin; first | (have _t := Hrun1; refine wpList_append_eq rfl (.tmp 169) (.tmp 170) 22 rfl _ _ _ _ rfl rfl Hrun1.out ?_; clear _t Hrun1) | (have _t := Hrun2; refine wpList_append_eq rfl (.tmp 171) (.tmp 172) 22 rfl _ _ _ _ rfl rfl Hrun2.out ?_; clear _t Hrun2))
              go_meet
              exact Hrel.out
            · go_wp2
              go_meet
              exact ⟨none, 0, 0, mm, [], Hsz.out.set0 _, Nums.nil _ _ _, by omega, by constructor <;> omega, below_setCell HBz.out hwS 0 _⟩
            · go_wp2
              go_meet
              exact ⟨A, q, c, mm, cs, Hsz.out, Hnz.out, by omega, by constructor <;> omega, HBz.out⟩
          case rest =>
            obtain ⟨A', n', c', me', xs, hbx, hxs, hn', hme', hbw⟩ := hcut
            rename World => wb
            have Hxs := Lib.hid hxs
            have Hme' := Lib.hid hme'
            have Hbw := Lib.hid hbw
            have b0 := hbx.cell0
            have b1 := hbx.cell1
            obtain ⟨tt, htt⟩ : ∃ tt, tt = checkB xs me' := ⟨_, rfl⟩
            have Htt := Lib.hid htt
            clear hbx hxs hme' hbw htt bf
            go_wp2_with fail
            refine wp_region_held_drew (S := fun W => Keeps wb W) (by kernel_rfl) ((Keeps.refl wb).drewN 1) (fun hHeld => ?_)
            refine wpAnyH_take (i := 0) (v := ?vh0) rfl (by kernel_rfl) (by kernel_rfl) (by kernel_rfl) (fun _ _ _ h => h) (Or.inl ⟨by rfl, ?yh0⟩) hHeld ?rh0
            case yh0 => (intro W hW; have h0 := hW _ _ b0; have h1 := hW _ _ b1; go_simp; first | done | with_reducible rfl)
            try simp only [List.getElem_toArray, List.getElem_cons_zero, Act.put, List.setIfInBounds_toArray, List.set_cons_zero, List.set_cons_succ]
            refine wpAnyH_take (i := 2) (v := ?vh2) rfl (by kernel_rfl) (by kernel_rfl) (by kernel_rfl) (fun _ _ _ h => h) (Or.inl ⟨by rfl, ?yh2⟩) hHeld ?rh2
            case yh2 => (intro W hW; have h0 := hW _ _ b0; have h1 := hW _ _ b1; go_simp; first | done | with_reducible rfl)
            try simp only [List.getElem_toArray, List.getElem_cons_succ, List.getElem_cons_zero, Act.put, List.setIfInBounds_toArray, List.set_cons_zero, List.set_cons_succ]
            refine wpAnyH_ready (rs := [1]) (by kernel_rfl) (by simp) ?_
            refine AllReadyH.cons rfl (fun K hK => ?_) AllReadyH.nil
            go_simp
            refine (Check_any A' n' c' xs me' _ (by exact Hxs.out) (by omega) Hme'.out).mono ?_
            rintro e w7 ⟨rfl, hb7⟩
            have hk7 : Keeps wb w7 := (show Keeps wb.drew w7 from Keeps.of_below hb7)
            rw [← Htt.out]
            go_wp2_with fail
            refine hK.out _ _ ?_ (fun hHeld => ?_)
            · exact hk7
            clear hK K
            try simp only [List.getElem_toArray, List.getElem_cons_succ, List.getElem_cons_zero, Act.put, List.setIfInBounds_toArray, List.set_cons_zero, List.set_cons_succ]
            refine wpAnyH_ready (rs := [3]) (by kernel_rfl) (by simp) ?_
            refine AllReadyH.cons rfl (fun K hK => ?_) AllReadyH.nil
            go_simp
            refine (rCheck_any A' n' c' xs me' _ (by exact Hxs.out.keep hk7) (by omega) Hme'.out).mono ?_
            rintro e w8 ⟨rfl, hb8⟩
            have hk8 : Keeps wb w8 := hk7.trans (Keeps.of_below hb8)
            rw [← Htt.out]
            go_wp2_with fail
            refine hK.out _ _ ?_ (fun hHeld => ?_)
            · exact hk8
            clear hK K
            try simp only [List.getElem_toArray, List.getElem_cons_succ, List.getElem_cons_zero, Act.put, List.setIfInBounds_toArray, List.set_cons_zero, List.set_cons_succ]
            refine wpAnyH_take (i := 4) (v := ?vh4) rfl (by kernel_rfl) (by kernel_rfl) (by kernel_rfl) (fun _ _ _ h => h) (Or.inl ⟨by rfl, ?yh4⟩) hHeld ?rh4
            case yh4 => (intro W hW; go_simp; first | done | with_reducible rfl)
            try simp only [List.getElem_toArray, List.getElem_cons_succ, List.getElem_cons_zero, Act.put, List.setIfInBounds_toArray, List.set_cons_zero, List.set_cons_succ]
            refine wpAnyH_take (i := 5) (v := ?vh5) rfl (by kernel_rfl) (by kernel_rfl) (by kernel_rfl) (fun _ _ _ h => h) (Or.inl ⟨by rfl, ?yh5⟩) hHeld ?rh5
            case yh5 => (intro W hW; go_simp; first | done | with_reducible rfl)
            try simp only [List.getElem_toArray, List.getElem_cons_succ, List.getElem_cons_zero, Act.put, List.setIfInBounds_toArray, List.set_cons_zero, List.set_cons_succ]
            refine wpAnyH_done (by kernel_rfl) ?_ _
            have b7 : Below wb.heap.size wb w7 := (below_drewN (Below.refl _ _) 1).trans hb7
            have b8 := b7.trans (hb8.mono b7.size)
            have B8 := Lib.hid (Hbw.out.trans (b8.mono Hbw.out.size))
            clear hb7 hb8 b7 b8 hk7 hk8
            go_wp2
            go_ret
            exact ⟨rfl, B8.out⟩
end Go.Proofs.Ytejjbbomkedpcaa
