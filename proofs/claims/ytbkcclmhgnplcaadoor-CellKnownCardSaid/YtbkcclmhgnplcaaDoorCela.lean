/- Package cell's Group: cells of one key, 19 at most. -/
import Derived.Test.YtbkcclmhgnplcaaDoorCel9
namespace Go.Proofs.YtbkcclmhgnplcaaDoor
open Go.RowKit Go.Shelf
attribute [local go_sem] Oper.semAt_some
theorem SortedC.one {key : List Int} {l : List Cel} (h : OneKey key l) : SortedC l := fun i x y hx hy => by
  rw [h x (List.mem_of_getElem? hx), h y (List.mem_of_getElem? hy), cmpL_self]
  exact Int.le_refl _
set_option maxRecDepth 100000 in
set_option maxHeartbeats 1000000 in
theorem group_any (ad : Addr) (c N : Nat) (x0 : Cel) (L : List Cel) (key : List Int) (me : Nat) (w : World) (hl : CellsR w ad (x0 :: L)) (he : ∀ x ∈ x0 :: L, EvenC me x) (hkey : OneKey key (x0 :: L)) (hkl : key.length ≤ 1000000) (hm : me ≤ 1000000) (hN : N = L.length + 1) (hn : N ≤ 19) :
    Calls Tryd.prog 28 #[.slice (some ad) N c] w fun e w' => ∃ v k s n m, e = .returned v ∧ GR w.heap.size w' v k s n m (joinAll (x0 :: L)) ∧ Below w.heap.size w w' := by
  refine callsIn_wide (n := 9).1 ?_
  obtain ⟨J, hJ⟩ : ∃ J, J = joinAll (x0 :: L) := ⟨_, rfl⟩
  rw [← hJ]
  have HJ := Lib.hid hJ
  clear hJ
  obtain ⟨vs, hr, hcv⟩ := hl.vals
  have hvN : vs.length = N := by rw [hr.1, hN]; rfl
  have Heven : ∀ W, Keeps w W → Calls Tryd.prog 47 #[.slice (some ad) N c] W fun e w' => e = .returned (.bool true) ∧ Below W.heap.size W w' := fun W hW => by
    have := even_any ad c (x0 :: L) me W (hl.keep hW) he hm (by simp; omega)
    rwa [show (x0 :: L).length = N from by rw [hN]; rfl] at this
  have Hclone : ∀ W, Keeps w W → Calls Tryd.prog 49 #[.slice (some ad) N c] W fun e w' => ∃ g c', e = .returned (.slice (some ⟨g, 0, none⟩) N c') ∧ N ≤ c' ∧ c' ≤ maxLen ∧ W.heap.size ≤ g ∧ CellsR w' ⟨g, 0, none⟩ (x0 :: L) ∧ Below W.heap.size W w' := fun W hW => by
    have := cclone_any ad c vs (x0 :: L) W (hr.keep hW) (fun j u hu => hW _ _ (hcv j u hu)) (by omega)
    rw [hvN] at this
    refine this.mono ?_
    rintro e w' ⟨v', rfl, ho, hb⟩
    obtain ⟨P, c', rfl, q1, q2, q3⟩ := own_form ho
    obtain ⟨g, rfl, q4, q5⟩ := q3 (by omega)
    exact ⟨g, c', rfl, q1, q2, q4, cells_of_vals (hr.keep (hW.trans (Keeps.of_below hb))) (fun j u hu => by rw [add0]; exact q5 j u hu), hb⟩
  have Hsort : ∀ W g c', CellsR W ⟨g, 0, none⟩ (x0 :: L) → Calls Tryd.prog 50 #[.slice (some ⟨g, 0, none⟩) N c', .func (.func 51) #[] #[]] W fun e w' => (∃ v, e = .returned v) ∧ Below W.heap.size W w' := fun W g c' h =>
    sort_any ⟨g, 0, none⟩ c' N (x0 :: L) W h (SortedC.one hkey) (fun x hx => by rw [hkey x hx]; exact hkl) (by rw [hN]; rfl) hn
  have He := Lib.hid he
  have Hkey := Lib.hid hkey
  have HE := Lib.hid Heven
  have HC := Lib.hid Hclone
  have HS := Lib.hid Hsort
  have HN := Lib.hid hN
  clear hl he hkey hr hcv hvN Heven Hclone Hsort vs hN
  refine callsIn_of_wp_marks Tryd.func28 rfl trivial ?_ rfl
  simp only [Tryd.ntmps28, List.size_toArray, List.length_cons, List.length_nil, Nat.reduceAdd, Nat.reduceSub, Array.replicate_succ, Array.replicate_zero, List.push_toArray, List.append_toArray, List.nil_append, List.cons_append]
  gi_wp2_with fail
  refine ⟨trivial, ?_⟩
  refine (callsIn_wide.2 (HE.out w (Keeps.refl _))).mono ?_
  rintro e w1 ⟨rfl, hb1⟩
  have B1 := Lib.hid hb1
  clear hb1 HE
  gi_wp2_with fail
  refine ⟨trivial, ?_⟩
  refine (callsIn_wide.2 (HC.out w1 (Keeps.of_below B1.out))).mono ?_
  rintro e w2 ⟨g, c', rfl, hc1, hc2, hg, hcl, hb2⟩
  have hgs : g < w2.heap.size := by
    obtain ⟨_, _, _, _, h, _⟩ := hcl.first
    rcases Nat.lt_or_ge g w2.heap.size with h1 | h1
    · exact h1
    · simp [World.cell?, Array.getElem?_eq_none h1] at h
  have B2 := Lib.hid (B1.out.trans (hb2.mono B1.out.size))
  have HG := Lib.hid hg
  have HGs := Lib.hid hgs
  have HCl := Lib.hid hcl
  clear hg hgs hcl hb2 HC
  gi_wp2_with fail
  refine ⟨trivial, ?_⟩
  refine (callsIn_wide.2 (HS.out w2 g c' HCl.out)).mono ?_
  rintro e w3 ⟨⟨v0, rfl⟩, hb3⟩
  have B3 := Lib.hid (B2.out.trans (hb3.mono B2.out.size))
  have HCl3 := Lib.hid (HCl.out.keep (Keeps.of_below hb3))
  have HGs3 := Lib.hid (show g < w3.heap.size from Nat.lt_of_lt_of_le HGs.out hb3.size)
  clear hb3 HS HCl HGs
  gi_wp2_with fail
  refine ⟨trivial, ?_⟩
  refine (callsIn_wide.2 (alike_in (some ⟨g, 0, none⟩) N c' _)).mono ?_
  rintro e w4 ⟨rfl, rfl⟩
  have b0 := (Boxed.new w3 31 (.slice none 0 0)).alloc (.cells #[.slice (some ⟨g, 0, none⟩) N c'] 31)
  have b1 := Boxed.new (w3.alloc (.cells #[.slice none 0 0] 31)) 31 (.slice (some ⟨g, 0, none⟩) N c')
  have hB4 : Below w.heap.size w ((w3.alloc (.cells #[.slice none 0 0] 31)).alloc (.cells #[.slice (some ⟨g, 0, none⟩) N c'] 31)) := (B3.out.alloc B3.out.size _).alloc (by have := B3.out.size; simp; omega) _
  have hz4 : ((w3.alloc (.cells #[.slice none 0 0] 31)).alloc (.cells #[.slice (some ⟨g, 0, none⟩) N c'] 31)).heap.size = w3.heap.size + 2 := by simp
  have hcl4 := HCl3.out.keep (((Keeps.refl w3).alloc (.cells #[.slice none 0 0] 31)).alloc (.cells #[.slice (some ⟨g, 0, none⟩) N c'] 31))
  simp only [World.size_alloc] at b0 b1 ⊢
  gi_wp2_with fail
  generalize (w3.alloc (.cells #[.slice none 0 0] 31)).alloc (.cells #[.slice (some ⟨g, 0, none⟩) N c'] 31) = w4 at b0 b1 hB4 hz4 hcl4 ⊢
  have hw3 := B3.out.size
  have HNl := Lib.hid (show N = (x0 :: L).length by rw [HN.out]; rfl)
  refine wpIn_rangeFunc_ownG rfl (by omega) (gf := 79) (lb := #[.pointer (some ⟨w3.heap.size + 1, 0, none⟩)]) rfl trivial (enters_of Tryd.func79 (by kernel_rfl) rfl)
    (alike1_stops 8 (by omega) (w3.heap.size + 1) ⟨g, 0, none⟩ c' N (x0 :: L) key HNl.out (by rw [HN.out]; omega) (by omega) hc1 Hkey.out hkl w4 (by omega) b1.cell hcl4) (fun _ _ => trivial) (fun _ _ _ _ _ _ _ _ => trivial) (Below.refl _ _) (fun _ => rfl)
    (GI w.heap.size w4 w3.heap.size J) (fun _ _ _ => False) (GI.own (by omega)) (fun _ _ _ _ _ hs _ _ => hs) ⟨fun _ => Below.refl _ _, fun h => absurd rfl h⟩
    (fun _ => { tmps := #[.slice (some ad) N c, undef, .slice none 0 0, .slice (some ⟨g, 0, none⟩) N c', .pointer (some ⟨w3.heap.size, 0, none⟩), .slice (some ⟨g, 0, none⟩) N c', .slice (some ad) N c, .bool true, .bool false, .slice (some ad) N c, .slice (some ⟨g, 0, none⟩) N c', .slice (some ⟨g, 0, none⟩) N c', v0, .slice (some ⟨g, 0, none⟩) N c', .func (.func 79) #[] #[.pointer (some ⟨w3.heap.size + 1, 0, none⟩)], .slice (some ⟨g, 0, none⟩) N c', undef, undef, undef, undef, undef, undef], defers := [] }) ?assign ?body ?done ?stop
  case assign =>
    intro l x W K hK
    gi_wp2
    exact hK
  case done =>
    rintro D ys W hD hys hI hK
    obtain ⟨hb, v, k, s, n, m, hv, hgr⟩ := hI.2 (fun h => by rw [h] at hys; cases hys)
    have hc := hv.cell
    have HGr := Lib.hid hgr
    have HBW := Lib.hid (hB4.trans hb)
    have HK := Lib.hid hK
    clear hys hgr hb hI
    gi_wp2
    refine ⟨by simp, .inl ⟨_, _, rfl, run_takeDeferred HK.out, ?_⟩⟩
    have g2 := HGr.out.kept (grownBy_putObj' W D (.deferred none)) (fun r e => by cases e; exact ⟨_, HK.out, rfl⟩)
    exact ⟨_, results_tmp rfl _ _ _, v, k, s, n, m, rfl, ⟨own_mono g2.1 (by omega), g2.2.mono (by omega)⟩, HBW.out.trans (belowK_b (w := w) (Nat.le_refl _) W D _ _ (by omega) HK.out rfl rfl)⟩
  case stop =>
    rintro D c pre W _ _ h _
    exact h.elim
  case body =>
    rintro l pre x W hI hlt
    obtain rfl : pre = [] := List.eq_nil_of_length_eq_zero (by omega)
    have h0 := hI.1 rfl
    have hcW := hcl4.keep (show Keeps w4 W.drew from (Keeps.of_below h0).drewN 1)
    have hj := joined_any ⟨g, 0, none⟩ c' L.length x0 L me W.drew hcW He.out (by rw [Hkey.out x0 (by simp)]; exact hkl) hm rfl (by have := HN.out; omega) (by have := HN.out; omega) hc2
    rw [← HN.out, ← HJ.out] at hj
    have hstep := fun X1 k s n m => group_step w.heap.size w4 W X1 w3.heap.size J k s n m (by omega) (by omega) b0 h0
    have hcW0 : W.cell? ⟨w3.heap.size, 0, none⟩ = some (.slice none 0 0) := (Keeps.of_below h0) _ _ b0.cell
    have hk1 : ∀ X1, Below W.drew.heap.size W.drew X1 → X1.cell? ⟨w3.heap.size, 0, none⟩ = some (.slice none 0 0) := fun X1 h => (Keeps.of_below h) _ _ hcW0
    have Hj := Lib.hid hj
    have Hst := Lib.hid hstep
    have Hk1 := Lib.hid hk1
    clear hj hstep hk1 hcW h0 hI hcl4 b0 b1 hB4 hz4
    gi_wp2_with fail
    refine region_I (S := fun _ => True) (by kernel_rfl) trivial (fun hHeld => ?_)
    refine anyI_take (i := 1) (v := ?vb1) (by kernel_rfl) rfl (by kernel_rfl) (by kernel_rfl) (by kernel_rfl) (fun _ _ _ h => h) (fun _ => rfl) (Or.inl ⟨by rfl, ?yb1⟩) hHeld ?rb1
    case yb1 => (intro W hW; go_simp; first | done | with_reducible rfl)
    try simp only [List.getElem_toArray, List.getElem_cons_succ, List.getElem_cons_zero, Act.put, List.setIfInBounds_toArray, List.set_cons_zero, List.set_cons_succ]
    refine anyI_ready (rs := [0, 2]) (by kernel_rfl) (by simp) ?_
    refine AllI.cons (by kernel_rfl) rfl (by rfl) (fun K hK => ?_) (AllI.cons (by kernel_rfl) rfl (by rfl) (fun K hK => ?_) (AllI.nil))
    · refine ⟨fun _ _ => trivial, ?_⟩
      go_simp
      refine hK.out _ _ (trivial) (fun hHeld => ?_)
      clear hK K
      try simp only [List.getElem_toArray, List.getElem_cons_succ, List.getElem_cons_zero, Act.put, List.setIfInBounds_toArray, List.set_cons_zero, List.set_cons_succ]
      refine anyI_ready (rs := [2]) (by kernel_rfl) (by simp) ?_
      refine AllI.cons (by kernel_rfl) rfl (by rfl) (fun K hK => ?_) (AllI.nil)
      refine ⟨fun _ _ => trivial, ?_⟩
      go_simp
      refine (CallsIn.inRound l (callsIn_wide.2 Hj.out)).mono ?_
      rintro e X1 ⟨k, s, n, m, rfl, hco, hap, hbx⟩
      dsimp only
      obtain ⟨g', cp, X3, hrun, hx3, hkf, hgi⟩ := Hst.out X1 k s n m hco hbx
      have c1 := Hk1.out X1 hbx
      have c2 : (X1.alloc (.cells #[k, .int .i64 J.cnt, s, n, m] 33)).cell? ⟨w3.heap.size, 0, none⟩ = some (.slice none 0 0) := ((Keeps.refl X1).alloc _) _ _ c1
      have x3f := hx3.frozen
      have x3c := hx3.cell
      obtain ⟨Pk, ck, f1, -⟩ := hco.key.form
      obtain ⟨Ps, cs, f2, -⟩ := hco.sum.form
      obtain ⟨Pn, cn, f3, -⟩ := hco.mn.form
      obtain ⟨Pm, cm, f4, -⟩ := hco.mx.form
      subst f1 f2 f3 f4
      have Hrun := Lib.hid hrun
      have Hfin := Lib.hid (show KeepsFrom w4.heap.size W _ ∧ True ∧ GI w.heap.size w4 w3.heap.size J ([] ++ [x]) _ from ⟨hkf, trivial, hgi⟩)
      clear hco hap hbx hrun hx3 hkf hgi
      refine hK.out _ _ (trivial) (fun hHeld => ?_)
      clear hK K
      try simp only [List.getElem_toArray, List.getElem_cons_succ, List.getElem_cons_zero, Act.put, List.setIfInBounds_toArray, List.set_cons_zero, List.set_cons_succ]
      refine anyI_ready (rs := [3]) (by kernel_rfl) (by simp) ?_
      refine AllI.cons (by kernel_rfl) rfl (by rfl) (fun K hK => ?_) (AllI.nil)
      refine ⟨fun _ _ => trivial, ?_⟩
      go_simp
      refine hK.out _ _ (trivial) (fun hHeld => ?_)
      clear hK K
      try simp only [List.getElem_toArray, List.getElem_cons_succ, List.getElem_cons_zero, Act.put, List.setIfInBounds_toArray, List.set_cons_zero, List.set_cons_succ]
      refine anyI_ready (rs := [4]) (by kernel_rfl) (by simp) ?_
      refine AllI.cons (by kernel_rfl) rfl (by rfl) (fun K hK => ?_) (AllI.nil)
      refine ⟨fun _ _ => trivial, ?_⟩
      refine uponI_append (.tmp 16) (.tmp 19) 31 rfl _ _ _ rfl rfl Hrun.out ?_
      refine hK.out _ _ (trivial) (fun hHeld => ?_)
      clear hK K
      try simp only [List.getElem_toArray, List.getElem_cons_succ, List.getElem_cons_zero, Act.put, List.setIfInBounds_toArray, List.set_cons_zero, List.set_cons_succ]
      refine anyI_ready (rs := [5]) (by kernel_rfl) (by simp) ?_
      refine AllI.cons (by kernel_rfl) rfl (by rfl) (fun K hK => ?_) (AllI.nil)
      refine ⟨fun _ _ => trivial, ?_⟩
      go_simp
      refine hK.out _ _ (trivial) (fun hHeld => ?_)
      clear hK K
      try simp only [List.getElem_toArray, List.getElem_cons_succ, List.getElem_cons_zero, Act.put, List.setIfInBounds_toArray, List.set_cons_zero, List.set_cons_succ]
      refine anyI_done (by kernel_rfl) ?_ _
      gi_wp2
      exact Hfin.out
    · refine ⟨fun _ _ => trivial, ?_⟩
      go_simp
      refine (CallsIn.inRound l (callsIn_wide.2 Hj.out)).mono ?_
      rintro e X1 ⟨k, s, n, m, rfl, hco, hap, hbx⟩
      dsimp only
      obtain ⟨g', cp, X3, hrun, hx3, hkf, hgi⟩ := Hst.out X1 k s n m hco hbx
      have c1 := Hk1.out X1 hbx
      have c2 : (X1.alloc (.cells #[k, .int .i64 J.cnt, s, n, m] 33)).cell? ⟨w3.heap.size, 0, none⟩ = some (.slice none 0 0) := ((Keeps.refl X1).alloc _) _ _ c1
      have x3f := hx3.frozen
      have x3c := hx3.cell
      obtain ⟨Pk, ck, f1, -⟩ := hco.key.form
      obtain ⟨Ps, cs, f2, -⟩ := hco.sum.form
      obtain ⟨Pn, cn, f3, -⟩ := hco.mn.form
      obtain ⟨Pm, cm, f4, -⟩ := hco.mx.form
      subst f1 f2 f3 f4
      have Hrun := Lib.hid hrun
      have Hfin := Lib.hid (show KeepsFrom w4.heap.size W _ ∧ True ∧ GI w.heap.size w4 w3.heap.size J ([] ++ [x]) _ from ⟨hkf, trivial, hgi⟩)
      clear hco hap hbx hrun hx3 hkf hgi
      refine hK.out _ _ (trivial) (fun hHeld => ?_)
      clear hK K
      try simp only [List.getElem_toArray, List.getElem_cons_succ, List.getElem_cons_zero, Act.put, List.setIfInBounds_toArray, List.set_cons_zero, List.set_cons_succ]
      refine anyI_ready (rs := [0, 3]) (by kernel_rfl) (by simp) ?_
      refine AllI.cons (by kernel_rfl) rfl (by rfl) (fun K hK => ?_) (AllI.cons (by kernel_rfl) rfl (by rfl) (fun K hK => ?_) (AllI.nil))
      · refine ⟨fun _ _ => trivial, ?_⟩
        go_simp
        refine hK.out _ _ (trivial) (fun hHeld => ?_)
        clear hK K
        try simp only [List.getElem_toArray, List.getElem_cons_succ, List.getElem_cons_zero, Act.put, List.setIfInBounds_toArray, List.set_cons_zero, List.set_cons_succ]
        refine anyI_ready (rs := [3]) (by kernel_rfl) (by simp) ?_
        refine AllI.cons (by kernel_rfl) rfl (by rfl) (fun K hK => ?_) (AllI.nil)
        refine ⟨fun _ _ => trivial, ?_⟩
        go_simp
        refine hK.out _ _ (trivial) (fun hHeld => ?_)
        clear hK K
        try simp only [List.getElem_toArray, List.getElem_cons_succ, List.getElem_cons_zero, Act.put, List.setIfInBounds_toArray, List.set_cons_zero, List.set_cons_succ]
        refine anyI_ready (rs := [4]) (by kernel_rfl) (by simp) ?_
        refine AllI.cons (by kernel_rfl) rfl (by rfl) (fun K hK => ?_) (AllI.nil)
        refine ⟨fun _ _ => trivial, ?_⟩
        refine uponI_append (.tmp 16) (.tmp 19) 31 rfl _ _ _ rfl rfl Hrun.out ?_
        refine hK.out _ _ (trivial) (fun hHeld => ?_)
        clear hK K
        try simp only [List.getElem_toArray, List.getElem_cons_succ, List.getElem_cons_zero, Act.put, List.setIfInBounds_toArray, List.set_cons_zero, List.set_cons_succ]
        refine anyI_ready (rs := [5]) (by kernel_rfl) (by simp) ?_
        refine AllI.cons (by kernel_rfl) rfl (by rfl) (fun K hK => ?_) (AllI.nil)
        refine ⟨fun _ _ => trivial, ?_⟩
        go_simp
        refine hK.out _ _ (trivial) (fun hHeld => ?_)
        clear hK K
        try simp only [List.getElem_toArray, List.getElem_cons_succ, List.getElem_cons_zero, Act.put, List.setIfInBounds_toArray, List.set_cons_zero, List.set_cons_succ]
        refine anyI_done (by kernel_rfl) ?_ _
        gi_wp2
        exact Hfin.out
      · refine ⟨fun _ _ => trivial, ?_⟩
        go_simp
        refine hK.out _ _ (trivial) (fun hHeld => ?_)
        clear hK K
        try simp only [List.getElem_toArray, List.getElem_cons_succ, List.getElem_cons_zero, Act.put, List.setIfInBounds_toArray, List.set_cons_zero, List.set_cons_succ]
        refine anyI_ready (rs := [0]) (by kernel_rfl) (by simp) ?_
        refine AllI.cons (by kernel_rfl) rfl (by rfl) (fun K hK => ?_) (AllI.nil)
        refine ⟨fun _ _ => trivial, ?_⟩
        go_simp
        refine hK.out _ _ (trivial) (fun hHeld => ?_)
        clear hK K
        try simp only [List.getElem_toArray, List.getElem_cons_succ, List.getElem_cons_zero, Act.put, List.setIfInBounds_toArray, List.set_cons_zero, List.set_cons_succ]
        refine anyI_ready (rs := [4]) (by kernel_rfl) (by simp) ?_
        refine AllI.cons (by kernel_rfl) rfl (by rfl) (fun K hK => ?_) (AllI.nil)
        refine ⟨fun _ _ => trivial, ?_⟩
        refine uponI_append (.tmp 16) (.tmp 19) 31 rfl _ _ _ rfl rfl Hrun.out ?_
        refine hK.out _ _ (trivial) (fun hHeld => ?_)
        clear hK K
        try simp only [List.getElem_toArray, List.getElem_cons_succ, List.getElem_cons_zero, Act.put, List.setIfInBounds_toArray, List.set_cons_zero, List.set_cons_succ]
        refine anyI_ready (rs := [5]) (by kernel_rfl) (by simp) ?_
        refine AllI.cons (by kernel_rfl) rfl (by rfl) (fun K hK => ?_) (AllI.nil)
        refine ⟨fun _ _ => trivial, ?_⟩
        go_simp
        refine hK.out _ _ (trivial) (fun hHeld => ?_)
        clear hK K
        try simp only [List.getElem_toArray, List.getElem_cons_succ, List.getElem_cons_zero, Act.put, List.setIfInBounds_toArray, List.set_cons_zero, List.set_cons_succ]
        refine anyI_done (by kernel_rfl) ?_ _
        gi_wp2
        exact Hfin.out
end Go.Proofs.YtbkcclmhgnplcaaDoor
