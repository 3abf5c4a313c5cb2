/- The walk of the law RecBack: the Go text returns true, and writes nothing that was there. -/
import Derived.Test.YtbjlbambheogbaaFactsLaw
import Derived.Test.YtbjlbambheogbaaRowsSet
import Derived.Test.YtbjlbambheogbaaRefEncode
import Derived.Deep.CutRange
import Derived.Deep.DeepCutAuto
import Derived.Deep.RegionLaw
import Derived.Deep.RegionHeld
namespace Go.Proofs.Ytbjlbambheogbaa
open Go.RowKit
/-- Rows that may be, of small numbers. -/
structure Good (cs : List Int) (mm : Nat) (l : List Fact) : Prop where
  right : allRightB cs (mm : Int) l = true
  small : ∀ r ∈ l, (∀ x ∈ r.key, inK .i64 x) ∧ ∀ x ∈ r.m, inK .i64 x
theorem Good.set_m {cs : List Int} {mm i j : Nat} {l : List Fact} {r : Fact} {x : Int} (h : Good cs mm l) (hr : l[i]? = some r) (hx : inK .i64 x) : Good cs mm (l.set i ⟨r.key, r.m.set j x⟩) := by
  obtain ⟨h1, h2⟩ := allRightB_spec h.right
  have hm := List.mem_of_getElem? hr
  refine ⟨allRightB_yes h1 fun y hy => ?_, fun y hy => ?_⟩
  · rcases List.mem_or_eq_of_mem_set hy with hy | rfl
    · exact h2 y hy
    · have := h2 r hm
      simpa [rightB] using this
  · rcases List.mem_or_eq_of_mem_set hy with hy | rfl
    · exact h.small y hy
    · refine ⟨(h.small r hm).1, fun z hz => ?_⟩
      rcases List.mem_or_eq_of_mem_set hz with hz | rfl
      · exact (h.small r hm).2 z hz
      · exact hx
theorem Good.lens {cs : List Int} {mm : Nat} {l : List Fact} (h : Good cs mm l) : cs.length ≤ 4 ∧ mm ≤ 2 ∧ ∀ r ∈ l, r.key.length ≤ 4 ∧ r.m.length ≤ 2 := by
  obtain ⟨h1, h2⟩ := allRightB_spec h.right
  obtain ⟨k1, k2, k3, k4, k5⟩ := checkB_spec h1
  refine ⟨k2, by omega, fun r hr => ?_⟩
  have a := keysB_len (rightB_key (h2 r hr))
  have b := rightB_m (h2 r hr)
  omega
set_option maxRecDepth 100000 in
set_option maxHeartbeats 8000000 in
theorem back_walk (a0 : Int) (a1 : Option Addr) (len1 cap1 : Nat) (z1 : List Int) (a2 : Int) (a3 : Option Addr) (len3 cap3 : Nat) (z3 : List Int) (a4 : Int) (w : World) (h0 : inK .i64 a0) (w1 : IsRow .i64 w a1 len1 cap1 z1) (h2 : inK .i64 a2) (w3 : IsRow .i64 w a3 len3 cap3 z3) (h4 : inK .i64 a4) :
    Calls Try.prog 4 #[.int .i64 a0, .slice a1 len1 cap1, .int .i64 a2, .slice a3 len3 cap3, .int .i64 a4] w fun e w' => e = .returned (.bool true) ∧ Below w.heap.size w w' := by
  obtain ⟨n1, lc1, cm1⟩ := w1.nums
  obtain ⟨n3, lc3, cm3⟩ := w3.nums
  have N1 := Lib.hid n1
  have N3 := Lib.hid n3
  clear w1 w3 n1 n3
  go_enter Try.func4, Try.ntmps4
  go_wp2_with fail
  refine (known_any w).mono ?_
  rintro e w1 ⟨rfl, hb1⟩
  have Hb1 := Lib.hid hb1
  clear hb1
  go_wp2_with fail
  refine (Facts_res a0 a2 a1 a3 len1 cap1 len3 cap3 _ _ w1 (N1.out.keep (Keeps.of_below Hb1.out)) (N3.out.keep (Keeps.of_below Hb1.out)) (by omega) (by omega) h0 h2).mono ?_
  rintro e w2 ⟨A, c, D, d, C, q, mm, m, cs, l, rfl, hF⟩
  have F := Lib.hid hF
  obtain ⟨k1, k2, k3, k4⟩ : 1 ≤ q ∧ q ≤ 4 ∧ mm ≤ 2 ∧ m ≤ 40 := ⟨hF.q1, hF.q4, hF.m2, hF.m40⟩
  have hs := Box2.new w2 24 (.slice A q c) (.int .i64 mm)
  have hb := (Below.refl w2.heap.size w2).alloc (Nat.le_refl _) (.cells #[.slice A q c, .int .i64 mm] 24)
  have hX := hF.rows.below hb (Nat.le_refl _)
  have hO := own_below hF.own hb (Nat.le_refl _)
  have hB := (Hb1.out.trans ((hF.below.trans (hb.mono hF.below.size)).mono Hb1.out.size))
  obtain ⟨S, hS⟩ : ∃ S, S = w2.heap.size := ⟨_, rfl⟩
  have hSC : w.heap.size ≤ S ∧ w.heap.size ≤ C := ⟨by rw [hS]; exact Nat.le_trans Hb1.out.size hF.below.size, Nat.le_trans Hb1.out.size hF.wC⟩
  rw [← hS] at hs
  clear hF hb
  have HX := Lib.hid hX
  have HO := Lib.hid hO
  have HB := Lib.hid hB
  have HS := Lib.hid hs
  have HSe := Lib.hid hS
  obtain ⟨hwS, hwC⟩ := hSC
  clear hX hO hB hs hS
  go_upto_region 4 with (fail)
  rw [← HSe.out]
  generalize w2.alloc _ = w3 at HX HO HB HS ⊢
  have c0 := HS.out.cell0
  have c1 := HS.out.cell1
  obtain ⟨b, hb⟩ : ∃ b, b = decide (0 < m ∧ 0 < mm) := ⟨_, rfl⟩
  go_cut [34] from 27 to 34 (fun s wx => wx = w3 ∧ s = .bool b)
  case first =>
    by_cases hgo : 0 < m ∧ 0 < mm
    · have hb' : b = true := by rw [hb]; exact decide_eq_true hgo
      obtain ⟨hg1, hg2⟩ := hgo
      have Hb' := Lib.hid hb'
      clear hb hb'
      go_wp2
      go_meet
      exact ⟨rfl, by rw [Hb'.out]⟩
    · have hb' : b = false := by rw [hb]; exact decide_eq_false hgo
      have Hb' := Lib.hid hb'
      have hgo' : ¬ 0 < m ∨ (0 < m ∧ ¬ 0 < mm) := by omega
      clear hb hb' hgo
      rcases hgo' with h | ⟨h, h'⟩
      all_goals
        go_wp2
        go_meet
        exact ⟨rfl, by rw [Hb'.out]⟩
  case rest =>
    obtain ⟨rfl, rfl⟩ := hcut
    go_upto_if 34 with (fail)
    go_cut [] from 35 to 40 (fun wx => ∃ l', l'.length = m ∧ Good cs mm l' ∧ RowsX wx C (.slice D m d) l' ∧ Box2 24 wx S (.slice A q c) (.int .i64 mm) ∧ Nums .i64 wx A q cs ∧ Below w.heap.size w wx)
    case first =>
      have hgood : Good cs mm l := ⟨F.out.right, F.out.small⟩
      cases b with
      | true =>
        obtain ⟨hg1, hg2⟩ : 0 < m ∧ 0 < mm := of_decide_eq_true hb.symm
        obtain ⟨r, hr⟩ : ∃ r, l[0]? = some r := ⟨_, List.getElem?_eq_getElem (by rw [F.out.em]; exact hg1)⟩
        have hrm := (F.out.lens r (List.mem_of_getElem? hr)).2
        obtain ⟨gl, cl, g, dd, hv, hc1, hf, ⟨y, hy⟩, hgC, hX'⟩ := HX.out.set_m hr (j := 0) (by omega) a4
        rw [F.out.em] at hv
        rw [hrm] at hc1
        injection hv with hv1 _ hv3
        subst hv1
        subst hv3
        have hgS : g ≠ S := by
          intro e
          have h1 := HS.out
          subst e
          have h2 := h1.cell0
          rw [hy] at h2
          cases h2
        have hfin : ∃ l', l'.length = m ∧ Good cs mm l' ∧ RowsX (wc.setCell ⟨g, 0, none⟩ (.int .i64 a4)) C (.slice (some ⟨gl, 0, none⟩) m d) l' ∧ Box2 24 (wc.setCell ⟨g, 0, none⟩ (.int .i64 a4)) S (.slice A q c) (.int .i64 mm) ∧ Nums .i64 (wc.setCell ⟨g, 0, none⟩ (.int .i64 a4)) A q cs ∧ Below w.heap.size w (wc.setCell ⟨g, 0, none⟩ (.int .i64 a4)) := by
          refine ⟨_, by rw [List.length_set]; exact F.out.em, hgood.set_m hr h4, hX', HS.out.only (only_setCell g wc 0 _) (Ne.symm hgS), ?_, HB.out.setCell (by exact (by omega : w.heap.size ≤ g)) _⟩
          have ho := own_far HO.out (g := g) (fun hx => by have := F.out.cC g hx; omega) 0 (.int .i64 a4)
          rw [← F.out.eq] at ho ⊢
          obtain ⟨A2, c2, e2, _, _, hn2⟩ := own_nums ho (fun x hx => by have := F.out.c16 x hx; simp only [inK]; omega)
          injection e2 with e2
          subst e2
          exact hn2
        have Fin := Lib.hid hfin
        clear hfin hX' hr hb hgood hrm hgS hgC
        go_wp2
        go_meet
        exact Fin.out
      | false =>
        have hfin : ∃ l', l'.length = m ∧ Good cs mm l' ∧ RowsX wc C (.slice D m d) l' ∧ Box2 24 wc S (.slice A q c) (.int .i64 mm) ∧ Nums .i64 wc A q cs ∧ Below w.heap.size w wc := by
          refine ⟨l, F.out.em, hgood, HX.out, HS.out, ?_, HB.out⟩
          have ho := HO.out
          rw [← F.out.eq] at ho ⊢
          obtain ⟨A2, c2, e2, _, _, hn2⟩ := own_nums ho (fun x hx => by have := F.out.c16 x hx; simp only [inK]; omega)
          injection e2 with e2
          subst e2
          exact hn2
        have Fin := Lib.hid hfin
        clear hfin hb hgood
        go_wp2
        go_meet
        exact Fin.out
    case rest =>
      have heq := F.out.eq
      clear hb c0 c1 HX HO HB HS HSe F N1 N3 hwC Hb1
      rename World => wx
      obtain ⟨l', hlm, hG, hX, hs, hn, hB⟩ := hcut
      obtain ⟨D2, d2, hv, hd1, hd2, hF⟩ := hX.rows.facts hG.small
      rw [hlm] at hv hF
      injection hv with hv1 _ hv3
      subst hv1
      subst hv3
      obtain ⟨g1, g2, g3⟩ := hG.lens
      have hE := Encode_any A D q c m d cs mm l' wx hn hF (by omega) hG.right
      have hL := encB_le (me := (mm : Int)) g1 (by omega) g3
      obtain ⟨xs, hxs⟩ : ∃ xs, xs = encB cs (mm : Int) l' := ⟨_, rfl⟩
      have hxb : Bytes xs := by rw [hxs]; exact encB_bytes _ _ _
      unfold NewBytes at hE
      rw [← hxs] at hE hL
      obtain ⟨L, hLe⟩ : ∃ L, L = xs.length := ⟨_, rfl⟩
      rw [← hLe] at hE hL
      have HLe := Lib.hid hLe
      have Hxs := Lib.hid hxs
      have Hxb := Lib.hid hxb
      have HE := Lib.hid hE
      have c0 := hs.cell0
      have c1 := hs.cell1
      have hsl := hs.lt
      have Hs := Lib.hid hs
      have Hn := Lib.hid hn
      have HF := Lib.hid hF
      have HB := Lib.hid hB
      have HG := Lib.hid hG
      have Heq := Lib.hid heq
      have Hlm := Lib.hid hlm
      have Hg3 := Lib.hid g3
      clear hE hLe hxs hxb hs hn hF hB hG hX heq hlm g3
      go_wp2_with fail
      refine HE.out.mono ?_
      rintro e w4 ⟨g, rfl, hbuf, hb4, hg⟩
      have hnum : Nums .u8 w4 (some ⟨g, 0, none⟩) L xs := by rw [HLe.out]; exact Arr.nums (T := 5) hbuf Hxb.out
      have hs4 := Hs.out.below hb4 hsl
      have HD := Lib.hid (Decode_any (some ⟨g, 0, none⟩) L L xs w4 hnum (Nat.le_refl _) (by omega))
      have c0 := hs4.cell0
      have c1 := hs4.cell1
      have Hn4 := Lib.hid (Hn.out.keep (Keeps.of_below hb4))
      have HF4 := Lib.hid (HF.out.keep (Keeps.of_below hb4))
      have HB4 := Lib.hid (HB.out.trans (hb4.mono HB.out.size))
      have Hnum := Lib.hid hnum
      have Hs4 := Lib.hid hs4
      have hsl4 := hs4.lt
      clear hbuf hb4 hg hnum hs4 HE HB Hs Hn HF
      go_wp2_with fail
      refine HD.out.mono ?_
      intro e w5 hd
      rw [Hxs.out] at hd
      obtain ⟨gt, ht, ps, rfl, hnt, hft, hb5, -, -, -, -⟩ := hd.back HG.out.right (by rw [Hlm.out]; omega) (fun r hr => (HG.out.small r hr).2)
      rw [Hlm.out] at hft ⊢
      rw [Heq.out] at hnt ⊢
      have hs5 := Hs4.out.below hb5 hsl4
      have Hn5 := Lib.hid (Hn4.out.keep (Keeps.of_below hb5))
      have HF5 := Lib.hid (HF4.out.keep (Keeps.of_below hb5))
      have HB5 := Lib.hid (HB4.out.trans (hb5.mono HB4.out.size))
      have Hnum5 := Lib.hid (Hnum.out.keep (Keeps.of_below hb5))
      have Hs5 := Lib.hid hs5
      have hsl5 := hs5.lt
      have Hnt := Lib.hid hnt
      have Hft := Lib.hid hft
      clear hd hb5 hs5 hnt hft Hn4 HF4 HB4 Hnum Hs4 HD
      go_upto_region 8 with (fail)
      obtain ⟨T, hT⟩ : ∃ T, T = w5.heap.size := ⟨_, rfl⟩
      have ht1 := Box2.new w5 24 (.slice (some ⟨gt, 0, none⟩) q q) (.int .i64 mm)
      have hb6 := (Below.refl w5.heap.size w5).alloc (Nat.le_refl _) (.cells #[.slice (some ⟨gt, 0, none⟩) q q, .int .i64 mm] 24)
      rw [← hT] at ht1 ⊢
      have hs6 := Hs5.out.below hb6 hsl5
      have Hn6 := Lib.hid (Hn5.out.keep (Keeps.of_below hb6))
      have HF6 := Lib.hid (HF5.out.keep (Keeps.of_below hb6))
      have HB6 := Lib.hid (HB5.out.trans (hb6.mono HB5.out.size))
      have Hnum6 := Lib.hid (Hnum5.out.keep (Keeps.of_below hb6))
      have Hnt6 := Lib.hid (Hnt.out.keep (Keeps.of_below hb6))
      have Hft6 := Lib.hid (Hft.out.keep (Keeps.of_below hb6))
      have Hs6 := Lib.hid hs6
      have Ht6 := Lib.hid ht1
      have hS6 := hs6.lt
      have hT6 := ht1.lt
      clear hb6 hs6 ht1 hT Hs5 Hn5 HF5 HB5 Hnum5 Hnt Hft
      generalize w5.alloc _ = w6 at Hn6 HF6 HB6 Hnum6 Hnt6 Hft6 Hs6 Ht6 hS6 hT6 ⊢
      have c0 := Hs6.out.cell0
      have c1 := Hs6.out.cell1
      have e0 := Ht6.out.cell0
      have e1 := Ht6.out.cell1
      have kc0 : (convert 36 9 (.slice (some ⟨g, 0, none⟩) L L)).run Try.prog w6.drew = .ok (.string (strOf xs)) w6.drew := conv_str _ _ _ Try.underlying36 Try.underlying5 Try.underlying9 _ _ _ _ _ Hnum6.out
      have HR : Hid (Calls Try.prog 24 #[.agg #[.slice A q c, .int .i64 mm], .slice D m d] w6.drew fun e w' => ∃ A' c', e = .returned (.slice A' L c') ∧ Nums .u8 w' A' L xs ∧ Below w6.heap.size w6 w') := by
        refine Lib.hid ((rEncode_any A D q c m d cs mm l' w6.drew Hn6.out HF6.out (by omega) (by omega) (by simp only [inK]; omega) Hg3.out).mono ?_)
        rintro e w' ⟨v, rfl, hv, hb⟩
        rw [← Hxs.out] at hv
        obtain ⟨A', c', rfl, _, _, hn'⟩ := own_bytes hv Hxb.out
        rw [← HLe.out] at hn' ⊢
        exact ⟨A', c', rfl, hn', ⟨hb.os, hb.tape, hb.output, hb.size, hb.block⟩⟩
      have hsame : sameB cs (mm : Int) l' cs (mm : Int) l' = true := by simp [sameB]
      have Hsame := Lib.hid hsame
      have hg5 : ∀ r ∈ l', r.key.length ≤ 4611686018427387904 ∧ r.m.length ≤ 4611686018427387904 := fun r hr => by have := Hg3.out r hr; omega
      have Hg5 := Lib.hid hg5
      clear hsame hg5 Hg3 HLe Hxs Hxb HG Heq Hlm
      refine wp_region_held_drew (S := fun W => Keeps w6 W) (by kernel_rfl) ((Keeps.refl w6).drewN 1) (fun hHeld => ?_)
      refine wpAnyH_take (i := 0) (v := ?v0) rfl (by kernel_rfl) (by kernel_rfl) (by kernel_rfl) (fun _ _ _ h => h) (Or.inl ⟨by rfl, ?y0⟩) hHeld ?r0
      case y0 => (intro W hW; go_simp; first | done | with_reducible rfl)
      try simp only [List.getElem_toArray, List.getElem_cons_zero, Act.put, List.setIfInBounds_toArray, List.set_cons_zero, List.set_cons_succ]
      refine wpAnyH_take (i := 1) (v := ?v1) rfl (by kernel_rfl) (by kernel_rfl) (by kernel_rfl) (fun _ _ _ h => h) (Or.inl ⟨by rfl, ?y1⟩) hHeld ?r1
      case y1 => (intro W hW; have hk : (convert 36 9 (.slice (some ⟨g, 0, none⟩) L L)).run Try.prog W = .ok (.string (strOf xs)) W := conv_str _ _ _ Try.underlying36 Try.underlying5 Try.underlying9 _ _ _ _ _ (Hnum6.out.keep hW); go_simp; first | done | with_reducible rfl)
      try simp only [List.getElem_toArray, List.getElem_cons_succ, List.getElem_cons_zero, Act.put, List.setIfInBounds_toArray, List.set_cons_zero, List.set_cons_succ]
      refine wpAnyH_take (i := 2) (v := ?v2) rfl (by kernel_rfl) (by kernel_rfl) (by kernel_rfl) (fun _ _ _ h => h) (Or.inl ⟨by rfl, ?y2⟩) hHeld ?r2
      case y2 => (intro W hW; have h0 := hW _ _ c0; have h1 := hW _ _ c1; have h2 := hW _ _ e0; have h3 := hW _ _ e1; go_simp; first | done | with_reducible rfl)
      try simp only [List.getElem_toArray, List.getElem_cons_succ, List.getElem_cons_zero, Act.put, List.setIfInBounds_toArray, List.set_cons_zero, List.set_cons_succ]
      refine wpAnyH_take (i := 3) (v := ?v3) rfl (by kernel_rfl) (by kernel_rfl) (by kernel_rfl) (fun _ _ _ h => h) (Or.inl ⟨by rfl, ?y3⟩) hHeld ?r3
      case y3 => (intro W hW; go_simp; first | done | with_reducible rfl)
      try simp only [List.getElem_toArray, List.getElem_cons_succ, List.getElem_cons_zero, Act.put, List.setIfInBounds_toArray, List.set_cons_zero, List.set_cons_succ]
      refine wpAnyH_ready (rs := [4]) (by kernel_rfl) (by simp) ?_
      refine AllReadyH.cons rfl (fun K hK => ?_) AllReadyH.nil
      go_simp
      refine HR.out.mono ?_
      rintro e w7 ⟨A7, c7, rfl, hn7, hb7⟩
      go_wp2_with fail
      refine hK.out _ _ ?_ (fun hHeld => ?_)
      · exact (Keeps.of_below hb7)
      clear hK K
      try simp only [List.getElem_toArray, List.getElem_cons_succ, List.getElem_cons_zero, Act.put, List.setIfInBounds_toArray, List.set_cons_zero, List.set_cons_succ]
      have kc1 : (convert 36 9 (.slice A7 L c7)).run Try.prog w7 = .ok (.string (strOf xs)) w7 := conv_str _ _ _ Try.underlying36 Try.underlying5 Try.underlying9 _ _ _ _ _ hn7
      refine wpAnyH_ready (rs := [5]) (by kernel_rfl) (by simp) ?_
      refine AllReadyH.cons rfl (fun K hK => ?_) AllReadyH.nil
      go_simp
      refine hK.out _ _ ?_ (fun hHeld => ?_)
      · exact (Keeps.of_below hb7)
      clear hK K
      try simp only [List.getElem_toArray, List.getElem_cons_succ, List.getElem_cons_zero, Act.put, List.setIfInBounds_toArray, List.set_cons_zero, List.set_cons_succ]
      refine wpAnyH_take (i := 6) (v := ?v6) rfl (by kernel_rfl) (by kernel_rfl) (by kernel_rfl) (fun _ _ _ h => h) (Or.inl ⟨by rfl, ?y6⟩) hHeld ?r6
      case y6 => (intro W hW; go_simp; first | done | with_reducible rfl)
      try simp only [List.getElem_toArray, List.getElem_cons_succ, List.getElem_cons_zero, Act.put, List.setIfInBounds_toArray, List.set_cons_zero, List.set_cons_succ]
      refine wpAnyH_take (i := 7) (v := ?v7) rfl (by kernel_rfl) (by kernel_rfl) (by kernel_rfl) (fun _ _ _ h => h) (Or.inl ⟨by rfl, ?y7⟩) hHeld ?r7
      case y7 => (intro W hW; go_simp; first | done | with_reducible rfl)
      try simp only [List.getElem_toArray, List.getElem_cons_succ, List.getElem_cons_zero, Act.put, List.setIfInBounds_toArray, List.set_cons_zero, List.set_cons_succ]
      refine wpAnyH_take (i := 8) (v := ?v8) rfl (by kernel_rfl) (by kernel_rfl) (by kernel_rfl) (fun _ _ _ h => h) (Or.inl ⟨by rfl, ?y8⟩) hHeld ?r8
      case y8 => (intro W hW; go_simp; first | done | with_reducible rfl)
      try simp only [List.getElem_toArray, List.getElem_cons_succ, List.getElem_cons_zero, Act.put, List.setIfInBounds_toArray, List.set_cons_zero, List.set_cons_succ]
      refine wpAnyH_take (i := 9) (v := ?v9) rfl (by kernel_rfl) (by kernel_rfl) (by kernel_rfl) (fun _ _ _ h => h) (Or.inl ⟨by rfl, ?y9⟩) hHeld ?r9
      case y9 => (intro W hW; go_simp; first | done | with_reducible rfl)
      try simp only [List.getElem_toArray, List.getElem_cons_succ, List.getElem_cons_zero, Act.put, List.setIfInBounds_toArray, List.set_cons_zero, List.set_cons_succ]
      refine wpAnyH_take (i := 10) (v := ?v10) rfl (by kernel_rfl) (by kernel_rfl) (by kernel_rfl) (fun _ _ _ h => h) (Or.inl ⟨by rfl, ?y10⟩) hHeld ?r10
      case y10 => (intro W hW; go_simp; first | done | with_reducible rfl)
      try simp only [List.getElem_toArray, List.getElem_cons_succ, List.getElem_cons_zero, Act.put, List.setIfInBounds_toArray, List.set_cons_zero, List.set_cons_succ]
      refine wpAnyH_take (i := 11) (v := ?v11) rfl (by kernel_rfl) (by kernel_rfl) (by kernel_rfl) (fun _ _ _ h => h) (Or.inl ⟨by rfl, ?y11⟩) hHeld ?r11
      case y11 => (intro W hW; go_simp; first | done | with_reducible rfl)
      try simp only [List.getElem_toArray, List.getElem_cons_succ, List.getElem_cons_zero, Act.put, List.setIfInBounds_toArray, List.set_cons_zero, List.set_cons_succ]
      refine wpAnyH_take (i := 12) (v := ?v12) rfl (by kernel_rfl) (by kernel_rfl) (by kernel_rfl) (fun _ _ _ h => h) (Or.inl ⟨by rfl, ?y12⟩) hHeld ?r12
      case y12 => (intro W hW; have h0 := hW _ _ c0; have h1 := hW _ _ c1; have h2 := hW _ _ e0; have h3 := hW _ _ e1; go_simp; first | done | with_reducible rfl)
      try simp only [List.getElem_toArray, List.getElem_cons_succ, List.getElem_cons_zero, Act.put, List.setIfInBounds_toArray, List.set_cons_zero, List.set_cons_succ]
      refine wpAnyH_take (i := 13) (v := ?v13) rfl (by kernel_rfl) (by kernel_rfl) (by kernel_rfl) (fun _ _ _ h => h) (Or.inl ⟨by rfl, ?y13⟩) hHeld ?r13
      case y13 => (intro W hW; have h0 := hW _ _ c0; have h1 := hW _ _ c1; have h2 := hW _ _ e0; have h3 := hW _ _ e1; go_simp; first | done | with_reducible rfl)
      try simp only [List.getElem_toArray, List.getElem_cons_succ, List.getElem_cons_zero, Act.put, List.setIfInBounds_toArray, List.set_cons_zero, List.set_cons_succ]
      refine wpAnyH_take (i := 14) (v := ?v14) rfl (by kernel_rfl) (by kernel_rfl) (by kernel_rfl) (fun _ _ _ h => h) (Or.inl ⟨by rfl, ?y14⟩) hHeld ?r14
      case y14 => (intro W hW; have h0 := hW _ _ c0; have h1 := hW _ _ c1; have h2 := hW _ _ e0; have h3 := hW _ _ e1; go_simp; first | done | with_reducible rfl)
      try simp only [List.getElem_toArray, List.getElem_cons_succ, List.getElem_cons_zero, Act.put, List.setIfInBounds_toArray, List.set_cons_zero, List.set_cons_succ]
      refine wpAnyH_take (i := 15) (v := ?v15) rfl (by kernel_rfl) (by kernel_rfl) (by kernel_rfl) (fun _ _ _ h => h) (Or.inl ⟨by rfl, ?y15⟩) hHeld ?r15
      case y15 => (intro W hW; have h0 := hW _ _ c0; have h1 := hW _ _ c1; have h2 := hW _ _ e0; have h3 := hW _ _ e1; go_simp; first | done | with_reducible rfl)
      try simp only [List.getElem_toArray, List.getElem_cons_succ, List.getElem_cons_zero, Act.put, List.setIfInBounds_toArray, List.set_cons_zero, List.set_cons_succ]
      have HSm := Lib.hid (Same_any A D (some ⟨gt, 0, none⟩) (some ⟨ht, 0, none⟩) q c m d q q m m cs cs mm mm l' l' w7 (Hn6.out.keep (Keeps.of_below hb7)) (HF6.out.keep (Keeps.of_below hb7)) (Hnt6.out.keep (Keeps.of_below hb7)) (Hft6.out.keep (Keeps.of_below hb7)) (by omega) (by omega) Hg5.out)
      refine wpAnyH_ready (rs := [16]) (by kernel_rfl) (by simp) ?_
      refine AllReadyH.cons rfl (fun K hK => ?_) AllReadyH.nil
      go_simp
      refine HSm.out.mono ?_
      rintro e w8 ⟨rfl, hb8⟩
      rw [Hsame.out]
      go_wp2_with fail
      refine hK.out _ _ ?_ (fun hHeld => ?_)
      · exact ((Keeps.of_below hb7).trans (Keeps.of_below hb8))
      clear hK K
      try simp only [List.getElem_toArray, List.getElem_cons_succ, List.getElem_cons_zero, Act.put, List.setIfInBounds_toArray, List.set_cons_zero, List.set_cons_succ]
      refine wpAnyH_take (i := 17) (v := ?v17) rfl (by kernel_rfl) (by kernel_rfl) (by kernel_rfl) (fun _ _ _ h => h) (Or.inl ⟨by rfl, ?y17⟩) hHeld ?r17
      case y17 => (intro W hW; go_simp; first | done | with_reducible rfl)
      try simp only [List.getElem_toArray, List.getElem_cons_succ, List.getElem_cons_zero, Act.put, List.setIfInBounds_toArray, List.set_cons_zero, List.set_cons_succ]
      refine wpAnyH_take (i := 18) (v := ?v18) rfl (by kernel_rfl) (by kernel_rfl) (by kernel_rfl) (fun _ _ _ h => h) (Or.inl ⟨by rfl, ?y18⟩) hHeld ?r18
      case y18 => (intro W hW; go_simp; first | done | with_reducible rfl)
      try simp only [List.getElem_toArray, List.getElem_cons_succ, List.getElem_cons_zero, Act.put, List.setIfInBounds_toArray, List.set_cons_zero, List.set_cons_succ]
      refine wpAnyH_done (by kernel_rfl) ?_ _
      have Hb7 := Lib.hid (HB6.out.trans (hb7.mono HB6.out.size))
      have Hb8 := Lib.hid (Hb7.out.trans (hb8.mono Hb7.out.size))
      clear hHeld hb7 hb8 kc1 kc0
      go_wp2
      go_ret
      exact ⟨rfl, Hb8.out⟩
end Go.Proofs.Ytbjlbambheogbaa
