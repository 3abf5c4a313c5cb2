/- Package cell's Of. -/
import Derived.Test.YtbkcclmhgnplcaaDoorCela
import Derived.Test.YtbkcclmhgnplcaaDoorValues
namespace Go.Proofs.YtbkcclmhgnplcaaDoor
open Go.RowKit
/-- What of a key a set picks. -/
def ofKey (key : List Int) (set : Int) : List Int := (dimsL set).map (pick key (fullB key.length))
theorem pick_ok {key : List Int} (h : ∀ x ∈ key, inK .i64 x) (f d : Int) : inK .i64 (pick key f d) := by
  unfold pick
  cases hx : key[(plc f d).toNat]? with
  | none => simp [inK]
  | some x => exact h x (List.mem_of_getElem? hx)
theorem full_range (d : Nat) (h : d ≤ 4) : 0 ≤ fullB d ∧ fullB d ≤ 15 := by
  rcases (by omega : d = 0 ∨ d = 1 ∨ d = 2 ∨ d = 3 ∨ d = 4) with rfl | rfl | rfl | rfl | rfl <;> decide
theorem plc_full (d : Nat) (h : d ≤ 4) (set : Int) (h1 : 0 ≤ set) (h2 : set ≤ fullB d) (x : Int) (hx : x ∈ dimsL set) : 0 ≤ plc (fullB d) x ∧ plc (fullB d) x < d := by
  rcases (by omega : d = 0 ∨ d = 1 ∨ d = 2 ∨ d = 3 ∨ d = 4) with rfl | rfl | rfl | rfl | rfl
  all_goals
    have h3 := (full_range _ h).2
    simp only [fullB] at h2 h3
    rcases (by omega : set = 0 ∨ set = 1 ∨ set = 2 ∨ set = 3 ∨ set = 4 ∨ set = 5 ∨ set = 6 ∨ set = 7 ∨ set = 8 ∨ set = 9 ∨ set = 10 ∨ set = 11 ∨ set = 12 ∨ set = 13 ∨ set = 14 ∨ set = 15) with rfl | rfl | rfl | rfl | rfl | rfl | rfl | rfl | rfl | rfl | rfl | rfl | rfl | rfl | rfl | rfl
  all_goals first
    | (exfalso; omega)
    | (simp [dimsL] at hx; done)
    | (simp [dimsL] at hx; rcases hx with rfl | rfl | rfl | rfl <;> decide)
    | (simp [dimsL] at hx; rcases hx with rfl | rfl | rfl <;> decide)
    | (simp [dimsL] at hx; rcases hx with rfl | rfl <;> decide)
    | (simp [dimsL] at hx; subst hx; decide)
set_option maxRecDepth 100000 in
set_option maxHeartbeats 4000000 in
theorem of_any (kv mv : Value) (key ms : List Int) (d : Nat) (set : Int) (w : World) (hd : d = key.length) (hk : RI w kv key) (hm : RI w mv ms) (h1 : d ≤ 4) (h2 : ms.length ≤ 1000000) (s1 : 0 ≤ set) (s2 : set ≤ fullB d) (hT : Tab w) (hw1 : 1 < w.heap.size) :
    Calls Tryd.prog 20 #[.agg #[kv, mv], .int .i64 set] w fun e w' => ∃ k' s' n' m', e = .returned (.agg #[k', .int .i64 1, s', n', m']) ∧ CO w.heap.size w' k' s' n' m' ⟨ofKey key set, 1, ms, ms, ms⟩ ∧ Below w.heap.size w w' := by
  obtain ⟨Pk, ck, rfl, hk1, hk2⟩ := hk
  obtain ⟨Pm, cm, rfl, hm1⟩ := hm
  have Rm : Hid (RI w (.slice Pm ms.length cm) ms) := Lib.hid ⟨_, _, rfl, hm1⟩
  rw [← hd] at hk1 ⊢
  have Rk := Lib.hid hk1
  have L2 := Lib.hid h2
  have HT := Lib.hid hT
  obtain ⟨fr1, fr2⟩ := full_range d h1
  have hin := plc_full d h1 set s1 s2
  have hok : IntsOk (ofKey key set) := fun x hx => by
    simp only [ofKey, List.mem_map] at hx
    obtain ⟨q, _, rfl⟩ := hx
    exact pick_ok hk1.2.1 _ _
  have Hval := Lib.hid (fun W (hW : Keeps w W) (hsz : 1 < W.heap.size) => values_in Pk d ck key (fullB d) set W (Rk.out.keep hW) (by omega) (HT.out.keep hW) hsz fr1 fr2 s1 (by omega) hin)
  have Hok := Lib.hid hok
  have Hd := Lib.hid hd
  have hwin : (decide (0 ≤ set) && decide (set ≤ fullB d)) = true := by simp [s1, s2]
  have Hwin := Lib.hid hwin
  have d4 : decide ((4 : Int) < (d : Int)) = false := by simp; omega
  clear hk1 hk2 hm1 h2 hT hin hok hd hwin fr1 fr2
  generalize hlm : ms.length = lm at Rm L2 ⊢
  have Hlm := Lib.hid hlm
  clear hlm
  have o1 : Own 36 ((w.alloc (.cells #[.slice Pk d ck, .slice Pm lm cm] 36)).alloc (.cells #[.slice none 0 0, .int .i64 0, .slice none 0 0, .slice none 0 0, .slice none 0 0] 33)) w.heap.size [.slice Pk d ck, .slice Pm lm cm] :=
    (show Own 36 (w.alloc (.cells #[.slice Pk d ck, .slice Pm lm cm] 36)) w.heap.size [.slice Pk d ck, .slice Pm lm cm] from heap_alloc_new w _).below ((Below.refl _ _).alloc (Nat.le_refl _) _) (by simp)
  have o2 : Own 33 ((w.alloc (.cells #[.slice Pk d ck, .slice Pm lm cm] 36)).alloc (.cells #[.slice none 0 0, .int .i64 0, .slice none 0 0, .slice none 0 0, .slice none 0 0] 33)) (w.heap.size + 1) [.slice none 0 0, .int .i64 0, .slice none 0 0, .slice none 0 0, .slice none 0 0] := by
    have := heap_alloc_new (w.alloc (.cells #[.slice Pk d ck, .slice Pm lm cm] 36)) (.cells #[.slice none 0 0, .int .i64 0, .slice none 0 0, .slice none 0 0, .slice none 0 0] 33)
    rw [show (w.alloc (.cells #[.slice Pk d ck, .slice Pm lm cm] 36)).heap.size = w.heap.size + 1 from by simp] at this
    exact this
  have hb : Below w.heap.size w ((w.alloc (.cells #[.slice Pk d ck, .slice Pm lm cm] 36)).alloc (.cells #[.slice none 0 0, .int .i64 0, .slice none 0 0, .slice none 0 0, .slice none 0 0] 33)) := ((Below.refl _ w).alloc (Nat.le_refl _) _).alloc (by simp) _
  have hz : ((w.alloc (.cells #[.slice Pk d ck, .slice Pm lm cm] 36)).alloc (.cells #[.slice none 0 0, .int .i64 0, .slice none 0 0, .slice none 0 0, .slice none 0 0] 33)).heap.size = w.heap.size + 2 := by simp
  have O1 := Lib.hid o1
  have O2 := Lib.hid o2
  have Hb := Lib.hid hb
  have Hz := Lib.hid hz
  clear o1 o2 hb hz
  go_enter Tryd.func20, Tryd.ntmps20
  go_wp2_with fail
  refine (full_any d _ h1).mono ?_
  rintro e w' ⟨rfl, rfl⟩
  go_wp2_with fail
  refine (cwithin_any set 0 (fullB d) _).mono ?_
  rintro e w' ⟨rfl, rfl⟩
  rw [Hwin.out]
  go_wp2_with fail
  generalize (w.alloc (.cells #[.slice Pk d ck, .slice Pm lm cm] 36)).alloc (.cells #[.slice none 0 0, .int .i64 0, .slice none 0 0, .slice none 0 0, .slice none 0 0] 33) = W1 at O1 O2 Hb Hz ⊢
  obtain ⟨b, eb⟩ : ∃ b, b = w.heap.size := ⟨_, rfl⟩
  rw [← eb] at O1 O2 ⊢
  have Eb := Lib.hid eb
  clear eb
  have bx0 : W1.cell? ⟨b, 0, none⟩ = some (.slice Pk d ck) ∧ W1.cell? ⟨b, 1, none⟩ = some (.slice Pm lm cm) := ⟨O1.out.cell (i := 0) rfl, O1.out.cell (i := 1) rfl⟩
  refine wp_region_held_drew (S := fun W => W.cell? ⟨b, 0, none⟩ = some (.slice Pk d ck) ∧ W.cell? ⟨b, 1, none⟩ = some (.slice Pm lm cm)) (by kernel_rfl) (show _ ∧ _ from bx0) (fun hHeld => ?_)
  refine wpAnyH_take (i := 0) (v := ?va0) rfl (by kernel_rfl) (by kernel_rfl) (by kernel_rfl) (fun _ _ _ h => h) (Or.inl ⟨by rfl, ?ya0⟩) hHeld ?ra0
  case ya0 => (intro W hW; obtain ⟨h0, h1⟩ := hW; go_simp; first | done | with_reducible rfl)
  try simp only [List.getElem_toArray, List.getElem_cons_zero, Act.put, List.setIfInBounds_toArray, List.set_cons_zero, List.set_cons_succ]
  refine wpAnyH_take (i := 1) (v := ?va1) rfl (by kernel_rfl) (by kernel_rfl) (by kernel_rfl) (fun _ _ _ h => h) (Or.inl ⟨by rfl, ?ya1⟩) hHeld ?ra1
  case ya1 => (intro W hW; obtain ⟨h0, h1⟩ := hW; go_simp; first | done | with_reducible rfl)
  try simp only [List.getElem_toArray, List.getElem_cons_succ, List.getElem_cons_zero, Act.put, List.setIfInBounds_toArray, List.set_cons_zero, List.set_cons_succ]
  refine wpAnyH_take (i := 2) (v := ?va2) rfl (by kernel_rfl) (by kernel_rfl) (by kernel_rfl) (fun _ _ _ h => h) (Or.inl ⟨by rfl, ?ya2⟩) hHeld ?ra2
  case ya2 => (intro W hW; obtain ⟨h0, h1⟩ := hW; go_simp; first | done | with_reducible rfl)
  try simp only [List.getElem_toArray, List.getElem_cons_succ, List.getElem_cons_zero, Act.put, List.setIfInBounds_toArray, List.set_cons_zero, List.set_cons_succ]
  refine wpAnyH_take (i := 4) (v := ?va4) rfl (by kernel_rfl) (by kernel_rfl) (by kernel_rfl) (fun _ _ _ h => h) (Or.inl ⟨by rfl, ?ya4⟩) hHeld ?ra4
  case ya4 => (intro W hW; obtain ⟨h0, h1⟩ := hW; go_simp; first | done | with_reducible rfl)
  try simp only [List.getElem_toArray, List.getElem_cons_succ, List.getElem_cons_zero, Act.put, List.setIfInBounds_toArray, List.set_cons_zero, List.set_cons_succ]
  refine wpAnyH_take (i := 6) (v := ?va6) rfl (by kernel_rfl) (by kernel_rfl) (by kernel_rfl) (fun _ _ _ h => h) (Or.inl ⟨by rfl, ?ya6⟩) hHeld ?ra6
  case ya6 => (intro W hW; obtain ⟨h0, h1⟩ := hW; go_simp; first | done | with_reducible rfl)
  try simp only [List.getElem_toArray, List.getElem_cons_succ, List.getElem_cons_zero, Act.put, List.setIfInBounds_toArray, List.set_cons_zero, List.set_cons_succ]
  refine wpAnyH_take (i := 7) (v := ?va7) rfl (by kernel_rfl) (by kernel_rfl) (by kernel_rfl) (fun _ _ _ h => h) (Or.inl ⟨by rfl, ?ya7⟩) hHeld ?ra7
  case ya7 => (intro W hW; obtain ⟨h0, h1⟩ := hW; go_simp; first | done | with_reducible rfl)
  try simp only [List.getElem_toArray, List.getElem_cons_succ, List.getElem_cons_zero, Act.put, List.setIfInBounds_toArray, List.set_cons_zero, List.set_cons_succ]
  refine wpAnyH_take (i := 9) (v := ?va9) rfl (by kernel_rfl) (by kernel_rfl) (by kernel_rfl) (fun _ _ _ h => h) (Or.inl ⟨by rfl, ?ya9⟩) hHeld ?ra9
  case ya9 => (intro W hW; obtain ⟨h0, h1⟩ := hW; go_simp; first | done | with_reducible rfl)
  try simp only [List.getElem_toArray, List.getElem_cons_succ, List.getElem_cons_zero, Act.put, List.setIfInBounds_toArray, List.set_cons_zero, List.set_cons_succ]
  refine wpAnyH_take (i := 10) (v := ?va10) rfl (by kernel_rfl) (by kernel_rfl) (by kernel_rfl) (fun _ _ _ h => h) (Or.inl ⟨by rfl, ?ya10⟩) hHeld ?ra10
  case ya10 => (intro W hW; obtain ⟨h0, h1⟩ := hW; go_simp; first | done | with_reducible rfl)
  try simp only [List.getElem_toArray, List.getElem_cons_succ, List.getElem_cons_zero, Act.put, List.setIfInBounds_toArray, List.set_cons_zero, List.set_cons_succ]
  refine wpAnyH_take (i := 12) (v := ?va12) rfl (by kernel_rfl) (by kernel_rfl) (by kernel_rfl) (fun _ _ _ h => h) (Or.inl ⟨by rfl, ?ya12⟩) hHeld ?ra12
  case ya12 => (intro W hW; obtain ⟨h0, h1⟩ := hW; go_simp; first | done | with_reducible rfl)
  try simp only [List.getElem_toArray, List.getElem_cons_succ, List.getElem_cons_zero, Act.put, List.setIfInBounds_toArray, List.set_cons_zero, List.set_cons_succ]
  refine wpAnyH_take (i := 13) (v := ?va13) rfl (by kernel_rfl) (by kernel_rfl) (by kernel_rfl) (fun _ _ _ h => h) (Or.inl ⟨by rfl, ?ya13⟩) hHeld ?ra13
  case ya13 => (intro W hW; obtain ⟨h0, h1⟩ := hW; go_simp; first | done | with_reducible rfl)
  try simp only [List.getElem_toArray, List.getElem_cons_succ, List.getElem_cons_zero, Act.put, List.setIfInBounds_toArray, List.set_cons_zero, List.set_cons_succ]
  refine wpAnyH_ready (rs := [3]) (by kernel_rfl) (by simp) ?_
  refine AllReadyH.cons rfl (fun K hK => ?_) (AllReadyH.nil)
  go_simp
  refine (full_any d W1.drew h1).mono ?_
  rintro e w' ⟨rfl, rfl⟩
  go_wp2_with fail
  refine hK.out _ _ (bx0) (fun hHeld => ?_)
  clear hK K
  try simp only [List.getElem_toArray, List.getElem_cons_succ, List.getElem_cons_zero, Act.put, List.setIfInBounds_toArray, List.set_cons_zero, List.set_cons_succ]
  refine wpAnyH_ready (rs := [5]) (by kernel_rfl) (by simp) ?_
  refine AllReadyH.cons rfl (fun K hK => ?_) (AllReadyH.nil)
  go_simp
  refine (Hval.out W1.drew (show Keeps w W1.drew from (Keeps.of_below Hb.out).drewN 1) (Nat.lt_of_lt_of_le hw1 Hb.out.size)).mono ?_
  rintro e V1 ⟨v1, rfl, ho0, hb1⟩
  have ho1 : OI W1.drew.heap.size V1 v1 (ofKey key set) := ⟨by
    unfold ofKey
    rw [List.length_map, ← Hd.out]
    exact ho0, Hok.out⟩
  have B1 := Lib.hid ((below_drewN Hb.out 1).trans (hb1.mono Hb.out.size))
  have D1 := Lib.hid (show Below W1.heap.size W1 V1 from (below_drewN (Below.refl _ _) 1).trans hb1)
  have Q1 := Lib.hid (ho1.mono (show w.heap.size ≤ W1.drew.heap.size from Hb.out.size))
  clear ho1 hb1 ho0
  go_wp2_with fail
  refine hK.out _ _ (⟨(Keeps.of_below D1.out) _ _ bx0.1, (Keeps.of_below D1.out) _ _ bx0.2⟩) (fun hHeld => ?_)
  clear hK K
  try simp only [List.getElem_toArray, List.getElem_cons_succ, List.getElem_cons_zero, Act.put, List.setIfInBounds_toArray, List.set_cons_zero, List.set_cons_succ]
  refine wpAnyH_ready (rs := [8]) (by kernel_rfl) (by simp) ?_
  refine AllReadyH.cons rfl (fun K hK => ?_) (AllReadyH.nil)
  go_simp
  refine (clone_any _ ms V1 (Rm.out.keep (Keeps.of_below B1.out)) (by rw [Hlm.out]; exact L2.out)).mono ?_
  rintro e V2 ⟨v2, rfl, ho1, hb1⟩
  have B2 := Lib.hid (B1.out.trans (hb1.mono B1.out.size))
  have D2 := Lib.hid (D1.out.trans (hb1.mono D1.out.size))
  have Q1_ := Lib.hid (Q1.out.below hb1)
  have Q2 := Lib.hid (ho1.mono (show w.heap.size ≤ V1.heap.size from B1.out.size))
  clear ho1 hb1
  go_wp2_with fail
  refine hK.out _ _ (⟨(Keeps.of_below D2.out) _ _ bx0.1, (Keeps.of_below D2.out) _ _ bx0.2⟩) (fun hHeld => ?_)
  clear hK K
  try simp only [List.getElem_toArray, List.getElem_cons_succ, List.getElem_cons_zero, Act.put, List.setIfInBounds_toArray, List.set_cons_zero, List.set_cons_succ]
  refine wpAnyH_ready (rs := [11]) (by kernel_rfl) (by simp) ?_
  refine AllReadyH.cons rfl (fun K hK => ?_) (AllReadyH.nil)
  go_simp
  refine (clone_any _ ms V2 (Rm.out.keep (Keeps.of_below B2.out)) (by rw [Hlm.out]; exact L2.out)).mono ?_
  rintro e V3 ⟨v3, rfl, ho1, hb1⟩
  have B3 := Lib.hid (B2.out.trans (hb1.mono B2.out.size))
  have D3 := Lib.hid (D2.out.trans (hb1.mono D2.out.size))
  have Q1__ := Lib.hid (Q1_.out.below hb1)
  have Q2_ := Lib.hid (Q2.out.below hb1)
  have Q3 := Lib.hid (ho1.mono (show w.heap.size ≤ V2.heap.size from B2.out.size))
  clear ho1 hb1
  go_wp2_with fail
  refine hK.out _ _ (⟨(Keeps.of_below D3.out) _ _ bx0.1, (Keeps.of_below D3.out) _ _ bx0.2⟩) (fun hHeld => ?_)
  clear hK K
  try simp only [List.getElem_toArray, List.getElem_cons_succ, List.getElem_cons_zero, Act.put, List.setIfInBounds_toArray, List.set_cons_zero, List.set_cons_succ]
  refine wpAnyH_ready (rs := [14]) (by kernel_rfl) (by simp) ?_
  refine AllReadyH.cons rfl (fun K hK => ?_) (AllReadyH.nil)
  go_simp
  refine (clone_any _ ms V3 (Rm.out.keep (Keeps.of_below B3.out)) (by rw [Hlm.out]; exact L2.out)).mono ?_
  rintro e V4 ⟨v4, rfl, ho1, hb1⟩
  have B4 := Lib.hid (B3.out.trans (hb1.mono B3.out.size))
  have D4 := Lib.hid (D3.out.trans (hb1.mono D3.out.size))
  have Q1___ := Lib.hid (Q1__.out.below hb1)
  have Q2__ := Lib.hid (Q2_.out.below hb1)
  have Q3_ := Lib.hid (Q3.out.below hb1)
  have Q4 := Lib.hid (ho1.mono (show w.heap.size ≤ V3.heap.size from B3.out.size))
  clear ho1 hb1
  go_wp2_with fail
  refine hK.out _ _ (⟨(Keeps.of_below D4.out) _ _ bx0.1, (Keeps.of_below D4.out) _ _ bx0.2⟩) (fun hHeld => ?_)
  clear hK K
  try simp only [List.getElem_toArray, List.getElem_cons_succ, List.getElem_cons_zero, Act.put, List.setIfInBounds_toArray, List.set_cons_zero, List.set_cons_succ]
  obtain ⟨P1, c1, e1, -⟩ := Q1___.out.form
  obtain ⟨P2, c2, e2, -⟩ := Q2__.out.form
  obtain ⟨P3, c3, e3, -⟩ := Q3_.out.form
  obtain ⟨P4, c4, e4, -⟩ := Q4.out.form
  subst e1 e2 e3 e4
  have o4 := O2.out.below D4.out (by have := Hz.out; have := Eb.out; omega)
  have z0 := o4.cell (i := 0) rfl
  have z1 := o4.cell (i := 1) rfl
  have z2 := o4.cell (i := 2) rfl
  have z3 := o4.cell (i := 3) rfl
  have z4 := o4.cell (i := 4) rfl
  have zf := o4.frozen
  have O4 := Lib.hid o4
  clear o4
  obtain ⟨W5, hW5⟩ : ∃ W5, W5 = put5 V4 (b + 1) (.slice P1 (ofKey key set).length c1) (.int .i64 1) (.slice P2 ms.length c2) (.slice P3 ms.length c3) (.slice P4 ms.length c4) := ⟨_, rfl⟩
  have o5 : Own 33 W5 (b + 1) [.slice P1 (ofKey key set).length c1, .int .i64 1, .slice P2 ms.length c2, .slice P3 ms.length c3, .slice P4 ms.length c4] := hW5 ▸ put5_own O4.out
  have on5 : Only (b + 1) V4 W5 := hW5 ▸ put5_only
  have hfin : CO w.heap.size W5 (.slice P1 (ofKey key set).length c1) (.slice P2 ms.length c2) (.slice P3 ms.length c3) (.slice P4 ms.length c4) ⟨ofKey key set, 1, ms, ms, ms⟩ := (show CO w.heap.size V4 _ _ _ _ ⟨ofKey key set, 1, ms, ms, ms⟩ from ⟨Q1___.out, Q2__.out, Q3_.out, Q4.out⟩).only on5 O4.out (by decide)
  have hbf : Below w.heap.size w W5 := B4.out.trans (on5.below (by have := Eb.out; omega) B4.out.size)
  have hd4 := (Keeps.of_below D4.out)
  have hbx5 : W5.cell? ⟨b, 0, none⟩ = some (.slice Pk d ck) ∧ W5.cell? ⟨b, 1, none⟩ = some (.slice Pm lm cm) := by
    have hlt : b < V4.heap.size := by have := D4.out.size; have := Hz.out; have := Eb.out; omega
    have e : ∀ j, W5.cell? ⟨b, j, none⟩ = V4.cell? ⟨b, j, none⟩ := fun j => World.cell?_of_block (on5.block b hlt (by omega))
    exact ⟨(e 0).trans (hd4 _ _ bx0.1), (e 1).trans (hd4 _ _ bx0.2)⟩
  have HW5 := Lib.hid hW5
  have Hfin := Lib.hid hfin
  have Hbf := Lib.hid hbf
  have Hbx5 := Lib.hid hbx5
  have r0 := o5.cell (i := 0) rfl
  have r1 := o5.cell (i := 1) rfl
  have r2 := o5.cell (i := 2) rfl
  have r3 := o5.cell (i := 3) rfl
  have r4 := o5.cell (i := 4) rfl
  clear hW5 o5 on5 hfin hbf hbx5 hd4
  refine wpAnyH_take (i := 15) (v := ?va15) rfl (by kernel_rfl) (by kernel_rfl) (by kernel_rfl) (fun _ _ _ h => h) (Or.inl ⟨by rfl, ?ya15⟩) hHeld ?ra15
  case ya15 => (intro W hW; go_simp; first | done | with_reducible rfl)
  try simp only [List.getElem_toArray, List.getElem_cons_succ, List.getElem_cons_zero, Act.put, List.setIfInBounds_toArray, List.set_cons_zero, List.set_cons_succ]
  refine wpAnyH_ready (rs := [16]) (by kernel_rfl) (by simp) ?_
  refine AllReadyH.cons rfl (fun K hK => ?_) (AllReadyH.nil)
  go_simp
  have e5 := HW5.out
  unfold put5 at e5
  rw [← e5]
  clear e5
  refine hK.out _ _ (Hbx5.out) (fun hHeld => ?_)
  clear hK K
  try simp only [List.getElem_toArray, List.getElem_cons_succ, List.getElem_cons_zero, Act.put, List.setIfInBounds_toArray, List.set_cons_zero, List.set_cons_succ]
  refine wpAnyH_done (by kernel_rfl) ?_ _
  go_wp2
  exact bodyPost_ret (v := .agg #[.slice P1 (ofKey key set).length c1, .int .i64 1, .slice P2 ms.length c2, .slice P3 ms.length c3, .slice P4 ms.length c4]) (by simp [results, Tryd.results20, go_sem, r0, r1, r2, r3, r4]) rfl ⟨_, _, _, _, rfl, Hfin.out, Hbf.out⟩
end Go.Proofs.YtbkcclmhgnplcaaDoor
