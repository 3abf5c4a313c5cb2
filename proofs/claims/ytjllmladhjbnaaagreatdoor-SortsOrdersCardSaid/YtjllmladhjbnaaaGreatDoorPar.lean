/- Package lattice's Parents. -/
import Derived.Test.YtjllmladhjbnaaaGreatDoorLev
import Derived.Test.YtjllmladhjbnaaaGreatDoorFold
import Derived.Test.YtjllmladhjbnaaaGreatDoorRegion
import Derived.Test.YtjllmladhjbnaaaGreatDoorFactsLaw8
namespace Go.Proofs.YtjllmladhjbnaaaGreatDoor
open Go.RowKit Go.Shelf
attribute [local go_sem] Oper.semAt_some
/-- What is laid behind an append at a call, ahead of it. -/
theorem grownBy_new {w w' : World} {o : Obj} {r : Option Nat} (h : (w.alloc o).grownBy w' r) : w.grownBy w' r :=
  ⟨h.os, h.tape, h.output, Nat.le_trans (by simp) h.size, fun k hk hr => (h.block k (by simp; omega) hr).trans (Below.heap_alloc _ _ _ hk)⟩
theorem grownBy_drew {w w' : World} {r : Option Nat} (h : w.drew.grownBy w' r) : w.grownBy w' r := ⟨h.os, h.tape, h.output, h.size, h.block⟩
theorem oper_append {P : Program} {o : Oper} {a : Act} {w : World} {K : Act → World → Prop} {Q : Exit → Act → World → Prop} (s x : Operand) (t : TypeId)
    (ho : o.op = .call { callee := .builtin .append, args := #[s, x], argTypes := #[t, t] }) (v u v' : Value) (w' : World) (hs : a.eval s = v) (hx : a.eval x = u)
    (hrun : (Builtin.append_ #[t, t] o.type #[v, u]).run P w = .ok v' w') (h : K (a.put o.dst v') w') : Oper.wp P o a w K Q := by
  unfold Oper.wp execOp
  simp only [ho, resolve, invoke, builtin, Sem.run_bind, Sem.run_pure, Result.andThen_ok, List.map_toArray, List.map_cons, List.map_nil, hs, hx, hrun]
  exact h
theorem map_in {s : Int} {ys : List (InSet s)} {L : List Int} (h : ys.map (·.1) = L) (f : Int → Int) : ys.map (fun x => f x.1) = L.map f := by subst h; simp
theorem cell_new (w : World) (v : Value) (t : TypeId) : (w.alloc (.cells #[v] t)).cell? ⟨w.heap.size, 0, none⟩ = some v := by simp
/-- A set, and one dimension more. -/
def withI (k d : Int) : Int := bits .or .i64 k (aloneI d)
theorem withI_in (k d : Int) (h1 : 0 ≤ k) (h2 : k ≤ 15) (hd : d = 0 ∨ d = 1 ∨ d = 2 ∨ d = 3) : 0 ≤ withI k d ∧ withI k d ≤ 15 := by
  rcases (by omega : k = 0 ∨ k = 1 ∨ k = 2 ∨ k = 3 ∨ k = 4 ∨ k = 5 ∨ k = 6 ∨ k = 7 ∨ k = 8 ∨ k = 9 ∨ k = 10 ∨ k = 11 ∨ k = 12 ∨ k = 13 ∨ k = 14 ∨ k = 15) with rfl | rfl | rfl | rfl | rfl | rfl | rfl | rfl | rfl | rfl | rfl | rfl | rfl | rfl | rfl | rfl <;> rcases hd with rfl | rfl | rfl | rfl <;> decide +kernel
set_option maxRecDepth 100000 in
set_option maxHeartbeats 2000000 in
theorem par1_any (B b : Nat) (v : Value) (xs : List Int) (x k : Int) (w : World) (ho : w.ownsRow B 3 1 v xs.length (ints xs)) (hn : xs.length ≤ 100) (hB : B ≤ w.heap.size) (hc : w.cell? ⟨b, 0, none⟩ = some (.int .i64 k)) (hbB : b < B) (hx : x = 0 ∨ x = 1 ∨ x = 2 ∨ x = 3) :
    Calls Tryz.prog 57 #[v, .int .i64 x, .pointer (some ⟨b, 0, none⟩)] w fun e w' => ∃ v', e = .returned v' ∧ w'.ownsRow B 3 1 v' (xs.length + 1) (ints (xs ++ [withI k x])) ∧ w.grownBy w' v.ownBlock := by
  obtain ⟨v', w', hrun, ho', hgr⟩ := append_int w.drew B v xs (withI k x) _ rfl ho (by omega) hB
  obtain ⟨y, hy⟩ : ∃ y, y = withI k x := ⟨_, rfl⟩
  have hy2 : bits .or .i64 k (aloneI x) = y := hy.symm
  rw [← hy] at hrun ho' hgr ⊢
  obtain ⟨z, hz⟩ : ∃ z, z = aloneI x := ⟨_, rfl⟩
  rw [← hz] at hy2
  have HZ := Lib.hid hz
  have HC0 := Lib.hid (show w.drew.cell? ⟨b, 0, none⟩ = some (.int .i64 k) from hc)
  have HC1 := Lib.hid (show (w.drew.alloc (.cells #[.int .i64 y] 3)).cell? ⟨b, 0, none⟩ = some (.int .i64 k) from (World.cell?_alloc_lt _ _ _ (by show b < w.heap.size; omega)).trans hc)
  have HC2 := Lib.hid (hgr.cell HC1.out fun e => by have := (ho.lt b e.symm).1; omega)
  have HR := Lib.hid hrun
  rw [List.length_append] at ho'
  have HO := Lib.hid ho'
  have HG := Lib.hid (grownBy_drew (grownBy_new hgr))
  have HA := Lib.hid (alone_any x w.drew hx)
  rw [← hz] at HA
  have HY := Lib.hid hy2
  clear hrun ho' hgr hy hy2 ho hz hx
  go_enter Tryz.func57, Tryz.ntmps57
  go_wp2_with fail
  refine wp_region_held_drew (S := fun W => W.cell? ⟨b, 0, none⟩ = some (.int .i64 k)) (by kernel_rfl) HC0.out (fun hHeld => ?_)
  refine wpAnyH_take (i := 0) (v := ?vp0) rfl (by kernel_rfl) (by kernel_rfl) (by kernel_rfl) (fun _ _ _ h => h) (Or.inl ⟨by rfl, ?yp0⟩) hHeld ?rp0
  case yp0 => (intro W hW; go_simp; first | done | with_reducible rfl)
  try simp only [List.getElem_toArray, List.getElem_cons_zero, Act.put, List.setIfInBounds_toArray, List.set_cons_zero, List.set_cons_succ]
  refine wpAnyH_take (i := 1) (v := ?vp1) rfl (by kernel_rfl) (by kernel_rfl) (by kernel_rfl) (fun _ _ _ h => h) (Or.inl ⟨by rfl, ?yp1⟩) hHeld ?rp1
  case yp1 => (intro W hW; go_simp; first | done | with_reducible rfl)
  try simp only [List.getElem_toArray, List.getElem_cons_succ, List.getElem_cons_zero, Act.put, List.setIfInBounds_toArray, List.set_cons_zero, List.set_cons_succ]
  refine wpAnyH_take (i := 2) (v := ?vp2) rfl (by kernel_rfl) (by kernel_rfl) (by kernel_rfl) (fun _ _ _ h => h) (Or.inl ⟨by rfl, ?yp2⟩) hHeld ?rp2
  case yp2 => (intro W hW; go_simp; first | done | with_reducible rfl)
  try simp only [List.getElem_toArray, List.getElem_cons_succ, List.getElem_cons_zero, Act.put, List.setIfInBounds_toArray, List.set_cons_zero, List.set_cons_succ]
  refine wpAnyH_ready (rs := [3]) (by kernel_rfl) (by simp) ?_
  refine AllReadyH.cons rfl (fun K hK => ?_) (AllReadyH.nil)
  go_simp
  refine HA.out.mono ?_
  rintro e w5 ⟨rfl, rfl⟩
  go_wp2_with fail
  refine hK.out _ _ (HC0.out) (fun hHeld => ?_)
  clear hK K
  try simp only [List.getElem_toArray, List.getElem_cons_succ, List.getElem_cons_zero, Act.put, List.setIfInBounds_toArray, List.set_cons_zero, List.set_cons_succ]
  refine wpAnyH_take (i := 4) (v := ?vp4) rfl (by kernel_rfl) (by kernel_rfl) (by kernel_rfl) (fun _ _ _ h => h) (Or.inl ⟨by rfl, ?yp4⟩) hHeld ?rp4
  case yp4 => (intro W hW; go_simp; rw [HY.out]; first | done | with_reducible rfl)
  try simp only [List.getElem_toArray, List.getElem_cons_succ, List.getElem_cons_zero, Act.put, List.setIfInBounds_toArray, List.set_cons_zero, List.set_cons_succ]
  refine wpAnyH_ready (rs := [5]) (by kernel_rfl) (by simp) ?_
  refine AllReadyH.cons rfl (fun K hK => ?_) (AllReadyH.nil)
  go_simp
  refine hK.out _ _ (HC1.out) (fun hHeld => ?_)
  clear hK K
  try simp only [List.getElem_toArray, List.getElem_cons_succ, List.getElem_cons_zero, Act.put, List.setIfInBounds_toArray, List.set_cons_zero, List.set_cons_succ]
  refine wpAnyH_ready (rs := [6]) (by kernel_rfl) (by simp) ?_
  refine AllReadyH.cons rfl (fun K hK => ?_) (AllReadyH.nil)
  rw [if_pos (by rfl)]
  refine oper_append (.tmp 6) (.tmp 11) 22 rfl _ _ _ _ rfl rfl HR.out ?_
  refine hK.out _ _ (HC2.out) (fun hHeld => ?_)
  clear hK K
  try simp only [List.getElem_toArray, List.getElem_cons_succ, List.getElem_cons_zero, Act.put, List.setIfInBounds_toArray, List.set_cons_zero, List.set_cons_succ]
  refine wpAnyH_ready (rs := [7]) (by kernel_rfl) (by simp) ?_
  refine AllReadyH.cons rfl (fun K hK => ?_) (AllReadyH.nil)
  go_simp
  refine hK.out _ _ (HC2.out) (fun hHeld => ?_)
  clear hK K
  try simp only [List.getElem_toArray, List.getElem_cons_succ, List.getElem_cons_zero, Act.put, List.setIfInBounds_toArray, List.set_cons_zero, List.set_cons_succ]
  refine wpAnyH_done (by kernel_rfl) ?_ _
  go_wp2
  go_ret
  exact ⟨v', rfl, HO.out, HG.out⟩

/-- The sets of one dimension more. -/
def lackI (k : Int) (d : Nat) : Int := bits .andNot .i64 (fullB d) k
def parL (k : Int) (d : Nat) : List Int := (dimsL (lackI k d)).map (withI k)
theorem fullB_15 (d : Nat) (h : d ≤ 4) : 0 ≤ fullB d ∧ fullB d ≤ 15 := by
  rcases (by omega : d = 0 ∨ d = 1 ∨ d = 2 ∨ d = 3 ∨ d = 4) with rfl | rfl | rfl | rfl | rfl <;> decide
theorem lackI_in (k : Int) (d : Nat) (h1 : 0 ≤ k) (h2 : k ≤ 15) (hd : d ≤ 4) : 0 ≤ lackI k d ∧ lackI k d ≤ 15 := by
  rcases (by omega : d = 0 ∨ d = 1 ∨ d = 2 ∨ d = 3 ∨ d = 4) with rfl | rfl | rfl | rfl | rfl <;> rcases (by omega : k = 0 ∨ k = 1 ∨ k = 2 ∨ k = 3 ∨ k = 4 ∨ k = 5 ∨ k = 6 ∨ k = 7 ∨ k = 8 ∨ k = 9 ∨ k = 10 ∨ k = 11 ∨ k = 12 ∨ k = 13 ∨ k = 14 ∨ k = 15) with rfl | rfl | rfl | rfl | rfl | rfl | rfl | rfl | rfl | rfl | rfl | rfl | rfl | rfl | rfl | rfl <;> decide +kernel
set_option maxRecDepth 100000 in
set_option maxHeartbeats 2000000 in
theorem par_any (k : Int) (d : Nat) (w : World) (h1 : 0 ≤ k) (h2 : k ≤ fullB d) (hd1 : 1 ≤ d) (hd : d ≤ 4) (hT : Tab w) (hw1 : 1 < w.heap.size) :
    Calls Tryz.prog 27 #[.int .i64 k, .int .i64 d] w fun e w' => ∃ v, e = .returned v ∧ w'.ownsRow w.heap.size 3 1 v (parL k d).length (ints (parL k d)) ∧ Below w.heap.size w w' := by
  have hf15 := fullB_15 d hd
  obtain ⟨hs1, hs2⟩ := lackI_in k d h1 (by omega) hd
  obtain ⟨s, hs⟩ : ∃ s, s = lackI k d := ⟨_, rfl⟩
  have hs3 : bits .andNot .i64 (fullB d) k = s := hs.symm
  have ep : parL k d = (dimsL s).map (withI k) := by rw [hs]; rfl
  rw [ep]
  rw [← hs] at hs1 hs2
  obtain ⟨u, hu⟩ : ∃ u, u = fullB d := ⟨_, rfl⟩
  rw [← hu] at hs3 h2 hf15
  obtain ⟨W0, hW0⟩ : ∃ W0, W0 = w.alloc (.cells #[.int .i64 k] 3) := ⟨_, rfl⟩
  have hb0 : Below w.heap.size w W0 := by rw [hW0]; exact (Below.refl _ w).alloc (Nat.le_refl _) _
  have hz0 : W0.heap.size = w.heap.size + 1 := by rw [hW0]; simp
  have hc0 : W0.cell? ⟨w.heap.size, 0, none⟩ = some (.int .i64 k) := by rw [hW0]; simp
  have hT0 : Tab W0 := hT.keep (Keeps.of_below hb0)
  have HW1 := Lib.hid (cwithin_any d 1 4 W0)
  have e1 : (decide ((1 : Int) ≤ d) && decide ((d : Int) ≤ 4)) = true := by simp; omega
  rw [e1] at HW1
  have HS := Lib.hid (isSet_any k d W0 hd)
  have e2 : (decide (0 ≤ k) && decide (k ≤ fullB d)) = true := by rw [← hu]; simp [h1, h2]
  rw [e2] at HS
  have HF := Lib.hid (full_any d W0.drew hd)
  rw [← hu] at HF
  obtain ⟨W1, hW1⟩ : ∃ W1, W1 = W0.drew.alloc (.cells #[.int .i64 s] 3) := ⟨_, rfl⟩
  have HD := Lib.hid (dims_in s W0.drew)
  rw [← hW1] at HD
  have hb1 : Below W0.heap.size W0 W1 := by rw [hW1]; exact ((Below.refl _ W0).drew).alloc (by show W0.heap.size ≤ W0.heap.size; omega) _
  have hz1 : W1.heap.size = w.heap.size + 2 := by rw [hW1]; simp [hz0]
  have hc1 : W1.cell? ⟨w.heap.size, 0, none⟩ = some (.int .i64 k) := (Keeps.of_below hb1) _ _ hc0
  have hcs : W1.cell? ⟨W0.heap.size, 0, none⟩ = some (.int .i64 s) := by rw [hW1]; exact cell_new W0.drew _ _
  have HFo := Lib.hid (foldS_any s W0.heap.size 57 #[.pointer (some ⟨w.heap.size, 0, none⟩)] (fun x => withI k x.1) W1 hs1 hs2 (hT0.keep (Keeps.of_below hb1)) (by omega) hcs
    (enters_of Tryz.func57 (by kernel_rfl) rfl) (fun pre x v W hl hB hz ho => by
      have h := par1_any (W1.heap.size + 2) w.heap.size v (pre.map fun x => withI k x.1) x.1 k W (by rw [List.length_map]; exact ho) (by have := dimsL_le s; rw [List.length_map]; omega) hz ((Keeps.of_below hB) _ _ hc1) (by omega) (dimsL_in s x.1 x.2)
      refine h.mono ?_
      rintro e w' ⟨v', rfl, h1, h2⟩
      rw [List.length_map] at h1
      exact ⟨v', rfl, by simpa using h1, h2⟩))
  have HB0 := Lib.hid hb0
  have HB1 := Lib.hid hb1
  have HC0 := Lib.hid (show W0.drew.cell? ⟨w.heap.size, 0, none⟩ = some (.int .i64 k) from hc0)
  have HC1 := Lib.hid hc1
  have HS3 := Lib.hid hs3
  have HZ1 := Lib.hid hz1
  have HZ0 := Lib.hid hz0
  have HW0 := Lib.hid hW0
  clear hs hs3 ep hu hb0 hz0 hT0 e1 e2 hb1 hz1 hc1 hcs hf15 hT hW1 hW0 hc0
  go_enter Tryz.func27, Tryz.ntmps27
  go_wp2_with fail
  rw [← HW0.out]
  refine HW1.out.mono ?_
  rintro e w' ⟨rfl, rfl⟩
  have hc0 : W0.cell? ⟨w.heap.size, 0, none⟩ = some (.int .i64 k) := HC0.out
  go_wp2_with fail
  refine HS.out.mono ?_
  rintro e w' ⟨rfl, rfl⟩
  go_upto_region 4 with (fail)
  refine wp_region_held_drew (S := fun W => W.cell? ⟨w.heap.size, 0, none⟩ = some (.int .i64 k)) (by kernel_rfl) HC0.out (fun hHeld => ?_)
  refine wpAnyH_take (i := 0) (v := ?vq0) rfl (by kernel_rfl) (by kernel_rfl) (by kernel_rfl) (fun _ _ _ h => h) (Or.inl ⟨by rfl, ?yq0⟩) hHeld ?rq0
  case yq0 => (intro W hW; go_simp; first | done | with_reducible rfl)
  try simp only [List.getElem_toArray, List.getElem_cons_zero, Act.put, List.setIfInBounds_toArray, List.set_cons_zero, List.set_cons_succ]
  refine wpAnyH_take (i := 2) (v := ?vq2) rfl (by kernel_rfl) (by kernel_rfl) (by kernel_rfl) (fun _ _ _ h => h) (Or.inl ⟨by rfl, ?yq2⟩) hHeld ?rq2
  case yq2 => (intro W hW; go_simp; first | done | with_reducible rfl)
  try simp only [List.getElem_toArray, List.getElem_cons_succ, List.getElem_cons_zero, Act.put, List.setIfInBounds_toArray, List.set_cons_zero, List.set_cons_succ]
  refine wpAnyH_take (i := 5) (v := ?vq5) rfl (by kernel_rfl) (by kernel_rfl) (by kernel_rfl) (fun _ _ _ h => h) (Or.inl ⟨by rfl, ?yq5⟩) hHeld ?rq5
  case yq5 => (intro W hW; go_simp; first | done | with_reducible rfl)
  try simp only [List.getElem_toArray, List.getElem_cons_succ, List.getElem_cons_zero, Act.put, List.setIfInBounds_toArray, List.set_cons_zero, List.set_cons_succ]
  refine wpAnyH_take (i := 6) (v := ?vq6) rfl (by kernel_rfl) (by kernel_rfl) (by kernel_rfl) (fun _ _ _ h => h) (Or.inl ⟨by rfl, ?yq6⟩) hHeld ?rq6
  case yq6 => (intro W hW; go_simp; first | done | with_reducible rfl)
  try simp only [List.getElem_toArray, List.getElem_cons_succ, List.getElem_cons_zero, Act.put, List.setIfInBounds_toArray, List.set_cons_zero, List.set_cons_succ]
  refine wpAnyH_ready (rs := [1]) (by kernel_rfl) (by simp) ?_
  refine AllReadyH.cons rfl (fun K hK => ?_) (AllReadyH.nil)
  go_simp
  refine HF.out.mono ?_
  rintro e w5 ⟨rfl, rfl⟩
  go_wp2_with fail
  refine hK.out _ _ (HC0.out) (fun hHeld => ?_)
  clear hK K
  try simp only [List.getElem_toArray, List.getElem_cons_succ, List.getElem_cons_zero, Act.put, List.setIfInBounds_toArray, List.set_cons_zero, List.set_cons_succ]
  refine wpAnyH_take (i := 3) (v := ?vq3) rfl (by kernel_rfl) (by kernel_rfl) (by kernel_rfl) (fun _ _ _ h => h) (Or.inl ⟨by rfl, ?yq3⟩) hHeld ?rq3
  case yq3 => (intro W hW; go_simp; rw [HS3.out]; first | done | with_reducible rfl)
  try simp only [List.getElem_toArray, List.getElem_cons_succ, List.getElem_cons_zero, Act.put, List.setIfInBounds_toArray, List.set_cons_zero, List.set_cons_succ]
  refine wpAnyH_ready (rs := [4]) (by kernel_rfl) (by simp) ?_
  refine AllReadyH.cons rfl (fun K hK => ?_) (AllReadyH.nil)
  go_simp
  refine HD.out.mono ?_
  rintro e W1 ⟨rfl, rfl⟩
  go_wp2_with fail
  refine hK.out _ _ (HC1.out) (fun hHeld => ?_)
  clear hK K
  try simp only [List.getElem_toArray, List.getElem_cons_succ, List.getElem_cons_zero, Act.put, List.setIfInBounds_toArray, List.set_cons_zero, List.set_cons_succ]
  refine wpAnyH_ready (rs := [7]) (by kernel_rfl) (by simp) ?_
  refine AllReadyH.cons rfl (fun K hK => ?_) (AllReadyH.nil)
  go_simp
  refine HFo.out.mono ?_
  rintro e w5 ⟨⟨ys, v, hys, rfl, hown⟩, hb5⟩
  have HC5 := Lib.hid ((Keeps.of_below hb5) _ _ HC1.out)
  have HB5 := Lib.hid hb5
  have hown2 := own_mono hown (show w.heap.size ≤ W1.heap.size by rw [HZ1.out]; omega)
  have HO := Lib.hid hown2
  have HY := Lib.hid hys
  clear hb5 hown hown2 hys
  go_wp2_with fail
  refine hK.out _ _ (HC5.out) (fun hHeld => ?_)
  clear hK K
  try simp only [List.getElem_toArray, List.getElem_cons_succ, List.getElem_cons_zero, Act.put, List.setIfInBounds_toArray, List.set_cons_zero, List.set_cons_succ]
  refine wpAnyH_ready (rs := [8]) (by kernel_rfl) (by simp) ?_
  refine AllReadyH.cons rfl (fun K hK => ?_) (AllReadyH.nil)
  go_simp
  refine hK.out _ _ (HC5.out) (fun hHeld => ?_)
  clear hK K
  try simp only [List.getElem_toArray, List.getElem_cons_succ, List.getElem_cons_zero, Act.put, List.setIfInBounds_toArray, List.set_cons_zero, List.set_cons_succ]
  refine wpAnyH_done (by kernel_rfl) ?_ _
  go_wp2
  go_ret
  refine ⟨v, rfl, ?_, HB0.out.trans ((HB1.out.mono (by rw [HZ0.out]; omega)).trans (HB5.out.mono (by rw [HZ1.out]; omega)))⟩
  have e := HO.out
  have e2 : ys.map (fun x => withI k x.1) = (dimsL s).map (withI k) := map_in HY.out (withI k)
  rw [e2] at e
  have e3 : ys.length = ((dimsL s).map (withI k)).length := by rw [← e2]; simp
  rw [← e3]
  exact e
end Go.Proofs.YtjllmladhjbnaaaGreatDoor
