/- The reference's put, drop, done. -/
import Derived.Test.YtgkgkekgmcldmaaRo2
namespace Go.Proofs.Ytgkgkekgmcldmaa
open Go.RowKit
def agg5 (r : RFv) : Value := .agg (cell5 r).toArray
theorem ofF_mem {rs : List RFv} {r : RFv} (h : r ∈ rs) : (r.n, r.f) ∈ ofF rs := List.mem_map.2 ⟨r, h, rfl⟩
section
variable {w w' : World} {q c : Nat} {σ σ' : St} {M A : Nat → Prop} {fv lv fv' lv' : Value} {rs rs' : List RFv}
theorem grow_bd {X : Nat → Prop} (hX : ∀ k, X k → k < w.heap.size) (hs : w.heap.size ≤ w'.heap.size) : ∀ k, Grw X w w' k → k < w'.heap.size := grw_bd hX hs
/-- What a change of the files leaves. -/
theorem RefIn.turn (h : RefIn w q σ c M A fv lv rs) {c' : Nat} (hs : w.heap.size ≤ w'.heap.size) (hok : σ'.ok c') (hfs : σ'.fs = ofF rs') (blk : Own 62 w' q [.int .i64 σ'.lim, fv', lv']) (all : ∀ r ∈ rs', ROk (Grw A w w') w' r)
    (row : w'.ownsRow 0 75 5 fv' rs'.length (rCells rs')) (ops : w'.ownsRow 0 66 2 lv' σ'.ops.length (opCells σ'.ops)) (mf : ∀ k, fv'.ownBlock = some k → Grw M w w' k) (mo : ∀ k, lv'.ownBlock = some k → Grw M w w' k) :
    RefIn w' q σ' c' (Grw M w w') (Grw A w w') fv' lv' rs' :=
  ⟨blk, hok, hfs, all, row, ops, .inl h.mq, mf, mo, grw_bd h.ml hs, grw_bd h.al hs⟩
theorem RefIn.ml_q (h : RefIn w q σ c M A fv lv rs) : q < w.heap.size := h.ml q h.mq
end
/-- Rows of bytes stay where a row of something else is turned. -/
theorem bys_grown {w w' : World} {b n s : Nat} {e : TypeId} {v : Value} {xs : List Value} (h : w.ownsRow b e s v n xs) (he : 5 ≠ e) (hg : w.grownBy w' v.ownBlock) : Bys w w' := fun _ _ _ _ hr => hr.kept hg (own_apart hr h he)
theorem bys_below {w w' : World} (h : Below w.heap.size w w') : Bys w w' := fun _ _ _ _ hr => own_below hr h (Nat.le_refl _)
theorem bys_set {w : World} {g : Nat} {T : TypeId} (h : Ty w g T) (hT : T ≠ 5) (i : Nat) (u : Value) : Bys w (w.setCell ⟨g, i, none⟩ u) := fun _ _ _ _ hr => own_set hr h hT i u
set_option maxRecDepth 100000 in
set_option maxHeartbeats 4000000 in
theorem rdrop_any {w : World} {q c : Nat} {σ : St} {M A : Nat → Prop} {fv lv : Value} {rs : List RFv} (n : Nm) (h : RefIn w q σ c M A fv lv rs) (hc : c ≤ 1000000) (hf : (fnd σ.fs n).isSome = true) :
    Calls Try.prog 47 #[.pointer (some ⟨q, 0, none⟩), .int .i64 (posF σ.fs n)] w fun e w' => e = .returned (.tuple #[]) ∧ RefAt w' q (σ.with (dropF σ.fs n)) c (Grw M w w') (Grw A w w') ∧ Tch M w w' ∧ Bys w w' := by
  have hfew := h.ok.few
  have hN : rs.length = σ.fs.length := by rw [h.fs, ofF_len]
  obtain ⟨f, hff⟩ := Option.isSome_iff_exists.1 hf
  have hpos := fnd_pos (n := n) h.ok.rising
  rw [hff] at hpos
  obtain ⟨pr, hp1, hp2⟩ := Option.bind_eq_some_iff.1 hpos.symm
  have hpn : pr.1 = n := by
    split at hp2
    · assumption
    · cases hp2
  have hdrop := drop_pos hp1 hpn
  have hlt : posF σ.fs n < σ.fs.length := (List.getElem?_eq_some_iff.1 hp1).1
  obtain ⟨k, hk⟩ : ∃ k, k = posF σ.fs n := ⟨_, rfl⟩
  rw [← hk] at hdrop hlt ⊢
  obtain ⟨s1, hs1, hr1⟩ := file_lo h.row (k := k) (by omega)
  obtain ⟨s2, hs2, hr2⟩ := file_hi h.row (k := k + 1) (by omega)
  have hok := h.ok.dropped n
  have hq1 := h.blk.cell (i := 1) rfl
  have hfs' : (σ.with (dropF σ.fs n)).fs = ofF (rs.take k ++ rs.drop (k + 1)) := by
    show dropF σ.fs n = _
    rw [hdrop, h.fs]
    simp [ofF, List.map_take, List.map_drop]
  have hl' : (rs.take k ++ rs.drop (k + 1)).length = k + (rs.length - (k + 1)) := by rw [List.length_append, List.length_take, List.length_drop]; omega
  -- the two appends
  have hlit : (w.drew.alloc (.cells #[] 75)).ownsRow w.heap.size 75 5 (.slice (some ⟨w.heap.size, 0, none⟩) 0 0) 0 [] := World.ownsRow_made w.drew #[] 0 (Nat.le_refl _) (by simp [maxLen]) rfl
  have hb1 : Below w.heap.size w (w.drew.alloc (.cells #[] 75)) := ((Below.refl _ w).drew).alloc (Nat.le_refl _) _
  have hin1 := h.below hb1
  obtain ⟨v1, W1, run1, o1, g1, at1⟩ := app_file _ w.heap.size _ s1 0 k [] _ hlit (hr1 _ hin1.row) (rCells_one (A := A) (w := w) fun r hr => h.all r (List.mem_of_mem_take hr)) (by omega) hb1.size
  have hb2 : Below w.heap.size w W1 := hb1.grown g1 hb1.size fun j e => (hlit.lt j e).1
  have hin2 := h.below hb2
  rw [Nat.zero_add, List.nil_append] at o1
  obtain ⟨v2, W2, run2, o2, g2, at2⟩ := app_file W1 w.heap.size v1 s2 k (rs.length - (k + 1)) _ _ o1 (hr2 _ hin2.row) (rCells_one (A := A) (w := w) fun r hr => h.all r (List.mem_of_mem_drop hr)) (by omega) hb2.size
  have hb3 : Below w.heap.size w W2 := hb2.grown g2 hb2.size fun j e => (o1.lt j e).1
  have hin3 := h.below hb3
  rw [← rCells_append, ← hl'] at o2
  obtain ⟨P2, c2, e2⟩ : ∃ P2 c2, v2 = .slice P2 (rs.take k ++ rs.drop (k + 1)).length c2 := by
    obtain ⟨P, c, hv, _⟩ := own_form o2
    exact ⟨P, c, hv⟩
  subst e2
  have q3 := hin3.blk.cell (i := 1) rfl
  have qf := hin3.blk.frozen
  have ty3 := Ty.of hin3.blk
  have hfin : RefIn (W2.setCell ⟨q, 1, none⟩ (.slice P2 (rs.take k ++ rs.drop (k + 1)).length c2)) q (σ.with (dropF σ.fs n)) c (Grw M w (W2.setCell ⟨q, 1, none⟩ (.slice P2 (rs.take k ++ rs.drop (k + 1)).length c2))) (Grw A w (W2.setCell ⟨q, 1, none⟩ (.slice P2 (rs.take k ++ rs.drop (k + 1)).length c2))) (.slice P2 (rs.take k ++ rs.drop (k + 1)).length c2) lv (rs.take k ++ rs.drop (k + 1)) := by
    refine h.turn (by have := hb3.size; simpa [World.setCell] using this) hok hfs' (hin3.blk.set_ 1 _) (fun r hr => ?_) (own_mono (own_set o2 ty3 (by decide) _ _) (Nat.zero_le _)) (own_set hin3.ops ty3 (by decide) _ _) (fun j e => .inr ⟨(o2.lt j e).1, ?_⟩) (fun j e => .inl (h.mo j e))
    · have hr0 : r ∈ rs := by
        rcases List.mem_append.1 hr with hr | hr
        · exact List.mem_of_mem_take hr
        · exact List.mem_of_mem_drop hr
      exact ((hin3.all r hr0).bys (bys_set ty3 (by decide) _ _)).mono fun _ h => .inl h
    · have := (o2.lt j e).2
      simpa [World.setCell] using this
  have htch : Tch M w (W2.setCell ⟨q, 1, none⟩ (.slice P2 (rs.take k ++ rs.drop (k + 1)).length c2)) := (Tch.of_below M hb3).same (Tch.setCell h.mq W2 1 _)
  have hbys : Bys w (W2.setCell ⟨q, 1, none⟩ (.slice P2 (rs.take k ++ rs.drop (k + 1)).length c2)) := (bys_below hb3).trans (bys_set ty3 (by decide) _ _)
  have hwr : IntKind.i64.wrap ((k : Int) + 1) = (k : Int) + 1 := IntWalk.i64_in _ (by omega)
  rw [show ((k + 1 : Nat) : Int) = (k : Int) + 1 from by omega] at hs2
  obtain ⟨Pf, capf, ef⟩ : ∃ Pf capf, fv = .slice Pf rs.length capf := by
    obtain ⟨P, c, hv, _⟩ := own_form h.row
    exact ⟨P, c, hv⟩
  subst ef
  obtain ⟨P0, n0, c0, e0⟩ : ∃ P n c, s1 = .slice P n c := by
    rcases hr1 _ hin1.row with ⟨e, _⟩ | ⟨ad, c, e, _⟩
    · exact ⟨_, _, _, e⟩
    · exact ⟨_, _, _, e⟩
  obtain ⟨P1, n1, c1, e1⟩ : ∃ P n c, s2 = .slice P n c := by
    rcases hr2 _ hin1.row with ⟨e, _⟩ | ⟨ad, c, e, _⟩
    · exact ⟨_, _, _, e⟩
    · exact ⟨_, _, _, e⟩
  obtain ⟨P3, n3, c3, e3⟩ : ∃ P n c, v1 = .slice P n c := by
    obtain ⟨P, c, hv, _⟩ := own_form o1
    exact ⟨P, _, c, hv⟩
  subst e0 e1 e3
  have q1' : (w.drew.alloc (.cells #[] 75)).cell? ⟨q, 1, none⟩ = some (.slice Pf rs.length capf) := (Keeps.of_below hb1) _ _ hq1
  have q2' : W1.cell? ⟨q, 1, none⟩ = some (.slice Pf rs.length capf) := (Keeps.of_below hb2) _ _ hq1
  have Run1 := Lib.hid run1
  have Run2 := Lib.hid run2
  have Hfin := Lib.hid hfin
  have Htch := Lib.hid htch
  have Hbys := Lib.hid hbys
  generalize (rs.take k ++ rs.drop (k + 1)).length = L at Run2 Hfin Htch Hbys o2
  generalize rs.length = N at *
  clear h hfew hN hf hff hpos hp1 hp2 hpn hdrop hlt hk hr1 hr2 hok hfs' hl' hlit hb1 hin1 run1 o1 g1 at1 hb2 hin2 run2 o2 g2 at2 hb3 hin3 ty3 hfin htch hbys hc
  go_enter Try.func47, Try.ntmps47
  go_upto_region 0 with (fail)
  refine wp_region_z (S := fun W => W.cell? ⟨q, 1, none⟩ = some (.slice Pf N capf)) (by kernel_rfl) hq1 19 (fun hHeld => ?_)
  refine wpAnyZ_take (i := 0) (v := ?vd0) rfl (by kernel_rfl) (by kernel_rfl) (by kernel_rfl) (by kernel_rfl) (fun _ _ _ h => h) (Or.inl ⟨by rfl, ?yd0⟩) hHeld ?rd0
  case yd0 => (intro W hW; go_simp; first | done | with_reducible rfl)
  try simp only [List.getElem_toArray, List.getElem_cons_zero, Act.put, List.setIfInBounds_toArray, List.set_cons_zero, List.set_cons_succ]
  refine wpAnyZ_take (i := 2) (v := ?vd2) rfl (by kernel_rfl) (by kernel_rfl) (by kernel_rfl) (by kernel_rfl) (fun _ _ _ h => h) (Or.inl ⟨by rfl, ?yd2⟩) hHeld ?rd2
  case yd2 => (intro W hW; go_simp; first | done | with_reducible rfl)
  try simp only [List.getElem_toArray, List.getElem_cons_succ, List.getElem_cons_zero, Act.put, List.setIfInBounds_toArray, List.set_cons_zero, List.set_cons_succ]
  refine wpAnyZ_take (i := 3) (v := ?vd3) rfl (by kernel_rfl) (by kernel_rfl) (by kernel_rfl) (by kernel_rfl) (fun _ _ _ h => h) (Or.inl ⟨by rfl, ?yd3⟩) hHeld ?rd3
  case yd3 => (intro W hW; go_simp; first | done | with_reducible rfl)
  try simp only [List.getElem_toArray, List.getElem_cons_succ, List.getElem_cons_zero, Act.put, List.setIfInBounds_toArray, List.set_cons_zero, List.set_cons_succ]
  refine wpAnyZ_take (i := 4) (v := ?vd4) rfl (by kernel_rfl) (by kernel_rfl) (by kernel_rfl) (by kernel_rfl) (fun _ _ _ h => h) (Or.inl ⟨by rfl, ?yd4⟩) hHeld ?rd4
  case yd4 => (intro W hW; go_simp; first | done | with_reducible rfl)
  try simp only [List.getElem_toArray, List.getElem_cons_succ, List.getElem_cons_zero, Act.put, List.setIfInBounds_toArray, List.set_cons_zero, List.set_cons_succ]
  refine wpAnyZ_take (i := 5) (v := ?vd5) rfl (by kernel_rfl) (by kernel_rfl) (by kernel_rfl) (by kernel_rfl) (fun _ _ _ h => h) (Or.inl ⟨by rfl, ?yd5⟩) hHeld ?rd5
  case yd5 => (intro W hW; have h1 := hW; go_simp; first | done | with_reducible rfl)
  try simp only [List.getElem_toArray, List.getElem_cons_succ, List.getElem_cons_zero, Act.put, List.setIfInBounds_toArray, List.set_cons_zero, List.set_cons_succ]
  refine wpAnyZ_take (i := 6) (v := ?vd6) rfl (by kernel_rfl) (by kernel_rfl) (by kernel_rfl) (by kernel_rfl) (fun _ _ _ h => h) (Or.inl ⟨by rfl, ?yd6⟩) hHeld ?rd6
  case yd6 => (intro W hW; go_simp; first | done | with_reducible rfl)
  try simp only [List.getElem_toArray, List.getElem_cons_succ, List.getElem_cons_zero, Act.put, List.setIfInBounds_toArray, List.set_cons_zero, List.set_cons_succ]
  refine wpAnyZ_take (i := 7) (v := ?vd7) rfl (by kernel_rfl) (by kernel_rfl) (by kernel_rfl) (by kernel_rfl) (fun _ _ _ h => h) (Or.inl ⟨by rfl, ?yd7⟩) hHeld ?rd7
  case yd7 => (intro W hW; go_simp; first | done | with_reducible rfl)
  try simp only [List.getElem_toArray, List.getElem_cons_succ, List.getElem_cons_zero, Act.put, List.setIfInBounds_toArray, List.set_cons_zero, List.set_cons_succ]
  refine wpAnyZ_take (i := 9) (v := ?vd9) rfl (by kernel_rfl) (by kernel_rfl) (by kernel_rfl) (by kernel_rfl) (fun _ _ _ h => h) (Or.inl ⟨by rfl, ?yd9⟩) hHeld ?rd9
  case yd9 => (intro W hW; go_simp; first | done | with_reducible rfl)
  try simp only [List.getElem_toArray, List.getElem_cons_succ, List.getElem_cons_zero, Act.put, List.setIfInBounds_toArray, List.set_cons_zero, List.set_cons_succ]
  refine wpAnyZ_take (i := 10) (v := ?vd10) rfl (by kernel_rfl) (by kernel_rfl) (by kernel_rfl) (by kernel_rfl) (fun _ _ _ h => h) (Or.inl ⟨by rfl, ?yd10⟩) hHeld ?rd10
  case yd10 => (intro W hW; go_simp; first | done | with_reducible rfl)
  try simp only [List.getElem_toArray, List.getElem_cons_succ, List.getElem_cons_zero, Act.put, List.setIfInBounds_toArray, List.set_cons_zero, List.set_cons_succ]
  refine wpAnyZ_take (i := 11) (v := ?vd11) rfl (by kernel_rfl) (by kernel_rfl) (by kernel_rfl) (by kernel_rfl) (fun _ _ _ h => h) (Or.inl ⟨by rfl, ?yd11⟩) hHeld ?rd11
  case yd11 => (intro W hW; go_simp; first | done | with_reducible rfl)
  try simp only [List.getElem_toArray, List.getElem_cons_succ, List.getElem_cons_zero, Act.put, List.setIfInBounds_toArray, List.set_cons_zero, List.set_cons_succ]
  refine wpAnyZ_take (i := 12) (v := ?vd12) rfl (by kernel_rfl) (by kernel_rfl) (by kernel_rfl) (by kernel_rfl) (fun _ _ _ h => h) (Or.inl ⟨by rfl, ?yd12⟩) hHeld ?rd12
  case yd12 => (intro W hW; have h1 := hW; go_simp; first | done | with_reducible rfl)
  try simp only [List.getElem_toArray, List.getElem_cons_succ, List.getElem_cons_zero, Act.put, List.setIfInBounds_toArray, List.set_cons_zero, List.set_cons_succ]
  refine wpAnyZ_take (i := 13) (v := ?vd13) rfl (by kernel_rfl) (by kernel_rfl) (by kernel_rfl) (by kernel_rfl) (fun _ _ _ h => h) (Or.inl ⟨by rfl, ?yd13⟩) hHeld ?rd13
  case yd13 => (intro W hW; go_simp; first | done | with_reducible rfl)
  try simp only [List.getElem_toArray, List.getElem_cons_succ, List.getElem_cons_zero, Act.put, List.setIfInBounds_toArray, List.set_cons_zero, List.set_cons_succ]
  refine wpAnyZ_take (i := 14) (v := ?vd14) rfl (by kernel_rfl) (by kernel_rfl) (by kernel_rfl) (by kernel_rfl) (fun _ _ _ h => h) (Or.inl ⟨by rfl, ?yd14⟩) hHeld ?rd14
  case yd14 => (intro W hW; go_simp; first | done | with_reducible rfl)
  try simp only [List.getElem_toArray, List.getElem_cons_succ, List.getElem_cons_zero, Act.put, List.setIfInBounds_toArray, List.set_cons_zero, List.set_cons_succ]
  refine wpAnyZ_take (i := 15) (v := ?vd15) rfl (by kernel_rfl) (by kernel_rfl) (by kernel_rfl) (by kernel_rfl) (fun _ _ _ h => h) (Or.inl ⟨by rfl, ?yd15⟩) hHeld ?rd15
  case yd15 => (intro W hW; go_simp; first | done | with_reducible rfl)
  try simp only [List.getElem_toArray, List.getElem_cons_succ, List.getElem_cons_zero, Act.put, List.setIfInBounds_toArray, List.set_cons_zero, List.set_cons_succ]
  refine wpAnyZ_ready (rs := [1]) (by kernel_rfl) (by simp) ?_
  refine AllReadyZ.cons rfl (fun K hK => ?_) (AllReadyZ.nil)
  go_simp
  refine hK.out _ _ (fun _ => q1') (fun hHeld => ?_)
  replace hHeld := hHeld (by decide)
  clear hK K
  try simp only [List.getElem_toArray, List.getElem_cons_succ, List.getElem_cons_zero, Act.put, List.setIfInBounds_toArray, List.set_cons_zero, List.set_cons_succ]
  refine wpAnyZ_ready (rs := [8]) (by kernel_rfl) (by simp) ?_
  refine AllReadyZ.cons rfl (fun K hK => ?_) (AllReadyZ.nil)
  rw [if_pos (by rfl)]
  refine oper_append (.tmp 5) (.tmp 11) 60 rfl _ _ _ _ rfl rfl Run1.out ?_
  refine hK.out _ _ (fun _ => q2') (fun hHeld => ?_)
  replace hHeld := hHeld (by decide)
  clear hK K
  try simp only [List.getElem_toArray, List.getElem_cons_succ, List.getElem_cons_zero, Act.put, List.setIfInBounds_toArray, List.set_cons_zero, List.set_cons_succ]
  refine wpAnyZ_ready (rs := [16]) (by kernel_rfl) (by simp) ?_
  refine AllReadyZ.cons rfl (fun K hK => ?_) (AllReadyZ.nil)
  rw [if_pos (by rfl)]
  refine oper_append (.tmp 12) (.tmp 19) 60 rfl _ _ _ _ rfl rfl Run2.out ?_
  refine hK.out _ _ (fun _ => q3) (fun hHeld => ?_)
  replace hHeld := hHeld (by decide)
  clear hK K
  try simp only [List.getElem_toArray, List.getElem_cons_succ, List.getElem_cons_zero, Act.put, List.setIfInBounds_toArray, List.set_cons_zero, List.set_cons_succ]
  refine wpAnyZ_ready (rs := [17]) (by kernel_rfl) (by simp) ?_
  refine AllReadyZ.cons rfl (fun K hK => ?_) (AllReadyZ.nil)
  go_simp
  refine hK.out _ _ (fun _ => q3) (fun hHeld => ?_)
  replace hHeld := hHeld (by decide)
  clear hK K
  try simp only [List.getElem_toArray, List.getElem_cons_succ, List.getElem_cons_zero, Act.put, List.setIfInBounds_toArray, List.set_cons_zero, List.set_cons_succ]
  refine wpAnyZ_take (i := 18) (v := ?vd18) rfl (by kernel_rfl) (by kernel_rfl) (by kernel_rfl) (by kernel_rfl) (fun _ _ _ h => h) (Or.inl ⟨by rfl, ?yd18⟩) hHeld ?rd18
  case yd18 => (intro W hW; go_simp; first | done | with_reducible rfl)
  try simp only [List.getElem_toArray, List.getElem_cons_succ, List.getElem_cons_zero, Act.put, List.setIfInBounds_toArray, List.set_cons_zero, List.set_cons_succ]
  refine wpAnyZ_ready (rs := [19]) (by kernel_rfl) (by simp) ?_
  refine AllReadyZ.cons rfl (fun K hK => ?_) (AllReadyZ.nil)
  go_simp
  refine hK.out _ _ (fun h => absurd rfl h) (fun hHeld => ?_)
  clear hK K hHeld
  try simp only [List.getElem_toArray, List.getElem_cons_succ, List.getElem_cons_zero, Act.put, List.setIfInBounds_toArray, List.set_cons_zero, List.set_cons_succ]
  refine wpAnyZ_done (by kernel_rfl) ?_ _
  go_wp2
  go_end0
  exact ⟨rfl, ⟨_, _, _, Hfin.out⟩, Htch.out, Hbys.out⟩
end Go.Proofs.Ytgkgkekgmcldmaa
