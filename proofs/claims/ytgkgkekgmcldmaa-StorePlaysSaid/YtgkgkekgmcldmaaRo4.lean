/- The reference's put, done. -/
import Derived.Test.YtgkgkekgmcldmaaRo3
namespace Go.Proofs.Ytgkgkekgmcldmaa
open Go.RowKit
theorem infoOpR : (Try.prog.info? 66).map (fun i => (i.zero, i.size, i.bytes)) = some (some (.agg #[.int .i64 0, .string ⟨#[]⟩]), 2, 24) := by kernel_rfl
theorem rdeed_step {w : World} {q c : Nat} {σ : St} {M A : Nat → Prop} {fv lv : Value} {rs : List RFv} (h : RefIn w q σ c M A fv lv rs) (hl : σ.ops.length + 1 ≤ c) (hc : c ≤ 1000000) {k : Int} (hk : 0 ≤ k ∧ k ≤ 4) {n : Nm} (hn : nameOk n = true) :
    ∃ g d w6, (Builtin.append_ #[43, 43] 43 #[lv, .slice (some ⟨w.heap.size, 0, none⟩) 1 1]).run Try.prog (w.alloc (.cells #[.int .i64 k, .string (str n)] 66)) = .ok (.slice (some ⟨g, 0, none⟩) (σ.ops.length + 1) d) w6 ∧
      w6.cell? ⟨q, 2, none⟩ = some lv ∧ w6.frozen? ⟨q, 2, none⟩ = false ∧
      RefAt (w6.setCell ⟨q, 2, none⟩ (.slice (some ⟨g, 0, none⟩) (σ.ops.length + 1) d)) q (σ.deed σ.fs k n) c (Grw M w (w6.setCell ⟨q, 2, none⟩ (.slice (some ⟨g, 0, none⟩) (σ.ops.length + 1) d))) (Grw A w (w6.setCell ⟨q, 2, none⟩ (.slice (some ⟨g, 0, none⟩) (σ.ops.length + 1) d))) ∧
      Tch M w (w6.setCell ⟨q, 2, none⟩ (.slice (some ⟨g, 0, none⟩) (σ.ops.length + 1) d)) := by
  obtain ⟨i0, hi, hz0, hz1, hz2⟩ := info_parts infoOpR
  have hba : Below w.heap.size w (w.alloc (.cells #[.int .i64 k, .string (str n)] 66)) := (Below.refl _ _).alloc (Nat.le_refl _) _
  have ha := h.below hba
  obtain ⟨v', w6, hrun, ho, hgr, _, hat⟩ := run_append_own_at (P := Try.prog) (w.alloc (.cells #[.int .i64 k, .string (str n)] 66)) 0 43 43 66 i0 _ 2 24 Try.underlying43 hi hz0 hz1 hz2 rfl (by omega) lv σ.ops.length (opCells σ.ops) ha.ops
    ⟨w.heap.size, 0, none⟩ 1 1 [.int .i64 k, .string (str n)] rfl (fun j u hu => by
      rw [add0, show (w.alloc (.cells #[.int .i64 k, .string (str n)] 66)).cell? ⟨w.heap.size, j, none⟩ = #[.int .i64 k, .string (str n)][j]? from cell_of_row _ _ _ _ 66 (0, 0) (heap_alloc_new w _)]
      simpa using hu)
    (by intro u hu; simp at hu; rcases hu with rfl | rfl <;> rfl) (by simp [maxLen]; omega) (by omega) (by omega)
  obtain ⟨g, d, rfl⟩ : ∃ g d, v' = .slice (some ⟨g, 0, none⟩) (σ.ops.length + 1) d := by
    rcases own_form0 ho with ⟨_, h0⟩ | ⟨g, d, e, _⟩
    · omega
    · exact ⟨g, d, e⟩
  have hpd : ∀ j, lv.ownBlock = some j → j ≠ q := ops_ty ha.ops (Ty.of ha.blk) (by decide)
  have hbk : Own 62 w6 q [.int .i64 σ.lim, fv, lv] := (hgr.block q ha.blk.lt fun e => hpd q e.symm rfl).trans ha.blk
  have t6 : Tch M w w6 := (Tch.of_below M hba).trans (Tch.of_grown (M := M) hgr fun k e => h.mo k e) fun _ _ hm => hm
  have hs6 : w.heap.size + 1 ≤ w6.heap.size := by have := hgr.size; simpa using this
  have hty6 : Ty w6 q 62 := Ty.of hbk
  have e2 : (w6.setCell ⟨q, 2, none⟩ (.slice (some ⟨g, 0, none⟩) (σ.ops.length + 1) d)).heap.size = w6.heap.size := by simp [World.setCell]
  refine ⟨g, d, w6, hrun, hbk.cell (i := 2) rfl, hbk.frozen 2, ⟨fv, .slice (some ⟨g, 0, none⟩) (σ.ops.length + 1) d, rs, h.turn (σ' := σ.deed σ.fs k n) (by omega) (h.ok.deed hl hk hn) h.fs (hbk.set_ 2 _) (fun r hr => ?_) (own_set (ha.row.kept hgr (own_apart ha.row ha.ops (by decide))) hty6 (by decide) _ _) ?_ (fun k e => .inl (h.mf k e)) ?_⟩, t6.same (Tch.setCell h.mq w6 2 _)⟩
  · exact (((ha.all r hr).bys (bys_grown ha.ops (by decide) hgr)).bys (bys_set hty6 (by decide) _ _)).mono fun _ h => .inl h
  · have e : (opCells (σ.deed σ.fs k n).ops) = opCells σ.ops ++ [.int .i64 k, .string (str n)] := opCells_snoc _ _
    have e2 : (σ.deed σ.fs k n).ops.length = σ.ops.length + 1 := by simp [St.deed]
    rw [e, e2]
    exact own_set ho hty6 (by decide) _ _
  · intro j hj
    have hlt := (ho.lt j hj).2
    rcases hat with hat | hat
    · rw [hat] at hj
      exact .inl (h.mo j hj)
    · rw [hat] at hj
      injection hj with hj
      have e : (w.alloc (.cells #[.int .i64 k, .string (str n)] 66)).heap.size = w.heap.size + 1 := by simp
      rw [e] at hj
      exact .inr ⟨by omega, by rw [e2]; exact hlt⟩
set_option maxRecDepth 100000 in
set_option maxHeartbeats 4000000 in
theorem rdone_any (w : World) (q c : Nat) (σ : St) (M A : Nat → Prop) (k : Int) (n : Nm) (h : RefAt w q σ c M A) (hn : nameOk n = true) (hk : 0 ≤ k ∧ k ≤ 4) (hl : σ.ops.length + 1 ≤ c) (hc : c ≤ 1000000) :
    Calls Try.prog 37 #[.pointer (some ⟨q, 0, none⟩), .int .i64 k, .string (str n)] w (RefPost q (σ.deed σ.fs k n) c M A (.tuple #[]) w) := by
  obtain ⟨fv, lv, rs, h⟩ := h
  have q2 := h.blk.cell (i := 2) rfl
  obtain ⟨P1, n1, c1, e1⟩ : ∃ P1 n1 c1, lv = .slice P1 n1 c1 := by
    obtain ⟨P, c, hv, _⟩ := own_form h.ops
    exact ⟨P, _, c, hv⟩
  obtain ⟨g, d, w6, hr, z1, z2, z3, z4⟩ := rdeed_step h hl hc hk hn
  subst e1
  have Hr := Lib.hid hr
  have Z3 := Lib.hid z3
  have Z4 := Lib.hid z4
  clear hr z3 z4 h hn hk hl hc
  go_enter Try.func37, Try.ntmps37
  go_wp2_with (at_builtin; have _t := Hr; refine wpList_append_eq rfl (.tmp 10) (.tmp 14) 43 rfl _ _ _ _ rfl rfl Hr.out ?_; clear _t Hr)
  go_end0
  exact ⟨rfl, Z3.out, Z4.out⟩
theorem set_app5 (a b : List Value) (ha : a.length = 5) (i : Nat) (u : Value) : (a ++ b).set (5 + i) u = a ++ b.set i u := by
  rw [List.set_append_right _ _ (by omega), ha, Nat.add_sub_cancel_left]
theorem set5 : ∀ {rs : List RFv} {k : Nat} (r : RFv), k < rs.length →
    (((((rCells rs).set (k * 5) (.string (str r.n))).set (k * 5 + 1) r.vb).set (k * 5 + 2) r.vo).set (k * 5 + 3) (.bool (decide (r.f.st = 2)))).set (k * 5 + 4) (.bool r.had) = rCells (rs.set k r)
  | p :: t, 0, r, _ => by simp [rCells, cell5]
  | p :: t, k + 1, r, h => by
    have ih := set5 (rs := t) (k := k) r (by simpa using h)
    have e : rCells (p :: t) = cell5 p ++ rCells t := by simp [rCells]
    have e2 : rCells (p :: t.set k r) = cell5 p ++ rCells (t.set k r) := by simp [rCells]
    rw [List.set_cons_succ, e, e2, ← ih]
    have e3 : (cell5 p).length = 5 := rfl
    rw [show (k + 1) * 5 = 5 + k * 5 from by omega]
    simp only [Nat.add_assoc]
    rw [set_app5 _ _ e3, set_app5 _ _ e3, set_app5 _ _ e3, set_app5 _ _ e3, set_app5 _ _ e3]
section
variable {w : World} {q c : Nat} {σ : St} {M A : Nat → Prop} {fv lv : Value} {rs : List RFv} {k : Nat} {s1 s2 : Value} {r : RFv}
theorem insA (h : RefIn w q σ c M A fv lv rs) (hk : k ≤ rs.length) (hN : rs.length ≤ 1000000) (hr1 : ∀ W : World, W.ownsRow 0 75 5 fv rs.length (rCells rs) → SrcR W s1 k (rCells (rs.take k))) :
    ∀ (Wa : World) (ge : Nat), Below w.heap.size w Wa → Wa.ownsRow w.heap.size 75 5 (.slice (some ⟨ge, 0, none⟩) 0 0) 0 [] →
      ∃ P n d Wb, (Builtin.append_ #[60, 60] 60 #[.slice (some ⟨ge, 0, none⟩) 0 0, s1]).run Try.prog Wa = .ok (.slice P n d) Wb ∧ Wb.ownsRow w.heap.size 75 5 (.slice P n d) k (rCells (rs.take k)) ∧ Below w.heap.size w Wb ∧ Wa.grownBy Wb (some ge) := by
  intro Wa ge hb ho
  obtain ⟨v1, W1, run1, o1, g1, _⟩ := app_file _ w.heap.size _ s1 0 k [] _ ho (hr1 _ (h.below hb).row) (rCells_one (A := A) (w := w) fun r hr => h.all r (List.mem_of_mem_take hr)) (by omega) hb.size
  rw [Nat.zero_add, List.nil_append] at o1
  obtain ⟨P, d, hv, _⟩ := own_form o1
  subst hv
  exact ⟨P, k, d, W1, run1, o1, hb.grown g1 hb.size fun j e => (ho.lt j e).1, g1⟩
theorem insB (hk : k ≤ 999999) (hr : ROk A w r) :
    ∀ (Wb : World) (v1 : Value) (gl : Nat), Below w.heap.size w Wb → Wb.ownsRow w.heap.size 75 5 v1 k (rCells (rs.take k)) → Own 75 Wb gl (cell5 r) →
      ∃ P n d Wc, (Builtin.append_ #[60, 60] 60 #[v1, .slice (some ⟨gl, 0, none⟩) 1 1]).run Try.prog Wb = .ok (.slice P n d) Wc ∧ Wc.ownsRow w.heap.size 75 5 (.slice P n d) (k + 1) (rCells (rs.take k ++ [r])) ∧ Below w.heap.size w Wc := by
  intro Wb v1 gl hb ho hlit
  obtain ⟨v2, W2, run2, o2, g2, _⟩ := app_file Wb w.heap.size v1 (.slice (some ⟨gl, 0, none⟩) 1 1) k 1 _ (cell5 r) ho (.inr ⟨_, _, rfl, rfl, fun j u hu => by rw [add0]; exact hlit.cell hu⟩) (by
    have := rCells_one (A := A) (w := w) (rs := [r]) (fun r' hr' => by simp at hr'; subst hr'; exact hr)
    simpa [rCells] using this) (by omega) hb.size
  have e : rCells (rs.take k ++ [r]) = rCells (rs.take k) ++ cell5 r := by rw [rCells_append]; simp [rCells]
  rw [← e] at o2
  obtain ⟨P, d, hv, _⟩ := own_form o2
  subst hv
  exact ⟨P, k + 1, d, W2, run2, o2, hb.grown g2 hb.size fun j e => (ho.lt j e).1⟩
theorem insC (h : RefIn w q σ c M A fv lv rs) (hk : k ≤ rs.length) (hN : rs.length ≤ 999999) (hr2 : ∀ W : World, W.ownsRow 0 75 5 fv rs.length (rCells rs) → SrcR W s2 (rs.length - k) (rCells (rs.drop k))) (hr : ROk A w r) (hfr : fnd σ.fs r.n = none) (hp : posF σ.fs r.n = k) (hok : (σ.with (putF σ.fs r.n r.f)).ok (c + 1)) :
    ∀ (Wc : World) (v2 : Value), Below w.heap.size w Wc → Wc.ownsRow w.heap.size 75 5 v2 (k + 1) (rCells (rs.take k ++ [r])) →
      ∃ P n d Wd, (Builtin.append_ #[60, 60] 60 #[v2, s2]).run Try.prog Wc = .ok (.slice P n d) Wd ∧ Below w.heap.size w Wd ∧ Wd.frozen? ⟨q, 1, none⟩ = false ∧
        RefAt (Wd.setCell ⟨q, 1, none⟩ (.slice P n d)) q (σ.with (putF σ.fs r.n r.f)) (c + 1) (Grw M w (Wd.setCell ⟨q, 1, none⟩ (.slice P n d))) (Grw A w (Wd.setCell ⟨q, 1, none⟩ (.slice P n d))) ∧ Tch M w (Wd.setCell ⟨q, 1, none⟩ (.slice P n d)) := by
  intro Wc v2 hb ho
  obtain ⟨v3, W3, run3, o3, g3, _⟩ := app_file Wc w.heap.size v2 s2 (k + 1) (rs.length - k) _ _ ho (hr2 _ (h.below hb).row) (rCells_one (A := A) (w := w) fun r hr => h.all r (List.mem_of_mem_drop hr)) (by omega) hb.size
  have hb3 : Below w.heap.size w W3 := hb.grown g3 hb.size fun j e => (ho.lt j e).1
  have hin3 := h.below hb3
  have hl : (rs.take k ++ [r] ++ rs.drop k).length = k + 1 + (rs.length - k) := by simp only [List.length_append, List.length_take, List.length_drop, List.length_cons, List.length_nil]; omega
  rw [← rCells_append, ← hl] at o3
  have hfs : (σ.with (putF σ.fs r.n r.f)).fs = ofF (rs.take k ++ [r] ++ rs.drop k) := by
    show putF σ.fs r.n r.f = _
    rw [put_pos_no r.f (fun p hp e => fnd_none hfr p (List.mem_of_getElem? hp) e), hp, h.fs]
    simp [ofF, List.map_take, List.map_drop]
  obtain ⟨P, d, hv, _⟩ := own_form o3
  subst hv
  have ty3 := Ty.of hin3.blk
  have hz : (W3.setCell ⟨q, 1, none⟩ (.slice P (rs.take k ++ [r] ++ rs.drop k).length d)).heap.size = W3.heap.size := by simp [World.setCell]
  refine ⟨P, _, d, W3, run3, hb3, hin3.blk.frozen 1, ⟨_, lv, _, h.turn (by rw [hz]; exact hb3.size) hok hfs (hin3.blk.set_ 1 _) (fun r' hr' => ?_) (own_mono (own_set o3 ty3 (by decide) _ _) (Nat.zero_le _)) (own_set hin3.ops ty3 (by decide) _ _) (fun j e => .inr ⟨(o3.lt j e).1, by rw [hz]; exact (o3.lt j e).2⟩) (fun j e => .inl (h.mo j e))⟩, (Tch.of_below M hb3).same (Tch.setCell h.mq W3 1 _)⟩
  have h0 : ROk A W3 r' := by
    simp only [List.mem_append, List.mem_cons, List.not_mem_nil, or_false] at hr'
    rcases hr' with (hr' | rfl) | hr'
    · exact hin3.all r' (List.mem_of_mem_take hr')
    · exact hr.below hb3
    · exact hin3.all r' (List.mem_of_mem_drop hr')
  exact (h0.bys (bys_set ty3 (by decide) _ _)).mono fun _ h => .inl h
end
end Go.Proofs.Ytgkgkekgmcldmaa
