/- The reference's rows of files: what is appended, what is written. -/
import Derived.Test.YtgkgkekgmcldmaaRo1
import Derived.Test.YtgkgkekgmcldmaaZRegion
namespace Go.Proofs.Ytgkgkekgmcldmaa
open Go.RowKit
theorem infoFile : (Try.prog.info? 75).map (fun i => (i.zero, i.size, i.bytes)) = some (some (.agg #[.string ⟨#[]⟩, .slice none 0 0, .slice none 0 0, .bool false, .bool false]), 5, 72) := by kernel_rfl
/-- m files that a slice reads. -/
def SrcR (W : World) (s : Value) (m : Nat) (ys : List Value) : Prop :=
  (s = .slice none 0 0 ∧ m = 0 ∧ ys = []) ∨ ∃ ad c, s = .slice (some ad) m c ∧ ys.length = m * 5 ∧ ∀ j u, ys[j]? = some u → W.cell? (ad.add j) = some u
theorem app_file (W : World) (B : Nat) (v s : Value) (n m : Nat) (xs ys : List Value) (h : W.ownsRow B 75 5 v n xs) (hs : SrcR W s m ys) (h1 : ∀ u ∈ ys, u.oneCell' = true) (hn : n + m ≤ 1000000) (hB : B ≤ W.heap.size) :
    ∃ v' W', (Builtin.append_ #[60, 60] 60 #[v, s]).run Try.prog W = .ok v' W' ∧ W'.ownsRow B 75 5 v' (n + m) (xs ++ ys) ∧ W.grownBy W' v.ownBlock ∧ (v'.ownBlock = v.ownBlock ∨ v'.ownBlock = some W.heap.size) := by
  obtain ⟨i0, hi, hz0, hz1, hz2⟩ := info_parts infoFile
  rcases hs with ⟨rfl, rfl, rfl⟩ | ⟨ad, c, rfl, hl, hc⟩
  · refine ⟨v, W, run_append_owned_none (P := Try.prog) (w := W) B 60 60 75 i0 5 Try.underlying60 hi v n xs h, by simpa using h, ⟨rfl, rfl, rfl, Nat.le_refl _, fun _ _ _ => rfl⟩, .inl rfl⟩
  · obtain ⟨v', W', hrun, ho, hgr, _, hat⟩ := run_append_own_at (P := Try.prog) W B 60 60 75 i0 _ 5 72 Try.underlying60 hi hz0 hz1 hz2 rfl (by omega) v n xs h
      ad m c ys hl hc h1 (by simp [maxLen]; omega) (by omega) hB
    exact ⟨v', W', hrun, ho, hgr, hat⟩
theorem rCells_one {A : Nat → Prop} {w : World} {rs : List RFv} (h : ∀ r ∈ rs, ROk A w r) : ∀ u ∈ rCells rs, u.oneCell' = true := by
  intro u hu
  simp only [rCells, List.mem_flatMap] at hu
  obtain ⟨r, hr, hu⟩ := hu
  obtain ⟨h1, ⟨ox, h2, _⟩, _⟩ := h r hr
  obtain ⟨P, c, e1⟩ := h1.sized
  obtain ⟨P', c', e2⟩ := h2.sized
  simp only [cell5, List.mem_cons, List.not_mem_nil, or_false] at hu
  rcases hu with rfl | rfl | rfl | rfl | rfl
  · rfl
  · rw [e1]; rfl
  · rw [e2]; rfl
  · rfl
  · rfl
theorem file_lo {fv : Value} {rs : List RFv} {W0 : World} (h : W0.ownsRow 0 75 5 fv rs.length (rCells rs)) {k : Nat} (hk : k ≤ rs.length) :
    ∃ s1, (∀ W, (Instr.slice 60 fv none (some (.int .i64 (k : Int))) none).run Try.prog W = .ok s1 W) ∧ ∀ W : World, W.ownsRow 0 75 5 fv rs.length (rCells rs) → SrcR W s1 k (rCells (rs.take k)) := by
  rcases own_form0 h with ⟨rfl, h0⟩ | ⟨g, c, rfl, hc, _⟩
  · have e : rs = [] := List.eq_nil_of_length_eq_zero h0
    subst e
    have hk0 : k = 0 := by simpa using hk
    subst hk0
    refine ⟨.slice none 0 0, fun W => ?_, fun W _ => .inl ⟨rfl, rfl, rfl⟩⟩
    have he : Try.prog.elem 60 = 75 := by simp [Program.elem, Try.underlying60]
    rw [run_slice_h (h0 := by omega) (h2 := by omega) (ht := by rw [he]; exact Try.underlying60), he, Try.sizeOf75]
    simp [sliced, Result.andThen]
  · refine ⟨.slice (some ⟨g, 0, none⟩) k c, fun W => slice0n Try.underlying60 5 Try.sizeOf75 _ _ c k (by omega) W, fun W hW => .inr ⟨⟨g, 0, none⟩, c, rfl, by rw [rCells_len, List.length_take]; omega, fun j u hu => ?_⟩⟩
    obtain ⟨P, c', e, _, _, h3⟩ := own_form hW
    injection e with e1 e2 e3
    subst e1
    rcases Nat.eq_zero_or_pos rs.length with h0 | h0
    · have e : rs = [] := List.eq_nil_of_length_eq_zero h0
      subst e
      simp [rCells] at hu
    · obtain ⟨g', e4, _, hcell⟩ := h3 h0
      injection e4 with e4
      injection e4 with e4
      subst e4
      rw [add0]
      refine hcell j u ?_
      rw [rCells_take, List.getElem?_take] at hu
      split at hu
      · exact hu
      · cases hu
theorem file_hi {fv : Value} {rs : List RFv} {W0 : World} (h : W0.ownsRow 0 75 5 fv rs.length (rCells rs)) {k : Nat} (hk : k ≤ rs.length) :
    ∃ s2, (∀ W, (Instr.slice 60 fv (some (.int .i64 (k : Int))) none none).run Try.prog W = .ok s2 W) ∧ ∀ W : World, W.ownsRow 0 75 5 fv rs.length (rCells rs) → SrcR W s2 (rs.length - k) (rCells (rs.drop k)) := by
  have he : Try.prog.elem 60 = 75 := by simp [Program.elem, Try.underlying60]
  rcases own_form0 h with ⟨rfl, h0⟩ | ⟨g, c, rfl, hc, _⟩
  · have e : rs = [] := List.eq_nil_of_length_eq_zero h0
    subst e
    have hk0 : k = 0 := by simpa using hk
    subst hk0
    refine ⟨.slice none 0 0, fun W => ?_, fun W _ => .inl ⟨rfl, rfl, rfl⟩⟩
    rw [run_slice_l (h0 := by omega) (h1 := by omega) (ht := by rw [he]; exact Try.underlying60), he, Try.sizeOf75]
    simp [sliced, Result.andThen]
  · refine ⟨.slice (if c = k then some ⟨g, 0, none⟩ else some ((⟨g, 0, none⟩ : Addr).add (k * 5))) (rs.length - k) (c - k), fun W => ?_, fun W hW => ?_⟩
    · rw [run_slice_l (h0 := by omega) (h1 := by omega) (ht := by rw [he]; exact Try.underlying60), he, Try.sizeOf75]
      simp [sliced, Result.andThen]
    · by_cases hck : c = k
      · rw [if_pos hck]
        refine .inr ⟨⟨g, 0, none⟩, c - k, rfl, by rw [rCells_len, List.length_drop], fun j u hu => ?_⟩
        rw [List.drop_eq_nil_of_le (by omega)] at hu
        simp [rCells] at hu
      · rw [if_neg hck]
        refine .inr ⟨_, c - k, rfl, by rw [rCells_len, List.length_drop], fun j u hu => ?_⟩
        have hcell := World.ownsRow.cells hW (g := g) rfl
        rw [add_of_add]
        refine hcell _ u ?_
        rw [rCells_drop, List.getElem?_drop] at hu
        exact hu
/-- An element of a row of the call's own is written. -/
theorem own_write {w : World} {b n cap g i s : Nat} {e : TypeId} {xs : List Value} (h : w.ownsRow b e s (.slice (some ⟨g, 0, none⟩) n cap) n xs) (u : Value) : (w.setCell ⟨g, i, none⟩ u).ownsRow b e s (.slice (some ⟨g, 0, none⟩) n cap) n (xs.set i u) := by
  refine ⟨by rw [List.length_set]; exact h.1, ?_⟩
  rcases h.2 with ⟨h0, _⟩ | ⟨g', cap', cur, h0, hg, hh, h1, h2, h3, h4⟩
  · cases h0
  · injection h0 with e1 e2 e3
    injection e1 with e1
    injection e1 with e1
    subst e1 e3
    refine .inr ⟨g, cap, cur.setIfInBounds i u, rfl, hg, ?_, h1, h2, by simpa using h3, ?_⟩
    · simp [World.setCell, Array.getElem?_modify, hh]
    · rw [← h4]
      simp [List.take_set]
end Go.Proofs.Ytgkgkekgmcldmaa
