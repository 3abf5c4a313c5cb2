/- A region that draws its order: cells that are read may turn behind what waits for the reads. No Go text in sight. -/
import Derived.Test.YtnjalnnbdmmcmaaRegN
namespace Go.Proofs.Ytnjalnnbdmmcmaa
open Go.RowKit
section
variable {P : Program} {ops : Array Oper} {Q : Exit → Act → World → Prop} {md : Region.Mode} {S : World → Prop} {kill : List Nat}
/-- Whatever order is picked; each operation but those in 'kill' keeps S. -/
def anyP (P : Program) (md : Region.Mode) (ops : Array Oper) (Q : Exit → Act → World → Prop) (S : World → Prop) (kill : List Nat) : Nat → Array Bool → Act → World → Prop
  | 0, l, a, w => Region.ready md ops l = [] ∧ Q .normal a w
  | k + 1, l, a, w => (Region.ready md ops l = [] → Q .normal a w) ∧ ∀ i ∈ Region.ready md ops l, wpOp P ops Q i (fun a' w' => (i ∉ kill → S w → S w') ∧ anyP P md ops Q S kill k (l.setIfInBounds i true) a' w') a w
theorem anyP_sound : ∀ (k : Nat) (l : Array Bool) (a : Act) (w : World), anyP P md ops Q S kill k l a w → wpAny P md ops Q k l a w
  | 0, _, _, _, h => h
  | k + 1, _, _, _, h => ⟨h.1, fun i hi => wpOp_mono (fun a' w' h' => anyP_sound k _ a' w' h'.2) (h.2 i hi)⟩
theorem anyP_first {T : World → Prop} {i f : Nat} {oi : Oper} {v : Value} (hi : ops[i]? = some oi) (hsel : ∀ (j : Nat) (o : Oper) cs b, ops[j]? = some o → o.op ≠ .select cs b) (hQ : ∀ c a w, Q (.panic c) (a.put oi.dst v) w → Q (.panic c) a w)
    (hT : (∀ w, T w) ∨ (T = S ∧ kill.all (fun j => waits md ops i f j) = true)) :
    ∀ (k : Nat) (l : Array Bool) (a : Act) (w : World), (∀ j oj, ops[j]? = some oj → j ≠ i → l.getD j true = false → (∀ e ∈ oj.after, Region.binds md e = true → e.on ≠ i) → oi.apart ops oj = true) → Closed md ops l →
      i ∈ Region.ready md ops l → YieldsIf P ops T oi v a → T w → anyP P md ops Q S kill k (l.setIfInBounds i true) (a.put oi.dst v) w → anyP P md ops Q S kill (k + 1) l a w := by
  intro k
  induction k with
  | zero =>
    intro l a w _ _ hr hy hS H
    refine ⟨fun h => absurd hr (by rw [h]; simp), fun j hj => ?_⟩
    by_cases hji : j = i
    · subst hji
      exact hy.wpOp hi hS ⟨fun _ h => h, H⟩
    · exact absurd (ready_mono hj hji) (by rw [H.1]; simp)
  | succ k ih =>
    intro l a w hf hcl hr hy hS H
    refine ⟨fun h => absurd hr (by rw [h]; simp), fun j hj => ?_⟩
    by_cases hji : j = i
    · subst hji
      exact hy.wpOp hi hS ⟨fun _ h => h, H⟩
    · obtain ⟨hun, oj, hoj, hal⟩ := mem_ready.1 hj
      have hi0 : l.getD i false = false := by
        have g0 := (mem_ready.1 hr).1
        by_cases hl : i < l.size
        · simp [hl] at g0 ⊢; exact g0
        · simp [Array.getElem?_eq_none (Nat.le_of_not_lt hl)] at g0
      have hno : ∀ e ∈ oj.after, Region.binds md e = true → e.on ≠ i := fun e he hb heq => by
        have g1 := hal e he hb
        rw [heq, hi0] at g1
        cases g1
      have hTw : ∀ w', (j ∉ kill → S w → S w') → T w' := fun w' h => by
        rcases hT with h1 | ⟨rfl, h2⟩
        · exact h1 w'
        · refine h (fun hk => ?_) hS
          exact (waits_not hcl hi0 f j (List.all_eq_true.1 h2 j hk)).2 hj
      have h2 := wpOp_putIf hoj (hf j oj hoj hji hun hno) (fun cs b => hsel i oi cs b hi) (fun cs b => hsel j oj cs b hoj) hQ hy (H.2 j (ready_mono hj hji))
      refine wpOp_mono (fun a' w' h3 => ⟨h3.2.1, ih (l.setIfInBounds j true) a' w' (fun m om hm hmi hmu hmn => hf m om hm hmi ?_ hmn) (hcl.step hj) (ready_mono hr (Ne.symm hji)) h3.1 (hTw _ h3.2.1) ?_⟩) h2
      · by_cases hjm : j = m
        · subst hjm; exact hun
        · rwa [getD_set_ne true hjm] at hmu
      · rw [Array.setIfInBounds_comm _ _ hji]
        exact h3.2.2
theorem anyP_take {i : Nat} {oi : Oper} {v : Value} {k : Nat} {l : Array Bool} {a : Act} {w : World} (hi : ops[i]? = some oi) (hs : Region.noSelect ops = true) (hf : Region.free md ops l i = true) (hr : (Region.ready md ops l).contains i = true) (hc : closedB md ops l = true)
    (hk : kill.all (fun j => waits md ops i 30 j) = true)
    (hQ : ∀ c a w, Q (.panic c) (a.put oi.dst v) w → Q (.panic c) a w) (hy : YieldsIf P ops S oi v a) (hS : S w) (h : anyP P md ops Q S kill k (l.setIfInBounds i true) (a.put oi.dst v) w) : anyP P md ops Q S kill (k + 1) l a w :=
  anyP_first (T := S) (f := 30) hi (Region.noSelect_spec hs) hQ (.inr ⟨rfl, hk⟩) k l a w (Region.free_spec hi hf) (closed_of hc) (by simpa using hr) hy hS h
/-- It reads nothing. -/
theorem anyP_pure {i : Nat} {oi : Oper} {v : Value} {k : Nat} {l : Array Bool} {a : Act} {w : World} (hi : ops[i]? = some oi) (hs : Region.noSelect ops = true) (hf : Region.free md ops l i = true) (hr : (Region.ready md ops l).contains i = true) (hc : closedB md ops l = true)
    (hQ : ∀ c a w, Q (.panic c) (a.put oi.dst v) w → Q (.panic c) a w) (hy : YieldsIf P ops (fun _ => True) oi v a) (h : anyP P md ops Q S kill k (l.setIfInBounds i true) (a.put oi.dst v) w) : anyP P md ops Q S kill (k + 1) l a w :=
  anyP_first (T := fun _ => True) (f := 30) hi (Region.noSelect_spec hs) hQ (.inl fun _ => trivial) k l a w (Region.free_spec hi hf) (closed_of hc) (by simpa using hr) hy trivial h
def AllP (P : Program) (md : Region.Mode) (ops : Array Oper) (Q : Exit → Act → World → Prop) (S : World → Prop) (kill : List Nat) (k : Nat) (l : Array Bool) (a : Act) (w : World) (rs : List Nat) : Prop :=
  ∀ i ∈ rs, wpOp P ops Q i (fun a' w' => (i ∉ kill → S w → S w') ∧ anyP P md ops Q S kill k (l.setIfInBounds i true) a' w') a w
theorem AllP.nil {k : Nat} {l : Array Bool} {a : Act} {w : World} : AllP P md ops Q S kill k l a w [] := fun _ h => by cases h
theorem AllP.cons {k : Nat} {l : Array Bool} {a : Act} {w : World} {i : Nat} {o : Oper} {rs : List Nat} (ho : ops[i]? = some o)
    (h : ∀ K' : Act → World → Prop, Shut (∀ a w', (i ∉ kill → S w → S w') → anyP P md ops Q S kill k (l.setIfInBounds i true) a w' → K' a w') → if Region.wanted o (yielded ops a.tmps) = true then Oper.wp P o a w K' Q else K' (a.put o.dst undef) w)
    (hs : AllP P md ops Q S kill k l a w rs) : AllP P md ops Q S kill k l a w (i :: rs) := fun j hj => by
  rcases List.mem_cons.1 hj with rfl | hj
  · exact wpOp_step ho (fun K' hK => h K' (fun a w hS hW => hK a w ⟨hS, hW⟩))
  · exact hs j hj
theorem anyP_ready {rs : List Nat} {k : Nat} {l : Array Bool} {a : Act} {w : World} (hr : Region.ready md ops l = rs) (hne : rs ≠ []) (h : AllP P md ops Q S kill k l a w rs) : anyP P md ops Q S kill (k + 1) l a w :=
  ⟨fun h0 => absurd (hr ▸ h0) hne, hr ▸ h⟩
theorem anyP_done {l : Array Bool} {a : Act} {w : World} (hr : Region.ready md ops l = []) (h : Q .normal a w) : ∀ k, anyP P md ops Q S kill k l a w
  | 0 => ⟨hr, h⟩
  | _ + 1 => ⟨fun _ => h, by rw [hr]; simp⟩
theorem region_P {id : Nat} {a : Act} {w : World} (S : World → Prop) (kill : List Nat) (hm : P.follows .mixedOrders = true) (hS : S w.drew) (h : S w.drew → anyP P .any ops Q S kill ops.size (Array.replicate ops.size false) a w.drew) : (Code.region id ops true).wp P Q a w :=
  wp_region_any hm (anyP_sound _ _ _ _ (h hS))
end
end Go.Proofs.Ytnjalnnbdmmcmaa
