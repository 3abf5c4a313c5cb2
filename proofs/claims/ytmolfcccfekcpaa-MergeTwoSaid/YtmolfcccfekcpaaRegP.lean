/- A region that draws its order, in a round of a range over a function: cells that are read may turn behind what waits for the reads. No Go text in sight. -/
import Derived.Test.YtmolfcccfekcpaaCel9
namespace Go.Proofs.Ytmolfcccfekcpaa
open Go.RowKit
section
variable {F : Fence} {n : Nat} {P : Program} {ops : Array Oper} {Q : Exit → Act → World → Prop} {md : Region.Mode} {S : World → Prop} {kill : List Nat}
/-- j waits, at last, for i. -/
def waits (md : Region.Mode) (ops : Array Oper) (i : Nat) : Nat → Nat → Bool
  | 0, _ => false
  | f + 1, j => match ops[j]? with
    | none => false
    | some o => o.after.any fun e => Region.binds md e && (e.on == i || waits md ops i f e.on)
/-- What is listed has all listed that it waits for. -/
def Closed (md : Region.Mode) (ops : Array Oper) (l : Array Bool) : Prop := ∀ (j : Nat) (o : Oper), ops[j]? = some o → l.getD j false = true → ∀ e ∈ o.after, Region.binds md e = true → l.getD e.on false = true
def closedB (md : Region.Mode) (ops : Array Oper) (l : Array Bool) : Bool := (List.range ops.size).all fun j => !(l.getD j false) || (match ops[j]? with | none => true | some o => o.after.all fun e => !(Region.binds md e) || l.getD e.on false)
theorem closed_of {l : Array Bool} (h : closedB md ops l = true) : Closed md ops l := by
  intro j o ho hl e he hb
  unfold closedB at h
  rw [List.all_eq_true] at h
  have h1 := h j (List.mem_range.2 (Array.getElem?_eq_some_iff.1 ho).1)
  simp only [ho, hl, Bool.not_true, Bool.false_or] at h1
  rw [Array.all_eq_true_iff_forall_mem] at h1
  have h2 := h1 e he
  rw [hb] at h2
  simpa using h2
theorem getD_set_eq {l : Array Bool} {i : Nat} (h : l.getD i false = true ∨ i < l.size) : (l.setIfInBounds i true).getD i false = true := by
  rcases Nat.lt_or_ge i l.size with hl | hl
  · simp [hl]
  · rcases h with h | h
    · rw [Array.getD_eq_getD_getElem?, Array.getElem?_eq_none hl] at h; cases h
    · omega
theorem Closed.step {l : Array Bool} {i : Nat} (h : Closed md ops l) (hr : i ∈ Region.ready md ops l) : Closed md ops (l.setIfInBounds i true) := by
  intro j o ho hl e he hb
  obtain ⟨-, oi, hoi, hall⟩ := mem_ready.1 hr
  have up : l.getD e.on false = true → (l.setIfInBounds i true).getD e.on false = true := fun g => by
    by_cases hei : i = e.on
    · rw [← hei] at g ⊢; exact getD_set_eq (.inl g)
    · rw [getD_set_ne false hei]; exact g
  by_cases hji : i = j
  · subst hji
    rw [ho] at hoi
    injection hoi with hoi
    subst hoi
    exact up (hall e he hb)
  · rw [getD_set_ne false hji] at hl
    exact up (h j o ho hl e he hb)
theorem waits_not {l : Array Bool} {i : Nat} (hc : Closed md ops l) (hi : l.getD i false = false) : ∀ (f j : Nat), waits md ops i f j = true → l.getD j false = false ∧ j ∉ Region.ready md ops l
  | 0, _, h => by cases h
  | f + 1, j, h => by
    unfold waits at h
    cases ho : ops[j]? with
    | none => rw [ho] at h; cases h
    | some o =>
      rw [ho] at h
      simp only [Array.any_eq_true'] at h
      obtain ⟨e, he, h⟩ := h
      rw [Bool.and_eq_true, Bool.or_eq_true] at h
      obtain ⟨hb, h⟩ := h
      have hun : l.getD e.on false = false := by
        rcases h with h | h
        · rw [beq_iff_eq] at h; rw [h]; exact hi
        · exact (waits_not hc hi f e.on h).1
      refine ⟨?_, fun hr => ?_⟩
      · cases hj : l.getD j false with
        | false => rfl
        | true => have := hc j o ho hj e he hb; rw [hun] at this; cases this
      · obtain ⟨-, o', ho', hall⟩ := mem_ready.1 hr
        rw [ho] at ho'
        injection ho' with ho'
        subst ho'
        have := hall e he hb
        rw [hun] at this
        cases this
/-- Whatever order is picked; S holds behind each operation but those in 'kill'. -/
def anyN (F : Fence) (n : Nat) (P : Program) (md : Region.Mode) (ops : Array Oper) (Q : Exit → Act → World → Prop) (S : World → Prop) (kill : List Nat) : Nat → Array Bool → Act → World → Prop
  | 0, l, a, w => Region.ready md ops l = [] ∧ Q .normal a w
  | k + 1, l, a, w => (Region.ready md ops l = [] → Q .normal a w) ∧ ∀ i ∈ Region.ready md ops l, wpOpIn F n P ops Q i (fun a' w' => (i ∉ kill → S w') ∧ anyN F n P md ops Q S kill k (l.setIfInBounds i true) a' w') a w
theorem anyN_sound : ∀ (k : Nat) (l : Array Bool) (a : Act) (w : World), anyN F n P md ops Q S kill k l a w → wpAnyIn F n P md ops Q k l a w
  | 0, _, _, _, h => h
  | k + 1, _, _, _, h => ⟨h.1, fun i hi => wpOpIn_mono (fun a' w' h' => anyN_sound k _ a' w' h'.2) (h.2 i hi)⟩
theorem anyN_first {T : World → Prop} {i f : Nat} {oi : Oper} {v : Value} (hd : NoDefer ops) (hi : ops[i]? = some oi) (hsel : ∀ (j : Nat) (o : Oper) cs b, ops[j]? = some o → o.op ≠ .select cs b) (hQ : ∀ c a w, Q (.panic c) (a.put oi.dst v) w → Q (.panic c) a w)
    (hT : ((∀ w, T w) ∧ i ∈ kill) ∨ (T = S ∧ kill.all (fun j => waits md ops i f j) = true)) :
    ∀ (k : Nat) (l : Array Bool) (a : Act) (w : World), (∀ j oj, ops[j]? = some oj → j ≠ i → l.getD j true = false → (∀ e ∈ oj.after, Region.binds md e = true → e.on ≠ i) → oi.apart ops oj = true) → Closed md ops l →
      i ∈ Region.ready md ops l → YS P ops T oi v a → T w → anyN F n P md ops Q S kill k (l.setIfInBounds i true) (a.put oi.dst v) w → anyN F n P md ops Q S kill (k + 1) l a w := by
  have hself : ∀ w, T w → i ∉ kill → S w := fun w h hk => by
    rcases hT with ⟨_, h2⟩ | ⟨rfl, _⟩
    · exact absurd h2 hk
    · exact h
  intro k
  induction k with
  | zero =>
    intro l a w _ _ hr hy hS H
    refine ⟨fun h => absurd hr (by rw [h]; simp), fun j hj => ?_⟩
    by_cases hji : j = i
    · subst hji
      exact hy.op hd hi hS ⟨hself _ hS, H⟩
    · exact absurd (ready_mono hj hji) (by rw [H.1]; simp)
  | succ k ih =>
    intro l a w hf hcl hr hy hS H
    refine ⟨fun h => absurd hr (by rw [h]; simp), fun j hj => ?_⟩
    by_cases hji : j = i
    · subst hji
      exact hy.op hd hi hS ⟨hself _ hS, H⟩
    · obtain ⟨hun, oj, hoj, hal⟩ := mem_ready.1 hj
      have hi0 : l.getD i false = false := by
        have g0 := (mem_ready.1 hr).1
        by_cases hl : i < l.size
        · simp [hl] at g0 ⊢; exact g0
        · simp [Array.getElem?_eq_none (Nat.le_of_not_lt hl)] at g0
      have hno : ∀ e ∈ oj.after, Region.binds md e = true → e.on ≠ i := fun e he hb heq => by
        have g1 := hal e he hb
        rw [heq, hi0] at g1
        cases g1
      have hTw : ∀ w', (j ∉ kill → S w') → T w' := fun w' h => by
        rcases hT with ⟨h1, _⟩ | ⟨rfl, h2⟩
        · exact h1 w'
        · refine h fun hk => ?_
          exact (waits_not hcl hi0 f j (List.all_eq_true.1 h2 j hk)).2 hj
      have h2 := op_past hd hoj (hf j oj hoj hji hun hno) (fun cs b => hsel i oi cs b hi) (fun cs b => hsel j oj cs b hoj) hQ hy (H.2 j (ready_mono hj hji))
      refine wpOpIn_mono (fun a' w' h3 => ⟨h3.2.1, ih (l.setIfInBounds j true) a' w' (fun m om hm hmi hmu hmn => hf m om hm hmi ?_ hmn) (hcl.step hj) (ready_mono hr (Ne.symm hji)) h3.1 (hTw _ h3.2.1) ?_⟩) h2
      · by_cases hjm : j = m
        · subst hjm; exact hun
        · rwa [getD_set_ne true hjm] at hmu
      · rw [Array.setIfInBounds_comm _ _ hji]
        exact h3.2.2
/-- It reads under S, and all that may break S waits for it. -/
theorem anyN_take {i : Nat} {oi : Oper} {v : Value} {k : Nat} {l : Array Bool} {a : Act} {w : World} (hd : noDeferB ops = true) (hi : ops[i]? = some oi) (hs : Region.noSelect ops = true) (hf : Region.free md ops l i = true) (hr : (Region.ready md ops l).contains i = true) (hc : closedB md ops l = true)
    (hk : kill.all (fun j => waits md ops i 30 j) = true)
    (hQ : ∀ c a w, Q (.panic c) (a.put oi.dst v) w → Q (.panic c) a w) (hab : ∀ w, oi.about P w a.eval = none) (hy : YieldsIf P ops S oi v a) (hS : S w) (h : anyN F n P md ops Q S kill k (l.setIfInBounds i true) (a.put oi.dst v) w) : anyN F n P md ops Q S kill (k + 1) l a w :=
  anyN_first (T := S) (f := 30) (noDefer_of hd) hi (Region.noSelect_spec hs) hQ (.inr ⟨rfl, hk⟩) k l a w (Region.free_spec hi hf) (closed_of hc) (by simpa using hr) ⟨hy, hab⟩ hS h
/-- It reads nothing, and comes where S may be broken. -/
theorem anyN_late {i : Nat} {oi : Oper} {v : Value} {k : Nat} {l : Array Bool} {a : Act} {w : World} (hd : noDeferB ops = true) (hi : ops[i]? = some oi) (hs : Region.noSelect ops = true) (hf : Region.free md ops l i = true) (hr : (Region.ready md ops l).contains i = true) (hc : closedB md ops l = true)
    (hk : i ∈ kill)
    (hQ : ∀ c a w, Q (.panic c) (a.put oi.dst v) w → Q (.panic c) a w) (hab : ∀ w, oi.about P w a.eval = none) (hy : YieldsIf P ops (fun _ => True) oi v a) (h : anyN F n P md ops Q S kill k (l.setIfInBounds i true) (a.put oi.dst v) w) : anyN F n P md ops Q S kill (k + 1) l a w :=
  anyN_first (T := fun _ => True) (f := 30) (noDefer_of hd) hi (Region.noSelect_spec hs) hQ (.inl ⟨fun _ => trivial, hk⟩) k l a w (Region.free_spec hi hf) (closed_of hc) (by simpa using hr) ⟨hy, hab⟩ trivial h
def AllN (F : Fence) (n : Nat) (P : Program) (md : Region.Mode) (ops : Array Oper) (Q : Exit → Act → World → Prop) (S : World → Prop) (kill : List Nat) (k : Nat) (l : Array Bool) (a : Act) (w : World) (rs : List Nat) : Prop :=
  ∀ i ∈ rs, wpOpIn F n P ops Q i (fun a' w' => (i ∉ kill → S w') ∧ anyN F n P md ops Q S kill k (l.setIfInBounds i true) a' w') a w
theorem AllN.nil {k : Nat} {l : Array Bool} {a : Act} {w : World} : AllN F n P md ops Q S kill k l a w [] := fun _ h => by cases h
theorem AllN.cons {k : Nat} {l : Array Bool} {a : Act} {w : World} {i : Nat} {o : Oper} {rs : List Nat} (hd : noDeferB ops = true) (ho : ops[i]? = some o) (hw : Region.wanted o (yielded ops a.tmps) = true)
    (h : ∀ K' : Act → World → Prop, Shut (∀ a w, (i ∉ kill → S w) → anyN F n P md ops Q S kill k (l.setIfInBounds i true) a w → K' a w) → (∀ f, o.about P w a.eval = some f → F.fn f) ∧ o.uponIn F n P a K' Q ((execOp a.eval o).run P w)) (hs : AllN F n P md ops Q S kill k l a w rs) : AllN F n P md ops Q S kill k l a w (i :: rs) := fun j hj => by
  rcases List.mem_cons.1 hj with rfl | hj
  · refine wpOpIn_step ho fun K' hK => ?_
    rw [if_pos hw]
    unfold Oper.wpIn
    rw [Oper.semAt_eq _ _ _ (noDefer_of hd _ o ho)]
    exact h K' (fun a w hS hW => hK a w ⟨hS, hW⟩)
  · exact hs j hj
theorem AllN.skip {k : Nat} {l : Array Bool} {a : Act} {w : World} {i : Nat} {o : Oper} {rs : List Nat} (ho : ops[i]? = some o) (hw : Region.wanted o (yielded ops a.tmps) = false) (hF : ∀ f, F.fn f) (hS : i ∉ kill → S w)
    (h : anyN F n P md ops Q S kill k (l.setIfInBounds i true) (a.put o.dst undef) w) (hs : AllN F n P md ops Q S kill k l a w rs) : AllN F n P md ops Q S kill k l a w (i :: rs) := fun j hj => by
  rcases List.mem_cons.1 hj with rfl | hj
  · unfold wpOpIn
    simp only [ho, hw, Bool.false_eq_true, if_false]
    exact ⟨fun f _ => hF f, hS, h⟩
  · exact hs j hj
theorem anyN_ready {rs : List Nat} {k : Nat} {l : Array Bool} {a : Act} {w : World} (hr : Region.ready md ops l = rs) (hne : rs ≠ []) (h : AllN F n P md ops Q S kill k l a w rs) : anyN F n P md ops Q S kill (k + 1) l a w :=
  ⟨fun h0 => absurd (hr ▸ h0) hne, hr ▸ h⟩
theorem anyN_done {l : Array Bool} {a : Act} {w : World} (hr : Region.ready md ops l = []) (h : Q .normal a w) : ∀ k, anyN F n P md ops Q S kill k l a w
  | 0 => ⟨hr, h⟩
  | _ + 1 => ⟨fun _ => h, by rw [hr]; simp⟩
theorem region_N {id : Nat} {a : Act} {w : World} (S : World → Prop) (kill : List Nat) (hm : P.follows .mixedOrders = true) (hS : S w.drew) (h : S w.drew → anyN F n P .any ops Q S kill ops.size (Array.replicate ops.size false) a w.drew) : (Code.region id ops true).wpIn F n P Q a w :=
  wpIn_region_any hm (anyN_sound _ _ _ _ (h hS))
end
end Go.Proofs.Ytmolfcccfekcpaa
/- A region that draws its order: cells that are read may turn behind what waits for the reads. No Go text in sight. -/
namespace Go.Proofs.Ytmolfcccfekcpaa
open Go.RowKit
section
variable {P : Program} {ops : Array Oper} {Q : Exit → Act → World → Prop} {md : Region.Mode} {S : World → Prop} {kill : List Nat}
/-- Whatever order is picked; each operation but those in 'kill' keeps S. -/
def anyP (P : Program) (md : Region.Mode) (ops : Array Oper) (Q : Exit → Act → World → Prop) (S : World → Prop) (kill : List Nat) : Nat → Array Bool → Act → World → Prop
  | 0, l, a, w => Region.ready md ops l = [] ∧ Q .normal a w
  | k + 1, l, a, w => (Region.ready md ops l = [] → Q .normal a w) ∧ ∀ i ∈ Region.ready md ops l, wpOp P ops Q i (fun a' w' => (i ∉ kill → S w → S w') ∧ anyP P md ops Q S kill k (l.setIfInBounds i true) a' w') a w
theorem anyP_sound : ∀ (k : Nat) (l : Array Bool) (a : Act) (w : World), anyP P md ops Q S kill k l a w → wpAny P md ops Q k l a w
  | 0, _, _, _, h => h
  | k + 1, _, _, _, h => ⟨h.1, fun i hi => wpOp_mono (fun a' w' h' => anyP_sound k _ a' w' h'.2) (h.2 i hi)⟩
theorem anyP_first {T : World → Prop} {i f : Nat} {oi : Oper} {v : Value} (hi : ops[i]? = some oi) (hsel : ∀ (j : Nat) (o : Oper) cs b, ops[j]? = some o → o.op ≠ .select cs b) (hQ : ∀ c a w, Q (.panic c) (a.put oi.dst v) w → Q (.panic c) a w)
    (hT : (∀ w, T w) ∨ (T = S ∧ kill.all (fun j => waits md ops i f j) = true)) :
    ∀ (k : Nat) (l : Array Bool) (a : Act) (w : World), (∀ j oj, ops[j]? = some oj → j ≠ i → l.getD j true = false → (∀ e ∈ oj.after, Region.binds md e = true → e.on ≠ i) → oi.apart ops oj = true) → Closed md ops l →
      i ∈ Region.ready md ops l → YieldsIf P ops T oi v a → T w → anyP P md ops Q S kill k (l.setIfInBounds i true) (a.put oi.dst v) w → anyP P md ops Q S kill (k + 1) l a w := by
  intro k
  induction k with
  | zero =>
    intro l a w _ _ hr hy hS H
    refine ⟨fun h => absurd hr (by rw [h]; simp), fun j hj => ?_⟩
    by_cases hji : j = i
    · subst hji
      exact hy.wpOp hi hS ⟨fun _ h => h, H⟩
    · exact absurd (ready_mono hj hji) (by rw [H.1]; simp)
  | succ k ih =>
    intro l a w hf hcl hr hy hS H
    refine ⟨fun h => absurd hr (by rw [h]; simp), fun j hj => ?_⟩
    by_cases hji : j = i
    · subst hji
      exact hy.wpOp hi hS ⟨fun _ h => h, H⟩
    · obtain ⟨hun, oj, hoj, hal⟩ := mem_ready.1 hj
      have hi0 : l.getD i false = false := by
        have g0 := (mem_ready.1 hr).1
        by_cases hl : i < l.size
        · simp [hl] at g0 ⊢; exact g0
        · simp [Array.getElem?_eq_none (Nat.le_of_not_lt hl)] at g0
      have hno : ∀ e ∈ oj.after, Region.binds md e = true → e.on ≠ i := fun e he hb heq => by
        have g1 := hal e he hb
        rw [heq, hi0] at g1
        cases g1
      have hTw : ∀ w', (j ∉ kill → S w → S w') → T w' := fun w' h => by
        rcases hT with h1 | ⟨rfl, h2⟩
        · exact h1 w'
        · refine h (fun hk => ?_) hS
          exact (waits_not hcl hi0 f j (List.all_eq_true.1 h2 j hk)).2 hj
      have h2 := wpOp_putIf hoj (hf j oj hoj hji hun hno) (fun cs b => hsel i oi cs b hi) (fun cs b => hsel j oj cs b hoj) hQ hy (H.2 j (ready_mono hj hji))
      refine wpOp_mono (fun a' w' h3 => ⟨h3.2.1, ih (l.setIfInBounds j true) a' w' (fun m om hm hmi hmu hmn => hf m om hm hmi ?_ hmn) (hcl.step hj) (ready_mono hr (Ne.symm hji)) h3.1 (hTw _ h3.2.1) ?_⟩) h2
      · by_cases hjm : j = m
        · subst hjm; exact hun
        · rwa [getD_set_ne true hjm] at hmu
      · rw [Array.setIfInBounds_comm _ _ hji]
        exact h3.2.2
theorem anyP_take {i : Nat} {oi : Oper} {v : Value} {k : Nat} {l : Array Bool} {a : Act} {w : World} (hi : ops[i]? = some oi) (hs : Region.noSelect ops = true) (hf : Region.free md ops l i = true) (hr : (Region.ready md ops l).contains i = true) (hc : closedB md ops l = true)
    (hk : kill.all (fun j => waits md ops i 30 j) = true)
    (hQ : ∀ c a w, Q (.panic c) (a.put oi.dst v) w → Q (.panic c) a w) (hy : YieldsIf P ops S oi v a) (hS : S w) (h : anyP P md ops Q S kill k (l.setIfInBounds i true) (a.put oi.dst v) w) : anyP P md ops Q S kill (k + 1) l a w :=
  anyP_first (T := S) (f := 30) hi (Region.noSelect_spec hs) hQ (.inr ⟨rfl, hk⟩) k l a w (Region.free_spec hi hf) (closed_of hc) (by simpa using hr) hy hS h
/-- It reads nothing. -/
theorem anyP_pure {i : Nat} {oi : Oper} {v : Value} {k : Nat} {l : Array Bool} {a : Act} {w : World} (hi : ops[i]? = some oi) (hs : Region.noSelect ops = true) (hf : Region.free md ops l i = true) (hr : (Region.ready md ops l).contains i = true) (hc : closedB md ops l = true)
    (hQ : ∀ c a w, Q (.panic c) (a.put oi.dst v) w → Q (.panic c) a w) (hy : YieldsIf P ops (fun _ => True) oi v a) (h : anyP P md ops Q S kill k (l.setIfInBounds i true) (a.put oi.dst v) w) : anyP P md ops Q S kill (k + 1) l a w :=
  anyP_first (T := fun _ => True) (f := 30) hi (Region.noSelect_spec hs) hQ (.inl fun _ => trivial) k l a w (Region.free_spec hi hf) (closed_of hc) (by simpa using hr) hy trivial h
def AllP (P : Program) (md : Region.Mode) (ops : Array Oper) (Q : Exit → Act → World → Prop) (S : World → Prop) (kill : List Nat) (k : Nat) (l : Array Bool) (a : Act) (w : World) (rs : List Nat) : Prop :=
  ∀ i ∈ rs, wpOp P ops Q i (fun a' w' => (i ∉ kill → S w → S w') ∧ anyP P md ops Q S kill k (l.setIfInBounds i true) a' w') a w
theorem AllP.nil {k : Nat} {l : Array Bool} {a : Act} {w : World} : AllP P md ops Q S kill k l a w [] := fun _ h => by cases h
theorem AllP.cons {k : Nat} {l : Array Bool} {a : Act} {w : World} {i : Nat} {o : Oper} {rs : List Nat} (ho : ops[i]? = some o)
    (h : ∀ K' : Act → World → Prop, Shut (∀ a w', (i ∉ kill → S w → S w') → anyP P md ops Q S kill k (l.setIfInBounds i true) a w' → K' a w') → if Region.wanted o (yielded ops a.tmps) = true then Oper.wp P o a w K' Q else K' (a.put o.dst undef) w)
    (hs : AllP P md ops Q S kill k l a w rs) : AllP P md ops Q S kill k l a w (i :: rs) := fun j hj => by
  rcases List.mem_cons.1 hj with rfl | hj
  · exact wpOp_step ho (fun K' hK => h K' (fun a w hS hW => hK a w ⟨hS, hW⟩))
  · exact hs j hj
theorem anyP_ready {rs : List Nat} {k : Nat} {l : Array Bool} {a : Act} {w : World} (hr : Region.ready md ops l = rs) (hne : rs ≠ []) (h : AllP P md ops Q S kill k l a w rs) : anyP P md ops Q S kill (k + 1) l a w :=
  ⟨fun h0 => absurd (hr ▸ h0) hne, hr ▸ h⟩
theorem anyP_done {l : Array Bool} {a : Act} {w : World} (hr : Region.ready md ops l = []) (h : Q .normal a w) : ∀ k, anyP P md ops Q S kill k l a w
  | 0 => ⟨hr, h⟩
  | _ + 1 => ⟨fun _ => h, by rw [hr]; simp⟩
theorem region_P {id : Nat} {a : Act} {w : World} (S : World → Prop) (kill : List Nat) (hm : P.follows .mixedOrders = true) (hS : S w.drew) (h : S w.drew → anyP P .any ops Q S kill ops.size (Array.replicate ops.size false) a w.drew) : (Code.region id ops true).wp P Q a w :=
  wp_region_any hm (anyP_sound _ _ _ _ (h hS))
end
end Go.Proofs.Ytmolfcccfekcpaa
