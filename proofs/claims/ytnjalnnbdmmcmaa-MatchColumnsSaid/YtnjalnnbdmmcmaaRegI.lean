/- A region that draws its order, in a round of a range over a function: what reads cells that stay may be taken first. No Go text in sight. -/
import Derived.OrdersIn
import Derived.OrdersHeld
import Derived.Deep.RegionHeld
import Derived.Test.YtnjalnnbdmmcmaaBase2
namespace Go.Proofs.Ytnjalnnbdmmcmaa
open Go.RowKit
section
variable {F : Fence} {n : Nat} {P : Program} {ops : Array Oper} {Q : Exit → Act → World → Prop} {md : Region.Mode} {S : World → Prop}
def NoDefer (ops : Array Oper) : Prop := ∀ (j : Nat) (o : Oper), ops[j]? = some o → ∀ c, o.op ≠ .defer c
def noDeferB (ops : Array Oper) : Bool := ops.all fun o => match o.op with | .defer _ => false | _ => true
theorem noDefer_of (h : noDeferB ops = true) : NoDefer ops := fun j o hj c e => by
  unfold noDeferB at h
  rw [Array.all_eq_true] at h
  obtain ⟨hl, rfl⟩ := Array.getElem?_eq_some_iff.1 hj
  have := h j hl
  rw [e] at this
  cases this
/-- In every world of S it yields v, and calls nothing. -/
def YS (P : Program) (ops : Array Oper) (S : World → Prop) (o : Oper) (v : Value) (a : Act) : Prop := YieldsIf P ops S o v a ∧ ∀ w, o.about P w a.eval = none
/-- Whatever order is picked; S holds behind each operation. -/
def anyI (F : Fence) (n : Nat) (P : Program) (md : Region.Mode) (ops : Array Oper) (Q : Exit → Act → World → Prop) (S : World → Prop) : Nat → Array Bool → Act → World → Prop
  | 0, l, a, w => Region.ready md ops l = [] ∧ Q .normal a w
  | k + 1, l, a, w => (Region.ready md ops l = [] → Q .normal a w) ∧ ∀ i ∈ Region.ready md ops l, wpOpIn F n P ops Q i (fun a' w' => S w' ∧ anyI F n P md ops Q S k (l.setIfInBounds i true) a' w') a w
theorem anyI_sound : ∀ (k : Nat) (l : Array Bool) (a : Act) (w : World), anyI F n P md ops Q S k l a w → wpAnyIn F n P md ops Q k l a w
  | 0, _, _, _, h => h
  | k + 1, _, _, _, h => ⟨h.1, fun i hi => wpOpIn_mono (fun a' w' h' => anyI_sound k _ a' w' h'.2) (h.2 i hi)⟩
theorem YS.op {i : Nat} {o : Oper} {v : Value} {a : Act} {w : World} {K : Act → World → Prop} (hd : NoDefer ops) (hi : ops[i]? = some o) (hy : YS P ops S o v a) (hS : S w) (h : K (a.put o.dst v) w) : wpOpIn F n P ops Q i K a w := by
  unfold wpOpIn
  have hab : ∀ f, o.about P w a.eval = some f → F.fn f := fun f hf => by rw [hy.2 w] at hf; cases hf
  simp only [hi]
  rcases hy.1 with ⟨h1, h2⟩ | ⟨h1, h2⟩
  · simp only [h1, if_true, Oper.wpIn, Oper.semAt_eq F.round a.eval o (hd i o hi), h2 w hS, Oper.uponIn]
    exact ⟨hab, h⟩
  · subst h2
    simp only [h1, Bool.false_eq_true, if_false]
    exact ⟨hab, h⟩
theorem YS.move {o : Oper} {v : Value} {a a' : Act} (hy : YS P ops S o v a) (he : execOp a'.eval o = execOp a.eval o) (hw : Region.wanted o (yielded ops a'.tmps) = Region.wanted o (yielded ops a.tmps)) (hb : ∀ w, o.about P w a'.eval = o.about P w a.eval) : YS P ops S o v a' :=
  ⟨hy.1.of_same he hw, fun w => (hb w).trans (hy.2 w)⟩
theorem op_past {j : Nat} {oi oj : Oper} {v : Value} {K : Act → World → Prop} {a : Act} {w : World} (hd : NoDefer ops) (hj : ops[j]? = some oj) (hap : oi.apart ops oj = true) (hsi : ∀ cs b, oi.op ≠ .select cs b) (hsj : ∀ cs b, oj.op ≠ .select cs b)
    (hQ : ∀ c a w, Q (.panic c) (a.put oi.dst v) w → Q (.panic c) a w) (hy : YS P ops S oi v a) (h : wpOpIn F n P ops Q j K (a.put oi.dst v) w) :
    wpOpIn F n P ops Q j (fun a' w' => YS P ops S oi v a' ∧ K (a'.put oi.dst v) w') a w := by
  obtain ⟨p1, p2, p3⟩ := Oper.apart_spec hap
  have stay : ∀ (b : Act), YS P ops S oi v b → ∀ u, YS P ops S oi v (b.put oj.dst u) := fun b hb u => hb.move (execOp_put oi hsi b oj.dst u p3) (wanted_put oi b oj.dst u p3) fun w => about_put oi w b oj.dst u p3
  have nd := hd j oj hj
  unfold wpOpIn at h ⊢
  simp only [hj] at h ⊢
  rw [wanted_put oj a oi.dst v p1, about_put oj w a oi.dst v p1] at h
  by_cases hw : Region.wanted oj (yielded ops a.tmps) = true
  · rw [if_pos hw] at h ⊢
    unfold Oper.wpIn at h ⊢
    rw [about_put oj w a oi.dst v p1, Oper.semAt_eq _ _ _ nd, execOp_put oj hsj a oi.dst v p1] at h
    rw [Oper.semAt_eq _ _ _ nd]
    refine ⟨h.1, ?_⟩
    have h' := h.2
    clear h
    revert h'
    generalize (execOp a.eval oj).run P w = r
    intro h'
    have ret : ∀ (u : Value) (w2 : World), K ((a.put oi.dst v).put oj.dst u) w2 → YS P ops S oi v (a.put oj.dst u) ∧ K ((a.put oj.dst u).put oi.dst v) w2 := fun u w2 hk => ⟨stay a hy u, by rw [← Act.put_comm a v u p2]; exact hk⟩
    match r, h' with
    | .ok (.value u) w2, h' => exact ret u w2 h'
    | .ok .skip w2, h' => exact ret undef w2 h'
    | .ok (.defer d) w2, h' =>
      refine ⟨(hy.move (a' := { a with defers := d :: a.defers }) rfl rfl fun _ => rfl) |> fun y => stay _ y undef, ?_⟩
      rw [← Act.put_comm _ v undef p2, ← Act.put_defers]
      exact h'
    | .ok (.enter f args) w2, h' =>
      refine ⟨h'.1, CallsIn.mono h'.2 fun e w3 he => ?_⟩
      match e, he with
      | .returned u, he => exact ret u w3 he
      | .panicked c, he => exact hQ _ _ _ he
      | .outgrown, he => exact he
    | .ok (.row row args) w2, h' => exact ⟨h'.1, RowsIn.mono h'.2 fun u w3 he => ret u w3 he⟩
    | .ok (.round l f tmps assign body) w2, h' =>
      refine ⟨h'.1, RoundIn.mono h'.2 fun e w3 he => ?_⟩
      match e, he with
      | .returned u, he => exact ret u w3 he
      | .panicked c, he => exact hQ _ _ _ he
      | .outgrown, he => exact he
    | .halt (.panic u) w2, h' => exact hQ _ _ _ h'
  · rw [if_neg hw] at h ⊢
    exact ⟨h.1, stay a hy undef, by rw [← Act.put_comm a v undef p2]; exact h.2⟩
theorem anyI_first {i : Nat} {oi : Oper} {v : Value} (hd : NoDefer ops) (hi : ops[i]? = some oi) (hsel : ∀ (j : Nat) (o : Oper) cs b, ops[j]? = some o → o.op ≠ .select cs b) (hQ : ∀ c a w, Q (.panic c) (a.put oi.dst v) w → Q (.panic c) a w) :
    ∀ (k : Nat) (l : Array Bool) (a : Act) (w : World), (∀ j oj, ops[j]? = some oj → j ≠ i → l.getD j true = false → (∀ e ∈ oj.after, Region.binds md e = true → e.on ≠ i) → oi.apart ops oj = true) →
      i ∈ Region.ready md ops l → YS P ops S oi v a → S w → anyI F n P md ops Q S k (l.setIfInBounds i true) (a.put oi.dst v) w → anyI F n P md ops Q S (k + 1) l a w := by
  intro k
  induction k with
  | zero =>
    intro l a w _ hr hy hS H
    refine ⟨fun h => absurd hr (by rw [h]; simp), fun j hj => ?_⟩
    by_cases hji : j = i
    · subst hji
      exact hy.op hd hi hS ⟨hS, H⟩
    · exact absurd (ready_mono hj hji) (by rw [H.1]; simp)
  | succ k ih =>
    intro l a w hf hr hy hS H
    refine ⟨fun h => absurd hr (by rw [h]; simp), fun j hj => ?_⟩
    by_cases hji : j = i
    · subst hji
      exact hy.op hd hi hS ⟨hS, H⟩
    · obtain ⟨hun, oj, hoj, hal⟩ := mem_ready.1 hj
      have hno : ∀ e ∈ oj.after, Region.binds md e = true → e.on ≠ i := fun e he hb heq => by
        have g1 := hal e he hb
        have g0 := (mem_ready.1 hr).1
        rw [heq] at g1
        by_cases hl : i < l.size
        · simp [hl] at g0 g1; rw [g0] at g1; cases g1
        · simp [Array.getElem?_eq_none (Nat.le_of_not_lt hl)] at g1
      have h2 := op_past hd hoj (hf j oj hoj hji hun hno) (fun cs b => hsel i oi cs b hi) (fun cs b => hsel j oj cs b hoj) hQ hy (H.2 j (ready_mono hj hji))
      refine wpOpIn_mono (fun a' w' h3 => ⟨h3.2.1, ih (l.setIfInBounds j true) a' w' (fun m om hm hmi hmu hmn => hf m om hm hmi ?_ hmn) (ready_mono hr (Ne.symm hji)) h3.1 h3.2.1 ?_⟩) h2
      · by_cases hjm : j = m
        · subst hjm; exact hun
        · rwa [getD_set_ne true hjm] at hmu
      · rw [Array.setIfInBounds_comm _ _ hji]
        exact h3.2.2
theorem anyI_take {i : Nat} {oi : Oper} {v : Value} {k : Nat} {l : Array Bool} {a : Act} {w : World} (hd : noDeferB ops = true) (hi : ops[i]? = some oi) (hs : Region.noSelect ops = true) (hf : Region.free md ops l i = true) (hr : (Region.ready md ops l).contains i = true)
    (hQ : ∀ c a w, Q (.panic c) (a.put oi.dst v) w → Q (.panic c) a w) (hab : ∀ w, oi.about P w a.eval = none) (hy : YieldsIf P ops S oi v a) (hS : S w) (h : anyI F n P md ops Q S k (l.setIfInBounds i true) (a.put oi.dst v) w) : anyI F n P md ops Q S (k + 1) l a w :=
  anyI_first (noDefer_of hd) hi (Region.noSelect_spec hs) hQ k l a w (Region.free_spec hi hf) (by simpa using hr) ⟨hy, hab⟩ hS h
def AllI (F : Fence) (n : Nat) (P : Program) (md : Region.Mode) (ops : Array Oper) (Q : Exit → Act → World → Prop) (S : World → Prop) (k : Nat) (l : Array Bool) (a : Act) (w : World) (rs : List Nat) : Prop :=
  ∀ i ∈ rs, wpOpIn F n P ops Q i (fun a' w' => S w' ∧ anyI F n P md ops Q S k (l.setIfInBounds i true) a' w') a w
theorem AllI.nil {k : Nat} {l : Array Bool} {a : Act} {w : World} : AllI F n P md ops Q S k l a w [] := fun _ h => by cases h
theorem AllI.cons {k : Nat} {l : Array Bool} {a : Act} {w : World} {i : Nat} {o : Oper} {rs : List Nat} (hd : noDeferB ops = true) (ho : ops[i]? = some o) (hw : Region.wanted o (yielded ops a.tmps) = true)
    (h : ∀ K' : Act → World → Prop, Shut (∀ a w, S w → (S w → anyI F n P md ops Q S k (l.setIfInBounds i true) a w) → K' a w) → (∀ f, o.about P w a.eval = some f → F.fn f) ∧ o.uponIn F n P a K' Q ((execOp a.eval o).run P w)) (hs : AllI F n P md ops Q S k l a w rs) : AllI F n P md ops Q S k l a w (i :: rs) := fun j hj => by
  rcases List.mem_cons.1 hj with rfl | hj
  · refine wpOpIn_step ho fun K' hK => ?_
    rw [if_pos hw]
    unfold Oper.wpIn
    rw [Oper.semAt_eq _ _ _ (noDefer_of hd _ o ho)]
    exact h K' (fun a w hS hW => hK a w ⟨hS, hW hS⟩)
  · exact hs j hj
theorem anyI_ready {rs : List Nat} {k : Nat} {l : Array Bool} {a : Act} {w : World} (hr : Region.ready md ops l = rs) (hne : rs ≠ []) (h : AllI F n P md ops Q S k l a w rs) : anyI F n P md ops Q S (k + 1) l a w :=
  ⟨fun h0 => absurd (hr ▸ h0) hne, hr ▸ h⟩
theorem anyI_done {l : Array Bool} {a : Act} {w : World} (hr : Region.ready md ops l = []) (h : Q .normal a w) : ∀ k, anyI F n P md ops Q S k l a w
  | 0 => ⟨hr, h⟩
  | _ + 1 => ⟨fun _ => h, by rw [hr]; simp⟩
theorem region_I {id : Nat} {a : Act} {w : World} (hm : P.follows .mixedOrders = true) (hS : S w.drew) (h : S w.drew → anyI F n P .any ops Q S ops.size (Array.replicate ops.size false) a w.drew) : (Code.region id ops true).wpIn F n P Q a w :=
  wpIn_region_any hm (anyI_sound _ _ _ _ (h hS))
theorem exec_append {o : Oper} {a : Act} {w w' : World} (s x : Operand) (t : TypeId) (ho : o.op = .call { callee := .builtin .append, args := #[s, x], argTypes := #[t, t] }) (v y v' : Value) (hs : a.eval s = v) (hx : a.eval x = y)
    (hrun : (Builtin.append_ #[t, t] o.type #[v, y]).run P w = .ok v' w') : (execOp a.eval o).run P w = .ok (.value v') w' := by
  unfold execOp
  simp only [ho, resolve, invoke, builtin, Sem.run_bind, Sem.run_pure, Result.andThen_ok, List.map_toArray, List.map_cons, List.map_nil, hs, hx, hrun]
theorem uponI_append {o : Oper} {a : Act} {w w' : World} {next : Act → World → Prop} (s x : Operand) (t : TypeId) (ho : o.op = .call { callee := .builtin .append, args := #[s, x], argTypes := #[t, t] }) (v y v' : Value) (hs : a.eval s = v) (hx : a.eval x = y)
    (hrun : (Builtin.append_ #[t, t] o.type #[v, y]).run P w = .ok v' w') (h : next (a.put o.dst v') w') : o.uponIn F n P a next Q ((execOp a.eval o).run P w) := by
  rw [exec_append s x t ho v y v' hs hx hrun]
  exact h
end
end Go.Proofs.Ytnjalnnbdmmcmaa
