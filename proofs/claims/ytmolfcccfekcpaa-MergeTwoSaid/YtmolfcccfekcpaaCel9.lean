/- Package cell: cells held against one another; a row that is sorted stays as it is. -/
import Derived.IntWalk
import Derived.OrdersIn
import Derived.OrdersHeld
import Derived.Deep.RegionHeld
import Derived.RangeFuncNested
import Derived.RangeFuncBound
import Derived.RangeFuncCalls
import Derived.RangeFuncLeaves
import Derived.RangeFuncBox
import Derived.Shelf.Abstract
import Derived.Shelf.RegionOpen
import Derived.OwnWalkIn
import Derived.TacticsInMore
import Derived.LoopNIn
import Derived.LoopIn
import Derived.Maps.AppendAt
import Derived.Test.YtmolfcccfekcpaaCel6
import Derived.Test.YtmolfcccfekcpaaCel0
import Derived.Test.YtmolfcccfekcpaaProg
namespace Go.Proofs.Ytmolfcccfekcpaa
open Go.RowKit
theorem wrap_small (j : Nat) (h : j ≤ 1000000) : IntKind.i64.wrap (j : Int) = (j : Int) := by
  have e : IntKind.i64.wrap (j : Int) = wrap64 (j : Int) := Go.IntWalk.i64_left _
  rw [e]
  unfold wrap64
  omega
/-- No cell is less than the one ahead of it. -/
def SortedC (l : List Cel) : Prop := ∀ (i : Nat) (x y : Cel), l[i]? = some x → l[i + 1]? = some y → 0 ≤ cmpL y.key x.key
end Go.Proofs.Ytmolfcccfekcpaa
/- A region that draws its order, in a round of a range over a function: what reads cells that stay may be taken first. No Go text in sight. -/
namespace Go.Proofs.Ytmolfcccfekcpaa
open Go.RowKit
section
variable {F : Fence} {n : Nat} {P : Program} {ops : Array Oper} {Q : Exit → Act → World → Prop} {md : Region.Mode} {S : World → Prop}
def NoDefer (ops : Array Oper) : Prop := ∀ (j : Nat) (o : Oper), ops[j]? = some o → ∀ c, o.op ≠ .defer c
def noDeferB (ops : Array Oper) : Bool := ops.all fun o => match o.op with | .defer _ => false | _ => true
theorem noDefer_of (h : noDeferB ops = true) : NoDefer ops := fun j o hj c e => by
  unfold noDeferB at h
  rw [Array.all_eq_true] at h
  obtain ⟨hl, rfl⟩ := Array.getElem?_eq_some_iff.1 hj
  have := h j hl
  rw [e] at this
  cases this
/-- In every world of S it yields v, and calls nothing. -/
def YS (P : Program) (ops : Array Oper) (S : World → Prop) (o : Oper) (v : Value) (a : Act) : Prop := YieldsIf P ops S o v a ∧ ∀ w, o.about P w a.eval = none
/-- Whatever order is picked; S holds behind each operation. -/
def anyI (F : Fence) (n : Nat) (P : Program) (md : Region.Mode) (ops : Array Oper) (Q : Exit → Act → World → Prop) (S : World → Prop) : Nat → Array Bool → Act → World → Prop
  | 0, l, a, w => Region.ready md ops l = [] ∧ Q .normal a w
  | k + 1, l, a, w => (Region.ready md ops l = [] → Q .normal a w) ∧ ∀ i ∈ Region.ready md ops l, wpOpIn F n P ops Q i (fun a' w' => S w' ∧ anyI F n P md ops Q S k (l.setIfInBounds i true) a' w') a w
theorem anyI_sound : ∀ (k : Nat) (l : Array Bool) (a : Act) (w : World), anyI F n P md ops Q S k l a w → wpAnyIn F n P md ops Q k l a w
  | 0, _, _, _, h => h
  | k + 1, _, _, _, h => ⟨h.1, fun i hi => wpOpIn_mono (fun a' w' h' => anyI_sound k _ a' w' h'.2) (h.2 i hi)⟩
theorem YS.op {i : Nat} {o : Oper} {v : Value} {a : Act} {w : World} {K : Act → World → Prop} (hd : NoDefer ops) (hi : ops[i]? = some o) (hy : YS P ops S o v a) (hS : S w) (h : K (a.put o.dst v) w) : wpOpIn F n P ops Q i K a w := by
  unfold wpOpIn
  have hab : ∀ f, o.about P w a.eval = some f → F.fn f := fun f hf => by rw [hy.2 w] at hf; cases hf
  simp only [hi]
  rcases hy.1 with ⟨h1, h2⟩ | ⟨h1, h2⟩
  · simp only [h1, if_true, Oper.wpIn, Oper.semAt_eq F.round a.eval o (hd i o hi), h2 w hS, Oper.uponIn]
    exact ⟨hab, h⟩
  · subst h2
    simp only [h1, Bool.false_eq_true, if_false]
    exact ⟨hab, h⟩
theorem YS.move {o : Oper} {v : Value} {a a' : Act} (hy : YS P ops S o v a) (he : execOp a'.eval o = execOp a.eval o) (hw : Region.wanted o (yielded ops a'.tmps) = Region.wanted o (yielded ops a.tmps)) (hb : ∀ w, o.about P w a'.eval = o.about P w a.eval) : YS P ops S o v a' :=
  ⟨hy.1.of_same he hw, fun w => (hb w).trans (hy.2 w)⟩
theorem op_past {j : Nat} {oi oj : Oper} {v : Value} {K : Act → World → Prop} {a : Act} {w : World} (hd : NoDefer ops) (hj : ops[j]? = some oj) (hap : oi.apart ops oj = true) (hsi : ∀ cs b, oi.op ≠ .select cs b) (hsj : ∀ cs b, oj.op ≠ .select cs b)
    (hQ : ∀ c a w, Q (.panic c) (a.put oi.dst v) w → Q (.panic c) a w) (hy : YS P ops S oi v a) (h : wpOpIn F n P ops Q j K (a.put oi.dst v) w) :
    wpOpIn F n P ops Q j (fun a' w' => YS P ops S oi v a' ∧ K (a'.put oi.dst v) w') a w := by
  obtain ⟨p1, p2, p3⟩ := Oper.apart_spec hap
  have stay : ∀ (b : Act), YS P ops S oi v b → ∀ u, YS P ops S oi v (b.put oj.dst u) := fun b hb u => hb.move (execOp_put oi hsi b oj.dst u p3) (wanted_put oi b oj.dst u p3) fun w => about_put oi w b oj.dst u p3
  have nd := hd j oj hj
  unfold wpOpIn at h ⊢
  simp only [hj] at h ⊢
  rw [wanted_put oj a oi.dst v p1, about_put oj w a oi.dst v p1] at h
  by_cases hw : Region.wanted oj (yielded ops a.tmps) = true
  · rw [if_pos hw] at h ⊢
    unfold Oper.wpIn at h ⊢
    rw [about_put oj w a oi.dst v p1, Oper.semAt_eq _ _ _ nd, execOp_put oj hsj a oi.dst v p1] at h
    rw [Oper.semAt_eq _ _ _ nd]
    refine ⟨h.1, ?_⟩
    have h' := h.2
    clear h
    revert h'
    generalize (execOp a.eval oj).run P w = r
    intro h'
    have ret : ∀ (u : Value) (w2 : World), K ((a.put oi.dst v).put oj.dst u) w2 → YS P ops S oi v (a.put oj.dst u) ∧ K ((a.put oj.dst u).put oi.dst v) w2 := fun u w2 hk => ⟨stay a hy u, by rw [← Act.put_comm a v u p2]; exact hk⟩
    match r, h' with
    | .ok (.value u) w2, h' => exact ret u w2 h'
    | .ok .skip w2, h' => exact ret undef w2 h'
    | .ok (.defer d) w2, h' =>
      refine ⟨(hy.move (a' := { a with defers := d :: a.defers }) rfl rfl fun _ => rfl) |> fun y => stay _ y undef, ?_⟩
      rw [← Act.put_comm _ v undef p2, ← Act.put_defers]
      exact h'
    | .ok (.enter f args) w2, h' =>
      refine ⟨h'.1, CallsIn.mono h'.2 fun e w3 he => ?_⟩
      match e, he with
      | .returned u, he => exact ret u w3 he
      | .panicked c, he => exact hQ _ _ _ he
      | .outgrown, he => exact he
    | .ok (.row row args) w2, h' => exact ⟨h'.1, RowsIn.mono h'.2 fun u w3 he => ret u w3 he⟩
    | .ok (.round l f tmps assign body) w2, h' =>
      refine ⟨h'.1, RoundIn.mono h'.2 fun e w3 he => ?_⟩
      match e, he with
      | .returned u, he => exact ret u w3 he
      | .panicked c, he => exact hQ _ _ _ he
      | .outgrown, he => exact he
    | .halt (.panic u) w2, h' => exact hQ _ _ _ h'
  · rw [if_neg hw] at h ⊢
    exact ⟨h.1, stay a hy undef, by rw [← Act.put_comm a v undef p2]; exact h.2⟩
theorem anyI_first {i : Nat} {oi : Oper} {v : Value} (hd : NoDefer ops) (hi : ops[i]? = some oi) (hsel : ∀ (j : Nat) (o : Oper) cs b, ops[j]? = some o → o.op ≠ .select cs b) (hQ : ∀ c a w, Q (.panic c) (a.put oi.dst v) w → Q (.panic c) a w) :
    ∀ (k : Nat) (l : Array Bool) (a : Act) (w : World), (∀ j oj, ops[j]? = some oj → j ≠ i → l.getD j true = false → (∀ e ∈ oj.after, Region.binds md e = true → e.on ≠ i) → oi.apart ops oj = true) →
      i ∈ Region.ready md ops l → YS P ops S oi v a → S w → anyI F n P md ops Q S k (l.setIfInBounds i true) (a.put oi.dst v) w → anyI F n P md ops Q S (k + 1) l a w := by
  intro k
  induction k with
  | zero =>
    intro l a w _ hr hy hS H
    refine ⟨fun h => absurd hr (by rw [h]; simp), fun j hj => ?_⟩
    by_cases hji : j = i
    · subst hji
      exact hy.op hd hi hS ⟨hS, H⟩
    · exact absurd (ready_mono hj hji) (by rw [H.1]; simp)
  | succ k ih =>
    intro l a w hf hr hy hS H
    refine ⟨fun h => absurd hr (by rw [h]; simp), fun j hj => ?_⟩
    by_cases hji : j = i
    · subst hji
      exact hy.op hd hi hS ⟨hS, H⟩
    · obtain ⟨hun, oj, hoj, hal⟩ := mem_ready.1 hj
      have hno : ∀ e ∈ oj.after, Region.binds md e = true → e.on ≠ i := fun e he hb heq => by
        have g1 := hal e he hb
        have g0 := (mem_ready.1 hr).1
        rw [heq] at g1
        by_cases hl : i < l.size
        · simp [hl] at g0 g1; rw [g0] at g1; cases g1
        · simp [Array.getElem?_eq_none (Nat.le_of_not_lt hl)] at g1
      have h2 := op_past hd hoj (hf j oj hoj hji hun hno) (fun cs b => hsel i oi cs b hi) (fun cs b => hsel j oj cs b hoj) hQ hy (H.2 j (ready_mono hj hji))
      refine wpOpIn_mono (fun a' w' h3 => ⟨h3.2.1, ih (l.setIfInBounds j true) a' w' (fun m om hm hmi hmu hmn => hf m om hm hmi ?_ hmn) (ready_mono hr (Ne.symm hji)) h3.1 h3.2.1 ?_⟩) h2
      · by_cases hjm : j = m
        · subst hjm; exact hun
        · rwa [getD_set_ne true hjm] at hmu
      · rw [Array.setIfInBounds_comm _ _ hji]
        exact h3.2.2
theorem anyI_take {i : Nat} {oi : Oper} {v : Value} {k : Nat} {l : Array Bool} {a : Act} {w : World} (hd : noDeferB ops = true) (hi : ops[i]? = some oi) (hs : Region.noSelect ops = true) (hf : Region.free md ops l i = true) (hr : (Region.ready md ops l).contains i = true)
    (hQ : ∀ c a w, Q (.panic c) (a.put oi.dst v) w → Q (.panic c) a w) (hab : ∀ w, oi.about P w a.eval = none) (hy : YieldsIf P ops S oi v a) (hS : S w) (h : anyI F n P md ops Q S k (l.setIfInBounds i true) (a.put oi.dst v) w) : anyI F n P md ops Q S (k + 1) l a w :=
  anyI_first (noDefer_of hd) hi (Region.noSelect_spec hs) hQ k l a w (Region.free_spec hi hf) (by simpa using hr) ⟨hy, hab⟩ hS h
def AllI (F : Fence) (n : Nat) (P : Program) (md : Region.Mode) (ops : Array Oper) (Q : Exit → Act → World → Prop) (S : World → Prop) (k : Nat) (l : Array Bool) (a : Act) (w : World) (rs : List Nat) : Prop :=
  ∀ i ∈ rs, wpOpIn F n P ops Q i (fun a' w' => S w' ∧ anyI F n P md ops Q S k (l.setIfInBounds i true) a' w') a w
theorem AllI.nil {k : Nat} {l : Array Bool} {a : Act} {w : World} : AllI F n P md ops Q S k l a w [] := fun _ h => by cases h
theorem AllI.cons {k : Nat} {l : Array Bool} {a : Act} {w : World} {i : Nat} {o : Oper} {rs : List Nat} (hd : noDeferB ops = true) (ho : ops[i]? = some o) (hw : Region.wanted o (yielded ops a.tmps) = true)
    (h : ∀ K' : Act → World → Prop, Shut (∀ a w, S w → (S w → anyI F n P md ops Q S k (l.setIfInBounds i true) a w) → K' a w) → (∀ f, o.about P w a.eval = some f → F.fn f) ∧ o.uponIn F n P a K' Q ((execOp a.eval o).run P w)) (hs : AllI F n P md ops Q S k l a w rs) : AllI F n P md ops Q S k l a w (i :: rs) := fun j hj => by
  rcases List.mem_cons.1 hj with rfl | hj
  · refine wpOpIn_step ho fun K' hK => ?_
    rw [if_pos hw]
    unfold Oper.wpIn
    rw [Oper.semAt_eq _ _ _ (noDefer_of hd _ o ho)]
    exact h K' (fun a w hS hW => hK a w ⟨hS, hW hS⟩)
  · exact hs j hj
theorem anyI_ready {rs : List Nat} {k : Nat} {l : Array Bool} {a : Act} {w : World} (hr : Region.ready md ops l = rs) (hne : rs ≠ []) (h : AllI F n P md ops Q S k l a w rs) : anyI F n P md ops Q S (k + 1) l a w :=
  ⟨fun h0 => absurd (hr ▸ h0) hne, hr ▸ h⟩
theorem anyI_done {l : Array Bool} {a : Act} {w : World} (hr : Region.ready md ops l = []) (h : Q .normal a w) : ∀ k, anyI F n P md ops Q S k l a w
  | 0 => ⟨hr, h⟩
  | _ + 1 => ⟨fun _ => h, by rw [hr]; simp⟩
theorem region_I {id : Nat} {a : Act} {w : World} (hm : P.follows .mixedOrders = true) (hS : S w.drew) (h : S w.drew → anyI F n P .any ops Q S ops.size (Array.replicate ops.size false) a w.drew) : (Code.region id ops true).wpIn F n P Q a w :=
  wpIn_region_any hm (anyI_sound _ _ _ _ (h hS))
theorem exec_append {o : Oper} {a : Act} {w w' : World} (s x : Operand) (t : TypeId) (ho : o.op = .call { callee := .builtin .append, args := #[s, x], argTypes := #[t, t] }) (v y v' : Value) (hs : a.eval s = v) (hx : a.eval x = y)
    (hrun : (Builtin.append_ #[t, t] o.type #[v, y]).run P w = .ok v' w') : (execOp a.eval o).run P w = .ok (.value v') w' := by
  unfold execOp
  simp only [ho, resolve, invoke, builtin, Sem.run_bind, Sem.run_pure, Result.andThen_ok, List.map_toArray, List.map_cons, List.map_nil, hs, hx, hrun]
theorem uponI_append {o : Oper} {a : Act} {w w' : World} {next : Act → World → Prop} (s x : Operand) (t : TypeId) (ho : o.op = .call { callee := .builtin .append, args := #[s, x], argTypes := #[t, t] }) (v y v' : Value) (hs : a.eval s = v) (hx : a.eval x = y)
    (hrun : (Builtin.append_ #[t, t] o.type #[v, y]).run P w = .ok v' w') (h : next (a.put o.dst v') w') : o.uponIn F n P a next Q ((execOp a.eval o).run P w) := by
  rw [exec_append s x t ho v y v' hs hx hrun]
  exact h
end
end Go.Proofs.Ytmolfcccfekcpaa
/- Package cell's sets: how many dimensions, which is the lowest, where one stands; for sets of four dimensions. -/
namespace Go.Proofs.Ytmolfcccfekcpaa
open Go.RowKit
/-- What is read of Go's table: where 1, 2, 4, 8 lie. -/
structure Tab (w : World) : Prop where
  c0 : w.cell? ⟨1, 0, none⟩ = some (.int .u8 0)
  c1 : w.cell? ⟨1, 1, none⟩ = some (.int .u8 1)
  c3 : w.cell? ⟨1, 3, none⟩ = some (.int .u8 2)
  c7 : w.cell? ⟨1, 7, none⟩ = some (.int .u8 3)
theorem Tab.keep {w w' : World} (h : Tab w) (hk : Keeps w w') : Tab w' := ⟨hk _ _ h.c0, hk _ _ h.c1, hk _ _ h.c3, hk _ _ h.c7⟩
/-- The lowest dimension of a set; how many there are. -/
def tz (x : Int) : Int := if x % 2 = 1 then 0 else if x % 4 = 2 then 1 else if x % 8 = 4 then 2 else 3
def ones (x : Int) : Int := x % 2 + x / 2 % 2 + x / 4 % 2 + x / 8 % 2
/-- The set of so many dimensions. -/
def fullB (d : Nat) : Int := 2 ^ d - 1
/-- Where a dimension stands among a set's. -/
def plc (set d : Int) : Int := if d = 0 then 0 else if d = 1 then set % 2 else if d = 2 then set % 2 + set / 2 % 2 else set % 2 + set / 2 % 2 + set / 4 % 2
theorem plc_and (s : Int) (d : Nat) (h1 : 0 ≤ s) (h2 : s ≤ 15) (hd : d ≤ 3) : 0 ≤ bits .and .i64 s (fullB d) ∧ bits .and .i64 s (fullB d) ≤ 15 ∧ ones (bits .and .i64 s (fullB d)) = plc s d := by
  rcases (by omega : s = 0 ∨ s = 1 ∨ s = 2 ∨ s = 3 ∨ s = 4 ∨ s = 5 ∨ s = 6 ∨ s = 7 ∨ s = 8 ∨ s = 9 ∨ s = 10 ∨ s = 11 ∨ s = 12 ∨ s = 13 ∨ s = 14 ∨ s = 15) with rfl | rfl | rfl | rfl | rfl | rfl | rfl | rfl | rfl | rfl | rfl | rfl | rfl | rfl | rfl | rfl
  all_goals
    rcases (by omega : d = 0 ∨ d = 1 ∨ d = 2 ∨ d = 3) with rfl | rfl | rfl | rfl <;> decide +kernel
end Go.Proofs.Ytmolfcccfekcpaa
/- Package cell's dimensions: those of a set, rising, one by one. -/
namespace Go.Proofs.Ytmolfcccfekcpaa
open Go.RowKit Go.Shelf
attribute [local go_sem] Oper.semAt_some
def dimsL (s : Int) : List Int := (if s % 2 = 1 then [0] else []) ++ (if s / 2 % 2 = 1 then [1] else []) ++ (if s / 4 % 2 = 1 then [2] else []) ++ (if s / 8 % 2 = 1 then [3] else [])
theorem dimsL_step (r : Int) (h1 : 1 ≤ r) (h2 : r ≤ 15) : dimsL r = tz r :: dimsL (bits .and .u64 r (r - 1)) ∧ 0 ≤ bits .and .u64 r (r - 1) ∧ bits .and .u64 r (r - 1) ≤ 15 ∧ bits .and .u64 r (r - 1) < r := by
  rcases (by omega : r = 1 ∨ r = 2 ∨ r = 3 ∨ r = 4 ∨ r = 5 ∨ r = 6 ∨ r = 7 ∨ r = 8 ∨ r = 9 ∨ r = 10 ∨ r = 11 ∨ r = 12 ∨ r = 13 ∨ r = 14 ∨ r = 15) with rfl | rfl | rfl | rfl | rfl | rfl | rfl | rfl | rfl | rfl | rfl | rfl | rfl | rfl | rfl <;> decide +kernel
theorem dimsL_zero : dimsL 0 = [] := rfl
theorem dimsL_le (s : Int) : (dimsL s).length ≤ 4 := by
  unfold dimsL
  simp only [List.length_append]
  have h : ∀ (p : Prop) [Decidable p] (x : Int), (if p then [x] else []).length ≤ 1 := fun p _ x => by split <;> simp
  have a := h (s % 2 = 1) 0
  have b := h (s / 2 % 2 = 1) 1
  have c := h (s / 4 % 2 = 1) 2
  have d := h (s / 8 % 2 = 1) 3
  omega
theorem dimsL_in (s d : Int) (h : d ∈ dimsL s) : d = 0 ∨ d = 1 ∨ d = 2 ∨ d = 3 := by
  unfold dimsL at h
  simp only [List.mem_append] at h
  rcases h with ((h | h) | h) | h <;> split at h <;> simp at h <;> simp [h]
theorem u64_id (s : Int) (h1 : 0 ≤ s) (h2 : s ≤ 15) : IntKind.u64.wrap s = s := by
  rcases (by omega : s = 0 ∨ s = 1 ∨ s = 2 ∨ s = 3 ∨ s = 4 ∨ s = 5 ∨ s = 6 ∨ s = 7 ∨ s = 8 ∨ s = 9 ∨ s = 10 ∨ s = 11 ∨ s = 12 ∨ s = 13 ∨ s = 14 ∨ s = 15) with rfl | rfl | rfl | rfl | rfl | rfl | rfl | rfl | rfl | rfl | rfl | rfl | rfl | rfl | rfl | rfl <;> rfl
theorem Tab.below {n₀ : Nat} {w w' : World} (h : Tab w) (hb : Below n₀ w w') (hn : 1 < n₀) : Tab w' :=
  ⟨(hb.cell (p := ⟨1, 0, none⟩) hn).trans h.c0, (hb.cell (p := ⟨1, 1, none⟩) hn).trans h.c1, (hb.cell (p := ⟨1, 3, none⟩) hn).trans h.c3, (hb.cell (p := ⟨1, 7, none⟩) hn).trans h.c7⟩
abbrev InSet (s : Int) := { d : Int // d ∈ dimsL s }
end Go.Proofs.Ytmolfcccfekcpaa
/- Package cell: runs of one key, told one by one (here: one alone). -/
namespace Go.Proofs.Ytmolfcccfekcpaa
open Go.RowKit Go.Shelf
attribute [local go_sem] Oper.semAt_some
section
variable {F : Fence} {n : Nat} {P : Program} {ops : Array Oper} {Q : Exit → Act → World → Prop} {md : Region.Mode} {S : World → Prop}
theorem AllI.skip {k : Nat} {l : Array Bool} {a : Act} {w : World} {i : Nat} {o : Oper} {rs : List Nat} (ho : ops[i]? = some o) (hw : Region.wanted o (yielded ops a.tmps) = false) (hF : ∀ f, F.fn f) (hS : S w)
    (h : anyI F n P md ops Q S k (l.setIfInBounds i true) (a.put o.dst undef) w) (hs : AllI F n P md ops Q S k l a w rs) : AllI F n P md ops Q S k l a w (i :: rs) := fun j hj => by
  rcases List.mem_cons.1 hj with rfl | hj
  · unfold wpOpIn
    simp only [ho, hw, Bool.false_eq_true, if_false]
    exact ⟨fun f _ => hF f, hS, h⟩
  · exact hs j hj
end
theorem grown_drew (W : World) : W.grownBy W.drew none := ⟨rfl, rfl, rfl, Nat.le_refl _, fun _ _ _ => rfl⟩
/-- All bear one key. -/
def OneKey (key : List Int) (l : List Cel) : Prop := ∀ x ∈ l, x.key = key
def lenOf : Value → Nat
  | .slice _ n _ => n
  | _ => 0
end Go.Proofs.Ytmolfcccfekcpaa
/- A row of cells grows by one that was joined. -/
namespace Go.Proofs.Ytmolfcccfekcpaa
open Go.RowKit Go.Shelf
/-- A row of one cell of the call's own, and that cell's slices. -/
def GR (B : Nat) (X : World) (v k s n m : Value) (J : Cel) : Prop := X.ownsRow B 44 5 v 1 [k, .int .i64 J.cnt, s, n, m] ∧ CO B X k s n m J
theorem OI.kept {B : Nat} {X Y : World} {row : Option Nat} {v : Value} {xs : List Int} (h : OI B X v xs) (hg : X.grownBy Y row) (hr : ∀ r, row = some r → ∃ o : Obj, X.heap[r]? = some o ∧ o.isCells = false) : OI B Y v xs := by
  refine ⟨own_stay h.1 fun k hk => hg.block k (h.1.lt k hk).2 fun e => ?_, h.2⟩
  obtain ⟨o, ho, hc⟩ := hr k e.symm
  rcases h.1.2 with ⟨rfl, _⟩ | ⟨g, cap, cur, rfl, _, hh, _⟩
  · simp [Value.ownBlock] at hk
  · simp only [Value.ownBlock, Option.some.injEq] at hk
    subst hk
    rw [hh] at ho
    cases ho
    cases hc
theorem GR.kept {B : Nat} {X Y : World} {row : Option Nat} {v k s n m : Value} {J : Cel} (h : GR B X v k s n m J) (hg : X.grownBy Y row) (hr : ∀ r, row = some r → ∃ o : Obj, X.heap[r]? = some o ∧ o.isCells = false) : GR B Y v k s n m J := by
  refine ⟨own_stay h.1 fun q hq => hg.block q (h.1.lt q hq).2 fun e => ?_, h.2.key.kept hg hr, h.2.sum.kept hg hr, h.2.mn.kept hg hr, h.2.mx.kept hg hr⟩
  obtain ⟨o, ho, hc⟩ := hr q e.symm
  rcases h.1.2 with ⟨rfl, _⟩ | ⟨g, cap, cur, rfl, _, hh, _⟩
  · simp [Value.ownBlock] at hq
  · simp only [Value.ownBlock, Option.some.injEq] at hq
    subst hq
    rw [hh] at ho
    cases ho
    cases hc
/-- Ahead of the one round nothing has turned; behind it the row holds the one cell. -/
def GI (B : Nat) (w4 : World) (Bx : Nat) (J : Cel) (pre : List Unit) (W : World) : Prop :=
  (pre = [] → Below w4.heap.size w4 W) ∧ (pre ≠ [] → Below B w4 W ∧ ∃ v k s n m, Boxed W Bx 31 v ∧ GR w4.heap.size W v k s n m J)
theorem GI.own {B : Nat} {w4 : World} {Bx : Nat} {J : Cel} (hB : B ≤ w4.heap.size) : OwnFrom w4.heap.size (GI B w4 Bx J) := by
  intro pre X Y row hs hg hr
  refine ⟨fun h => (hs.1 h).grown hg (hs.1 h).size fun k e => (hr k e).1, fun h => ?_⟩
  obtain ⟨hb, v, k, s, n, m, hv, hgr⟩ := hs.2 h
  have hr2 : ∀ r, row = some r → ∃ o : Obj, X.heap[r]? = some o ∧ o.isCells = false := fun r e => (hr r e).2
  refine ⟨hb.grown hg (Nat.le_trans hB hb.size) fun k e => Nat.le_trans hB (hr k e).1, v, k, s, n, m, hv.kept hg fun e => ?_, hgr.kept hg hr2⟩
  obtain ⟨o, ho, hc⟩ := hr2 Bx e.symm
  rw [show X.heap[Bx]? = _ from hv] at ho
  cases ho
  cases hc
theorem group_step (B : Nat) (w4 W X1 : World) (Bx : Nat) (J : Cel) (k s n m : Value) (hB : B ≤ w4.heap.size) (hBx : B ≤ Bx) (hx : Boxed w4 Bx 31 (.slice none 0 0)) (h0 : Below w4.heap.size w4 W) (hc : CO W.drew.heap.size X1 k s n m J) (h1 : Below W.drew.heap.size W.drew X1) :
    ∃ g' cp X3, (Builtin.append_ #[31, 31] 31 #[.slice none 0 0, .slice (some ⟨X1.heap.size, 0, none⟩) 1 1]).run Try.prog (X1.alloc (.cells #[k, .int .i64 J.cnt, s, n, m] 44)) = .ok (.slice (some ⟨g', 0, none⟩) 1 cp) X3 ∧
      Boxed X3 Bx 31 (.slice none 0 0) ∧ KeepsFrom w4.heap.size W (X3.setCell ⟨Bx, 0, none⟩ (.slice (some ⟨g', 0, none⟩) 1 cp)) ∧ GI B w4 Bx J [()] (X3.setCell ⟨Bx, 0, none⟩ (.slice (some ⟨g', 0, none⟩) 1 cp)) := by
  obtain ⟨i0, hi, hz0, hz1, hz2⟩ := info_parts infoC
  have hW : w4.heap.size ≤ W.heap.size := h0.size
  have hX1 : W.heap.size ≤ X1.heap.size := h1.size
  have hone : ∀ u ∈ [k, .int .i64 J.cnt, s, n, m], u.oneCell' = true := by
    intro u hu
    simp only [List.mem_cons, List.mem_nil_iff, or_false] at hu
    rcases hu with rfl | rfl | rfl | rfl | rfl
    · exact oneCell_ri hc.key.ri
    · rfl
    · exact oneCell_ri hc.sum.ri
    · exact oneCell_ri hc.mn.ri
    · exact oneCell_ri hc.mx.ri
  obtain ⟨v', X3, hrun, ho, hg, _⟩ := run_append_own_at (P := Try.prog) (X1.alloc (.cells #[k, .int .i64 J.cnt, s, n, m] 44)) X1.heap.size 31 31 44 i0 _ 5 104 Try.underlying31 hi hz0 hz1 hz2 rfl (by omega) (.slice none 0 0) 0 [] (World.ownsRow_nil _ _ _ _) ⟨X1.heap.size, 0, none⟩ 1 1 [k, .int .i64 J.cnt, s, n, m] rfl
    (fun j u hu => by
      rw [add0, show (X1.alloc (.cells #[k, .int .i64 J.cnt, s, n, m] 44)).cell? ⟨X1.heap.size, j, none⟩ = #[k, .int .i64 J.cnt, s, n, m][j]? from cell_of_row _ _ _ _ 44 (0, 0) (heap_alloc_new X1 _)]
      simpa using hu) hone (by simp [maxLen]) (by omega) (by simp)
  obtain ⟨g', cp, e'⟩ := ownsRow_succ ho
  subst e'
  rw [Nat.zero_add, List.nil_append] at ho
  rw [Nat.zero_add] at hrun
  have g1 : Below X1.heap.size X1 (X1.alloc (.cells #[k, .int .i64 J.cnt, s, n, m] 44)) := (Below.refl _ _).alloc (Nat.le_refl _) _
  have g2 : Below X1.heap.size X1 X3 := g1.grown hg g1.size fun j e => by simp [Value.ownBlock] at e
  have g3 : Below W.heap.size W X3 := ((Below.drew (Below.refl _ W)).trans h1).trans (g2.mono hX1)
  have hxW : Boxed W Bx 31 (.slice none 0 0) := (h0.block Bx hx.lt).trans hx
  have hx3 : Boxed X3 Bx 31 (.slice none 0 0) := (g3.block Bx hxW.lt).trans hxW
  have hco : CO W.heap.size X3 k s n m J := hc.below g2
  have hlt : Bx < W.heap.size := hxW.lt
  have far : ∀ {B' : Nat} {v : Value} {xs : List Int}, B' = W.heap.size → OI B' X3 v xs → v.ownBlock ≠ some Bx := fun e h hh => by
    have := (h.1.lt Bx hh).1
    omega
  refine ⟨g', cp, X3, hrun, hx3, ⟨?_, fun q o hq ho2 _ => ?_⟩, ⟨fun h => (by cases h), fun _ => ⟨?_, _, k, s, n, m, hx3.set _, ?_, ?_⟩⟩⟩
  · have := g3.size
    simpa [World.setCell] using this
  · have hq1 : q < W.heap.size := by
      rcases Nat.lt_or_ge q W.heap.size with h | h
      · exact h
      · rw [Array.getElem?_eq_none h] at ho2; cases ho2
    exact (Below.heap_setCell _ _ _ _ (by have := hx.lt; show q ≠ Bx; omega)).trans ((g3.block q hq1).trans ho2)
  · exact (h0.mono hB).trans ((g3.mono (Nat.le_trans hB hW)).trans ((only_setCell Bx X3 0 _).below hBx (Nat.le_trans (Nat.le_trans hB hW) g3.size)))
  · exact own_mono (own_stay ho fun j hj => Below.heap_setCell _ _ _ _ (by have := (ho.lt j hj).1; show j ≠ Bx; omega)) (by omega)
  · exact (show CO W.heap.size _ k s n m J from ⟨hco.key.other _ (far rfl hco.key), hco.sum.other _ (far rfl hco.sum), hco.mn.other _ (far rfl hco.mn), hco.mx.other _ (far rfl hco.mx)⟩).mono hW
end Go.Proofs.Ytmolfcccfekcpaa
