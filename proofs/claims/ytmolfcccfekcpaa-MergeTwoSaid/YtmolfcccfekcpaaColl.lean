/- A range over a function that goes through all its items, and lays blocks of its own on the way. -/
import Derived.RangeFuncNested
import Derived.RangeFuncBound
import Derived.RangeFuncCalls
import Derived.RangeFuncLeaves
import Derived.RangeFuncBox
import Derived.Shelf.Abstract
import Derived.Shelf.RegionOpen
import Derived.OwnWalkIn
import Derived.TacticsInMore
import Derived.LoopNIn
import Derived.LoopIn
import Derived.Maps.AppendAt
import Derived.Deep.RegionHeld
import Derived.IntWalk
import Derived.Test.YtmolfcccfekcpaaCel0
import Derived.Test.YtmolfcccfekcpaaBytes2
import Derived.Test.YtmolfcccfekcpaaSet
import Derived.Test.YtmolfcccfekcpaaJoinS
import Derived.Test.YtmolfcccfekcpaaProg
import Derived.Test.YtmolfcccfekcpaaBase
import Derived.Test.YtmolfcccfekcpaaPure
namespace Go.Proofs.Ytmolfcccfekcpaa
open Go.RowKit Go.Shelf
/-- It holds on where blocks are laid, and where one from B on that holds no cells is turned. -/
structure GoesB {β : Type} (B : Nat) (I : β → World → Prop) : Prop where
  grow : ∀ s W W', I s W → Below W.heap.size W W' → I s W'
  put : ∀ s W l o o', I s W → B ≤ l → W.heap[l]? = some o → o.isCells = false → I s (W.putObj l o')
theorem below_put {n₀ l : Nat} {W : World} {o : Obj} (o' : Obj) (hl : n₀ ≤ l) (h : W.heap[l]? = some o) : Below n₀ W (W.putObj l o') :=
  (Below.refl n₀ W).grown (grownBy_putObj' W l o') (by have := (Array.getElem?_eq_some_iff.1 h).1; omega) (fun k e => by cases e; omega)
/-- How a round may end: it goes on. -/
def roundOn {α : Type} (n₀ : Nat) (I : List α → World → Prop) (xs : List α) (W : World) : Exit → Act → World → Prop
  | .normal, _, W' => KeepsOthers W W' ∧ Below n₀ W W' ∧ I xs W'
  | _, _, _ => False
theorem range_grows {α : Type} {F : Fence} {n : Nat} {P : Program} {g : Operand} {ps : Array Tmp} {assign body : Code} {Q : Exit → Act → World → Prop} {a : Act} {w : World}
    (hro : F.round = none) (h1 : 1 ≤ n) {gf : Nat} {lb : Array Value} (hg : a.eval g = .func (.func gf) #[] lb) (hFg : F.fn gf) (eg : ∀ args w, (callFunc gf args).run P w = .ok (.enter gf args) w)
    {encs : α → Array Value} {n₀ N : Nat} {S : List α → Prop} (hn₀ : n₀ ≤ w.heap.size) (hps : ∀ x, (encs x).size = ps.size)
    (hit : ∀ (l : Nat) (J : List α → World → Prop) (W : World), Below w.heap.size w W → (∀ s A B, J s A → Below A.heap.size A B → J s B) →
      (∀ pre x W1, J pre W1 → pre.length < N → YieldAt F (n - 1 - 1) P l (encs x) W1 fun e W' => e = .returned (.bool true) ∧ J (pre ++ [x]) W' ∧ Below n₀ W1 W') → J [] W →
      CallsIn F (n - 1) P gf (#[.func (.yield l) #[] #[]] ++ lb) W fun e W' => (∃ v, e = .returned v) ∧ ∃ xs, S xs ∧ J xs W')
    (I : List α → World → Prop) (hI : GoesB w.heap.size I) (h0 : I [] w) (a₁ : α → Act)
    (hassign : ∀ (l : Nat) (x : α) (W : World) (K : Act → World → Prop), K (a₁ x) W →
      assign.wpIn (F.inRound l) (n - 1 - 1) P (Exit.then K (fun _ _ _ => False)) { tmps := (ps.zip (encs x)).foldl (fun t (p, v) => t.setIfInBounds p v) a.tmps, defers := [] } W)
    (hbody : ∀ (l : Nat) (pre : List α) (x : α) (W : World), I pre W → pre.length < N → body.wpIn (F.inRound l) (n - 1 - 1) P (roundOn n₀ I (pre ++ [x]) W) (a₁ x) W)
    (hdone : ∀ (D : Nat) (xs : List α) (W : World), w.heap.size ≤ D → S xs → I xs W → W.heap[D]? = some (.deferred (some [])) → Q .normal { a with defers := { target := .collected D, args := #[] } :: a.defers } W) :
    (Code.rangeFunc g ps assign body).wpIn F n P Q a w := by
  refine wpIn_rangeFunc fun fn hfn => ?_
  rw [hro]
  obtain ⟨R, hR⟩ : ∃ R : LoopState → Option Code → Loop, R = fun st pe => { state := st, pending := pe, fn, tmps := a.tmps, params := ps, assign, body, defers := w.heap.size } := ⟨_, rfl⟩
  obtain ⟨W1, hW1⟩ : ∃ W1, W1 = (w.alloc (.deferred (some []))).alloc (.loop (R .ready none)) := ⟨_, rfl⟩
  have hl : W1.heap[w.heap.size + 1]? = some (.loop (R .ready none)) := by
    have := World.alloc_heap_new (w.alloc (.deferred (some []))) (.loop (R .ready none))
    rw [World.size_alloc, ← hW1] at this
    exact this
  have hd : W1.heap[w.heap.size]? = some (.deferred (some [])) := by
    rw [hW1]
    exact (Below.heap_alloc _ _ _ (by simp)).trans (World.alloc_heap_new w _)
  have hB : Below w.heap.size w W1 := by
    rw [hW1]
    exact ((Below.refl _ w).alloc (Nat.le_refl _) _).alloc (by simp) _
  have hi : I [] W1 := by exact hI.grow _ _ _ h0 hB
  refine ⟨w.heap.size + 1, [{ target := .collected w.heap.size, args := #[] }], W1, { target := .fn (.func gf) lb, args := #[.func (.yield (w.heap.size + 1)) #[] #[]] }, W1, gf, #[.func (.yield (w.heap.size + 1)) #[] #[]] ++ lb, W1, ?_, ?_, ?_, ?_, fun _ => h1, ?_⟩
  · rw [hW1, hR]
    exact run_enterLoop_outer _ _ _ _ _
  · simp only [resolve, hg]
    simp [go_sem]
  · intro f' hf'
    simp [Target.leads] at hf'
    subst hf'
    exact hFg
  · simp [invoke, go_sem, eg]
  · refine (hit (w.heap.size + 1) (fun pre W => I pre W ∧ W.heap[w.heap.size + 1]? = some (.loop (R .ready none)) ∧ W.heap[w.heap.size]? = some (.deferred (some []))) W1 hB (fun s A B h hb => ⟨hI.grow _ _ _ h.1 hb, (hb.block _ (Array.getElem?_eq_some_iff.1 h.2.1).1).trans h.2.1, (hb.block _ (Array.getElem?_eq_some_iff.1 h.2.2).1).trans h.2.2⟩) ?_ ⟨hi, hl, hd⟩).mono ?_
    · rintro pre x W ⟨hi, hl, hd⟩ hlen
      have hlt := (Array.getElem?_eq_some_iff.1 hl).1
      have hy := run_yield (P := P) (args := encs x) hl (by rw [hR]; exact hps x)
      rw [hR] at hy
      refine ⟨fn, _, assign, body, hy, roundIn_of_wpIn hfn (hassign _ x W _ ⟨_, run_beginRound hl (by rw [hR]), ?_⟩)⟩
      obtain ⟨L, hL⟩ : ∃ L : Loop, L = { R .ready none with state := .busy } := ⟨_, rfl⟩
      rw [← hL]
      have h2 : (W.putObj (w.heap.size + 1) (.loop L)).heap[w.heap.size + 1]? = some (.loop L) := World.putObj_heap_same hlt
      have h3 : (W.putObj (w.heap.size + 1) (.loop L)).heap[w.heap.size]? = some (.deferred (some [])) := (World.putObj_heap_other (by omega)).trans hd
      refine wpIn_mono (hbody _ pre x _ (hI.put _ _ _ _ _ hi (by omega) hl rfl) hlen) ?_
      rintro e a3 W3 hp
      cases e with
      | normal =>
        obtain ⟨hk, hb, hi3⟩ := hp
        have h4 := hk.same _ _ h2 rfl
        have h5 := hk.same _ _ h3 rfl
        have hr := run_endRound (P := P) none h4
        have e1 : ({ L with state := .ready, pending := none } : Loop) = R .ready none := by rw [hL, hR]
        simp only [Option.isNone_none, if_true] at hr
        rw [e1] at hr
        exact ⟨_, _, hr, rfl, ⟨hI.put _ _ _ _ _ hi3 (by omega) h4 rfl, World.putObj_heap_same (Array.getElem?_eq_some_iff.1 h4).1, (World.putObj_heap_other (by omega)).trans h5⟩, ((below_put _ (by omega) hl).trans hb).trans (below_put _ (by omega) h4)⟩
      | ret => exact hp.elim
      | exit id => exact hp.elim
      | goto t => exact hp.elim
      | panic ch => exact hp.elim
      | outgrown => exact hp.elim
    · rintro e W2 ⟨⟨v, rfl⟩, xs, hS, hi, hl, hd⟩
      have hr := run_endLoop (P := P) hl (by rw [hR]; simp)
      rw [hR] at hr
      exact ⟨none, _, hr, hdone _ xs _ (Nat.le_refl _) hS (hI.put _ _ _ _ _ hi (by omega) hl rfl) ((World.putObj_heap_other (by omega)).trans hd)⟩
end Go.Proofs.Ytmolfcccfekcpaa
/- The reference's Encode of cells: it tells the bytes that the plain function gives. -/
namespace Go.Proofs.Ytmolfcccfekcpaa
open Go.RowKit Go.Shelf
theorem be1_one (x : Int) : be 1 x = [x % 256] := by simp [be, List.range_succ]
theorem flat_snoc {α : Type} {f : α → List Int} {l : List α} {k : Nat} {x : α} (h : l[k]? = some x) : (l.take (k + 1)).flatMap f = (l.take k).flatMap f ++ f x := by
  rw [List.take_add_one, h, List.flatMap_append]; simp
/-- A row of bytes of the call's own, from block B on. -/
def BytesW (w : World) (B : Nat) (v : Value) (xs : List Int) : Prop := w.ownsRow B 5 1 v xs.length (bytesV xs)
theorem Own.grownU {T : TypeId} {B b n s : Nat} {e : TypeId} {W W' : World} {us ys : List Value} {u : Value} (h : Own T W b us) (ho : W.ownsRow B e s u n ys) (hT : T ≠ e) (hg : W.grownBy W' u.ownBlock) : Own T W' b us := by
  refine (hg.block b h.lt fun q => ?_).trans h
  rcases ho.2 with ⟨rfl, _⟩ | ⟨g, cap, cur, rfl, _, hh, _⟩
  · cases q
  · simp only [Value.ownBlock, Option.some.injEq] at q
    subst q
    rw [show W.heap[b]? = _ from h] at hh
    injection hh with hh
    injection hh with _ hh _
    exact hT hh
/-- Boxes of cells stay. -/
def KO (W W' : World) : Prop := ∀ g vs, Own 44 W g vs → Own 44 W' g vs
theorem KO.below {W W' : World} (h : Below W.heap.size W W') : KO W W' := fun _ _ o => o.below h o.lt
theorem KO.trans {W W' W2 : World} (h : KO W W') (h' : KO W' W2) : KO W W2 := fun g vs o => h' g vs (h g vs o)
/-- A cell's bytes. -/
def triB (x : Cel) (k : Nat) : List Int := be 8 (x.sum[k]?.getD 0) ++ be 8 (x.mn[k]?.getD 0) ++ be 8 (x.mx[k]?.getD 0)
def cellB (x : Cel) : List Int := x.key.flatMap (be 1) ++ be 2 x.cnt ++ (List.range x.sum.length).flatMap (triB x)
def cubB (set : Int) (L : List Cel) : List Int := be 1 set ++ be 2 L.length ++ L.flatMap cellB
theorem flat1_len (xs : List Int) : (xs.flatMap (be 1)).length = xs.length := by
  induction xs with
  | nil => rfl
  | cons x t ih => rw [List.flatMap_cons, List.length_append, ih, be_len]; simp; omega
theorem tri_len (x : Cel) (k : Nat) : (triB x k).length = 24 := by simp [triB, be_len]
theorem flat24_len (x : Cel) : ∀ l : List Nat, (l.flatMap (triB x)).length = 24 * l.length
  | [] => rfl
  | a :: l => by rw [List.flatMap_cons, List.length_append, flat24_len x l, tri_len]; simp; omega
theorem cellB_len (x : Cel) : (cellB x).length = x.key.length + 2 + 24 * x.sum.length := by
  unfold cellB
  rw [List.length_append, List.length_append, flat1_len, be_len, flat24_len, List.length_range]
theorem cells_len {L : List Cel} (h : ∀ x ∈ L, x.key.length ≤ 4 ∧ x.sum.length ≤ 2) : (L.flatMap cellB).length ≤ 54 * L.length := by
  induction L with
  | nil => simp
  | cons x t ih =>
    have h1 := h x (by simp)
    have h2 := ih fun y hy => h y (by simp [hy])
    rw [List.flatMap_cons, List.length_append, cellB_len, List.length_cons]
    omega
/-- What stands while bytes go on: the bytes, a box, what lies below. -/
structure EB (w : World) (g : Nat) (bv : List Value) (V : World) (v : Value) (xs : List Int) : Prop where
  by_ : BytesW V w.heap.size v xs
  box : Own 44 V g bv
  bel : Below w.heap.size w V
end Go.Proofs.Ytmolfcccfekcpaa
/- A region that draws its order, walked under what cells hold: that may grow as the walk goes on. -/
namespace Go.Proofs.Ytmolfcccfekcpaa
open Go.RowKit
theorem held_grow {P : Program} {md : Region.Mode} {ops : Array Oper} {Q : Exit → Act → World → Prop} {S S' : World → Prop} (h : ∀ W, S' W → S W) :
    ∀ (fuel : Nat) (listed : Array Bool) (a : Act) (w : World), wpAnyH P md ops Q S' fuel listed a w → wpAnyH P md ops Q S fuel listed a w
  | 0, _, _, _, H => H
  | fuel + 1, _, _, _, H => ⟨H.1, fun i hi => wpOp_mono (fun a' w' h' => ⟨h _ h'.1, held_grow h fuel _ a' w' h'.2⟩) (H.2 i hi)⟩
end Go.Proofs.Ytmolfcccfekcpaa
/- Iterators over a cuboid's bytes: a field's all; slices.Collect. -/
namespace Go.Proofs.Ytmolfcccfekcpaa
open Go.RowKit Go.Shelf
attribute [local go_sem] Oper.semAt_some
/-- Number i of a field of uint8. -/
def Vu8 (at' : Nat) (xs : List Int) (i : Nat) : Int := id (beVal ((xs.drop (at' + i * 1)).take 1))
/-- Number i of a field of uint64. -/
def Vu64 (at' : Nat) (xs : List Int) (i : Nat) : Int := wrap64 (beVal ((xs.drop (at' + i * 8)).take 8))
end Go.Proofs.Ytmolfcccfekcpaa
/- slices.Collect of numbers, over an iterator that goes through all its items. -/
namespace Go.Proofs.Ytmolfcccfekcpaa
open Go.RowKit Go.Shelf
attribute [local go_sem] Oper.semAt_some
/-- One append inside a fence, by what its run comes to. -/
theorem wpListIn_append_eq {F : Fence} {n : Nat} {P : Program} {ops : Array Oper} {rest : List Oper} {o : Oper} {a : Act} {w : World} {Q : Exit → Act → World → Prop} (hgd : o.guard = none) (s x : Operand) (t : TypeId)
    (ho : o.op = Op.call { callee := Callee.builtin Builtin.append, args := #[s, x], argTypes := #[t, t] }) (v y v' : Value) (w' : World) (hs : a.eval s = v) (hx : a.eval x = y)
    (hrun : (Builtin.append_ #[t, t] o.type #[v, y]).run P w = .ok v' w') (h : wpListIn F n P ops Q rest (a.put o.dst v') w') : wpListIn F n P ops Q (o :: rest) a w := by
  refine wpListIn_plain hgd fun K hK' => ?_
  unfold Oper.wpIn
  refine ⟨?_, ?_⟩
  · simp [Oper.about, ho, resolve, Target.leads, Sem.run_pure]
  · rw [Oper.semAt_plain F _ _ (by rw [ho]; intro c hc'; cases hc')]
    simp [execOp, ho, resolve, invoke, builtin, hs, hx, hrun, Result.andThen]
    exact hK' _ _ h
/-- One number is appended to a row of the call's own. -/
theorem append_intC (wr : World) (B : Nat) (v : Value) (xs : List Int) (x : Int) (g : Nat) (hg : g = wr.heap.size) (h : wr.ownsRow B 3 1 v xs.length (ints xs)) (hn : xs.length ≤ 1000000) (hB : B ≤ wr.heap.size) :
    ∃ v' w', (Builtin.append_ #[22, 22] 22 #[v, .slice (some ⟨g, 0, none⟩) 1 1]).run Try.prog (wr.alloc (.cells #[.int .i64 x] 3)) = .ok v' w' ∧ w'.ownsRow B 3 1 v' (xs.length + 1) (ints (xs ++ [x])) ∧ (wr.alloc (.cells #[.int .i64 x] 3)).grownBy w' v.ownBlock := by
  obtain ⟨i0, hi, hz0, hz1, hz2⟩ := info_parts infoI
  obtain ⟨v', w', hrun, ho, hgr, _, _⟩ := run_append_own_at (P := Try.prog) (wr.alloc (.cells #[.int .i64 x] 3)) B 22 22 3 i0 _ 1 8 Try.underlying22 hi hz0 hz1 hz2 rfl (by omega) v xs.length (ints xs) (h.alloc _)
    ⟨g, 0, none⟩ 1 1 [.int .i64 x] rfl (fun j u hu => by
      rw [add0, hg, show (wr.alloc (.cells #[.int .i64 x] 3)).cell? ⟨wr.heap.size, j, none⟩ = #[.int .i64 x][j]? from cell_of_row _ _ _ _ 3 (0, 0) (heap_alloc_new wr _)]
      simpa using hu)
    (by intro u hu; simp at hu; subst hu; rfl) (by simp [maxLen]; omega) (by omega) (by simp; omega)
  exact ⟨v', w', hrun, by simpa [ints] using ho, hgr⟩
end Go.Proofs.Ytmolfcccfekcpaa
