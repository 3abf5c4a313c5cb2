/- A range over a function whose rounds and whose iterator each write blocks of their own. -/
import Derived.RangeFuncNested
import Derived.RangeFuncBound
import Derived.RangeFuncCalls
import Derived.RangeFuncLeaves
import Derived.RangeFuncBox
import Derived.Shelf.Abstract
import Derived.Shelf.RegionOpen
import Derived.OwnWalkIn
import Derived.TacticsInMore
import Derived.LoopNIn
import Derived.LoopIn
import Derived.Maps.AppendAt
import Derived.Test.YtmolfcccfekcpaaCelj
namespace Go.Proofs.Ytmolfcccfekcpaa
open Go.RowKit Go.Shelf
theorem tch_put {M : Nat → Prop} {W : World} {l : Nat} (o : Obj) (hM : M l) : Tch M W (W.putObj l o) :=
  ⟨rfl, rfl, rfl, by simp [World.putObj], fun k _ hk => World.putObj_heap_other fun e => hk (e ▸ hM)⟩
/-- How a round may end: it goes on. -/
def roundS {β : Type} (I : β → World → Prop) : Exit → Act → World → Prop
  | .normal, _, W' => ∃ s, I s W'
  | _, _, _ => False
theorem range_st {α σ : Type} {F : Fence} {n : Nat} {P : Program} {g : Operand} {ps : Array Tmp} {assign body : Code} {Q : Exit → Act → World → Prop} {a : Act} {w : World}
    (hro : F.round = none) (h1 : 1 ≤ n) {gf : Nat} {lb : Array Value} (hg : a.eval g = .func (.func gf) #[] lb) (hFg : F.fn gf) (eg : ∀ args w, (callFunc gf args).run P w = .ok (.enter gf args) w)
    {encs : α → Array Value} {S : List α → σ → Prop} (hps : ∀ x, (encs x).size = ps.size)
    (I : List α → σ → World → Prop) (Rx : List α → α → σ → World → Prop) (tc : α → σ → Nat → Prop) (ok : σ → Nat → Prop) (s0 : σ) (a₁ : α → World → Act) (wa : α → World → World)
    (hit : ∀ (J : List α → σ → World → Prop) (W : World), Below w.heap.size w W → W.heap.size = w.heap.size + 2 → (∀ pre s A, J pre s A → I pre s A ∧ w.heap.size + 2 ≤ A.heap.size) → (∀ pre s A B M, J pre s A → Tch M A B → (∀ k, M k → ok s k) → J pre s B) →
      (∀ pre s x W1, J pre s W1 → Rx pre x s W1 → YieldAt F (n - 1 - 1) P (w.heap.size + 1) (encs x) W1 fun e W' => e = .returned (.bool true) ∧ ∃ s', J (pre ++ [x]) s' W' ∧ Tch (tc x s) W1 W' ∧ ∀ k, k < W1.heap.size → ok s k → ¬ tc x s k → ok s' k) → J [] s0 W →
      CallsIn F (n - 1) P gf (#[.func (.yield (w.heap.size + 1)) #[] #[]] ++ lb) W fun e W' => (∃ v, e = .returned v) ∧ ∃ xs s, S xs s ∧ J xs s W')
    (hI : ∀ pre s A B M, I pre s A → Tch M A B → (∀ k, M k → ok s k ∨ ((k = w.heap.size ∨ k = w.heap.size + 1) ∧ ∃ o, A.heap[k]? = some o ∧ o.isCells = false)) → I pre s B)
    (hok : ∀ s k, ok s k → w.heap.size + 2 ≤ k)
    (htc : ∀ pre s x W r d, I pre s W → Rx pre x s W → W.heap[w.heap.size]? = some (.deferred d) → W.heap[w.heap.size + 1]? = some (.loop r) → ∀ k, tc x s k → k ≠ w.heap.size ∧ k ≠ w.heap.size + 1)
    (h0 : I [] s0 w)
    (hwa : ∀ x W, Below W.heap.size W (wa x W))
    (hassign : ∀ (pre : List α) (s : σ) (x : α) (W : World) (K : Act → World → Prop), I pre s W → Rx pre x s W → K (a₁ x W) (wa x W) →
      assign.wpIn (F.inRound (w.heap.size + 1)) (n - 1 - 1) P (Exit.then K (fun _ _ _ => False)) { tmps := (ps.zip (encs x)).foldl (fun t (p, v) => t.setIfInBounds p v) a.tmps, defers := [] } W)
    (hbody : ∀ (pre : List α) (s : σ) (x : α) (W Wb : World), I pre s W → Rx pre x s W → w.heap.size + 2 ≤ W.heap.size → (∃ r, W.heap[w.heap.size + 1]? = some (.loop r)) → Tch (fun k => k = w.heap.size + 1) (wa x W) Wb →
      body.wpIn (F.inRound (w.heap.size + 1)) (n - 1 - 1) P (roundS fun s' W3 => I (pre ++ [x]) s' W3 ∧ Tch (tc x s) Wb W3 ∧ ∀ k, k < W.heap.size → ok s k → ¬ tc x s k → ok s' k) (a₁ x W) Wb)
    (hdone : ∀ (xs : List α) (s : σ) (W : World), S xs s → I xs s W → W.heap[w.heap.size]? = some (.deferred (some [])) → Q .normal { a with defers := { target := .collected w.heap.size, args := #[] } :: a.defers } W) :
    (Code.rangeFunc g ps assign body).wpIn F n P Q a w := by
  refine wpIn_rangeFunc fun fn hfn => ?_
  rw [hro]
  obtain ⟨R, hR⟩ : ∃ R : LoopState → Option Code → Loop, R = fun st pe => { state := st, pending := pe, fn, tmps := a.tmps, params := ps, assign, body, defers := w.heap.size } := ⟨_, rfl⟩
  obtain ⟨W1, hW1⟩ : ∃ W1, W1 = (w.alloc (.deferred (some []))).alloc (.loop (R .ready none)) := ⟨_, rfl⟩
  have hl : W1.heap[w.heap.size + 1]? = some (.loop (R .ready none)) := by
    have := World.alloc_heap_new (w.alloc (.deferred (some []))) (.loop (R .ready none))
    rw [World.size_alloc, ← hW1] at this
    exact this
  have hd : W1.heap[w.heap.size]? = some (.deferred (some [])) := by
    rw [hW1]
    exact (Below.heap_alloc _ _ _ (by simp)).trans (World.alloc_heap_new w _)
  have hB : Below w.heap.size w W1 := by
    rw [hW1]
    exact ((Below.refl _ w).alloc (Nat.le_refl _) _).alloc (by simp) _
  have hsz : W1.heap.size = w.heap.size + 2 := by rw [hW1]; simp
  have hi : I [] s0 W1 := hI _ _ _ _ (fun _ => False) h0 (Tch.of_below _ hB) fun k hk => hk.elim
  refine ⟨w.heap.size + 1, [{ target := .collected w.heap.size, args := #[] }], W1, { target := .fn (.func gf) lb, args := #[.func (.yield (w.heap.size + 1)) #[] #[]] }, W1, gf, #[.func (.yield (w.heap.size + 1)) #[] #[]] ++ lb, W1, ?_, ?_, ?_, ?_, fun _ => h1, ?_⟩
  · rw [hW1, hR]
    exact run_enterLoop_outer _ _ _ _ _
  · simp only [resolve, hg]
    simp [go_sem]
  · intro f' hf'
    simp [Target.leads] at hf'
    subst hf'
    exact hFg
  · simp [invoke, go_sem, eg]
  · refine (hit (fun pre s W => I pre s W ∧ W.heap[w.heap.size + 1]? = some (.loop (R .ready none)) ∧ W.heap[w.heap.size]? = some (.deferred (some []))) W1 hB hsz (fun _ _ _ h => ⟨h.1, by have := (Array.getElem?_eq_some_iff.1 h.2.1).1; omega⟩) ?_ ?_ ⟨hi, hl, hd⟩).mono ?_
    · rintro pre s A B M ⟨hi, hl, hd⟩ ht hM
      refine ⟨hI _ _ _ _ M hi ht fun k hk => .inl (hM k hk), (ht.block _ (Array.getElem?_eq_some_iff.1 hl).1 fun hk => ?_).trans hl, (ht.block _ (Array.getElem?_eq_some_iff.1 hd).1 fun hk => ?_).trans hd⟩
      · have := hok s _ (hM _ hk); omega
      · have := hok s _ (hM _ hk); omega
    · rintro pre s x W ⟨hi, hl, hd⟩ hx
      have hlt := (Array.getElem?_eq_some_iff.1 hl).1
      have hy := run_yield (P := P) (args := encs x) hl (by rw [hR]; exact hps x)
      rw [hR] at hy
      have hbw := hwa x W
      have hlA : (wa x W).heap[w.heap.size + 1]? = some (.loop (R .ready none)) := (hbw.block _ hlt).trans hl
      have hdA : (wa x W).heap[w.heap.size]? = some (.deferred (some [])) := (hbw.block _ (by omega)).trans hd
      have hltA := (Array.getElem?_eq_some_iff.1 hlA).1
      refine ⟨fn, _, assign, body, hy, roundIn_of_wpIn hfn (hassign pre s x W _ hi hx ⟨_, run_beginRound hlA (by rw [hR]), ?_⟩)⟩
      obtain ⟨L, hL⟩ : ∃ L : Loop, L = { R .ready none with state := .busy } := ⟨_, rfl⟩
      rw [← hL]
      have h2 : ((wa x W).putObj (w.heap.size + 1) (.loop L)).heap[w.heap.size + 1]? = some (.loop L) := World.putObj_heap_same hltA
      have h3 : ((wa x W).putObj (w.heap.size + 1) (.loop L)).heap[w.heap.size]? = some (.deferred (some [])) := (World.putObj_heap_other (by omega)).trans hdA
      have hT := tch_put (M := fun k => k = w.heap.size + 1) (W := wa x W) (.loop L) rfl
      have htc' := htc pre s x W _ _ hi hx hd hl
      refine wpIn_mono (hbody pre s x W _ hi hx (by omega) ⟨_, hl⟩ hT) ?_
      rintro e a3 W3 hp
      cases e with
      | normal =>
        obtain ⟨s', hi3, ht3, ho3⟩ := hp
        have h4 := (ht3.block _ (Array.getElem?_eq_some_iff.1 h2).1 fun hk => (htc' _ hk).2 rfl).trans h2
        have h5 := (ht3.block _ (Array.getElem?_eq_some_iff.1 h3).1 fun hk => (htc' _ hk).1 rfl).trans h3
        have hr := run_endRound (P := P) none h4
        have e1 : ({ L with state := .ready, pending := none } : Loop) = R .ready none := by rw [hL, hR]
        simp only [Option.isNone_none, if_true] at hr
        rw [e1] at hr
        have hlt4 := (Array.getElem?_eq_some_iff.1 h4).1
        have hl5 : (W3.putObj (w.heap.size + 1) (.loop (R .ready none))).heap[w.heap.size + 1]? = some (.loop (R .ready none)) := World.putObj_heap_same hlt4
        have hT2 := tch_put (M := fun k => k = w.heap.size + 1) (W := W3) (.loop (R .ready none)) rfl
        refine ⟨_, _, hr, rfl, s', ⟨hI _ _ _ _ _ hi3 hT2 fun k hk => .inr ⟨.inr hk, _, hk ▸ h4, rfl⟩, hl5, (World.putObj_heap_other (by omega)).trans h5⟩, ?_, ho3⟩
        have hsA := hbw.size
        have hsT := hT.size
        have hs3 := ht3.size
        have hsT2 := hT2.size
        refine ⟨hT2.os.trans (ht3.os.trans (hT.os.trans hbw.os)), hT2.tape.trans (ht3.tape.trans (hT.tape.trans hbw.tape)), hT2.output.trans (ht3.output.trans (hT.output.trans hbw.output)), by omega, fun k hk hn => ?_⟩
        by_cases hkl : k = w.heap.size + 1
        · rw [hkl]; exact hl5.trans hl.symm
        · exact (hT2.block k (by omega) hkl).trans ((ht3.block k (by omega) hn).trans ((hT.block k (by omega) hkl).trans (hbw.block k hk)))
      | ret => exact hp.elim
      | exit id => exact hp.elim
      | goto t => exact hp.elim
      | panic ch => exact hp.elim
      | outgrown => exact hp.elim
    · rintro e W2 ⟨⟨v, rfl⟩, xs, s, hS, hi, hl, hd⟩
      have hr := run_endLoop (P := P) hl (by rw [hR]; simp)
      rw [hR] at hr
      have hlt := (Array.getElem?_eq_some_iff.1 hl).1
      refine ⟨none, _, hr, hdone xs s _ hS (hI _ _ _ _ (fun k => k = w.heap.size + 1) hi (tch_put _ rfl) fun k hk => .inr ⟨.inr hk, _, hk ▸ hl, rfl⟩) ((World.putObj_heap_other (by omega)).trans hd)⟩
end Go.Proofs.Ytmolfcccfekcpaa
