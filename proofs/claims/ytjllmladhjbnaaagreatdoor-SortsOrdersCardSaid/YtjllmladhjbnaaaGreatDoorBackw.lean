/- A range over a function whose rounds lay blocks of their own ahead of the body, and know which item comes. -/
import Derived.Test.YtjllmladhjbnaaaGreatDoorRange
import Derived.Test.YtjllmladhjbnaaaGreatDoorSoA
namespace Go.Proofs.YtjllmladhjbnaaaGreatDoor
open Go.RowKit Go.Shelf
theorem range_goesX {α : Type} {F : Fence} {n : Nat} {P : Program} {g : Operand} {ps : Array Tmp} {assign body : Code} {Q : Exit → Act → World → Prop} {a : Act} {w : World}
    (hro : F.round = none) (h1 : 1 ≤ n) {gf : Nat} {lb : Array Value} (hg : a.eval g = .func (.func gf) #[] lb) (hFg : F.fn gf) (eg : ∀ args w, (callFunc gf args).run P w = .ok (.enter gf args) w)
    {encs : α → Array Value} {n₀ N : Nat} {S : List α → Prop} (R : List α → α → Prop) (I : List α → World → Prop) (hn₀ : n₀ ≤ w.heap.size) (hps : ∀ x, (encs x).size = ps.size)
    (hit : ∀ (l : Nat) (J : List α → World → Prop) (W : World), Below w.heap.size w W → (∀ pre W', J pre W' → I pre W') →
      (∀ pre x W1, J pre W1 → pre.length < N → R pre x → YieldAt F (n - 1 - 1) P l (encs x) W1 fun e W' => e = .returned (.bool true) ∧ J (pre ++ [x]) W' ∧ Below n₀ W1 W') → J [] W →
      CallsIn F (n - 1) P gf (#[.func (.yield l) #[] #[]] ++ lb) W fun e W' => (∃ v, e = .returned v) ∧ ∃ xs, S xs ∧ J xs W')
    (hI : Goes w.heap.size I) (h0 : I [] w)
    (I2 : List α → α → Act → World → Prop) (hI2 : ∀ pre x a W l o o', I2 pre x a W → w.heap.size ≤ l → W.heap[l]? = some o → o.isCells = false → I2 pre x a (W.putObj l o'))
    (hassign : ∀ (l : Nat) (pre : List α) (x : α) (W : World) (K : Act → World → Prop), I pre W → pre.length < N → R pre x → (∀ a1 W1, KeepsOthers W W1 → Below n₀ W W1 → I2 pre x a1 W1 → K a1 W1) →
      assign.wpIn (F.inRound l) (n - 1 - 1) P (Exit.then K (fun _ _ _ => False)) { tmps := (ps.zip (encs x)).foldl (fun t (p, v) => t.setIfInBounds p v) a.tmps, defers := [] } W)
    (hbody : ∀ (l : Nat) (pre : List α) (x : α) (a1 : Act) (W : World), I2 pre x a1 W → body.wpIn (F.inRound l) (n - 1 - 1) P (roundOn n₀ I (pre ++ [x]) W) a1 W)
    (hdone : ∀ (D : Nat) (xs : List α) (W : World), w.heap.size ≤ D → S xs → I xs W → W.heap[D]? = some (.deferred (some [])) → Q .normal { a with defers := { target := .collected D, args := #[] } :: a.defers } W) :
    (Code.rangeFunc g ps assign body).wpIn F n P Q a w := by
  refine wpIn_rangeFunc fun fn hfn => ?_
  rw [hro]
  obtain ⟨R', hR⟩ : ∃ R' : LoopState → Option Code → Loop, R' = fun st pe => { state := st, pending := pe, fn, tmps := a.tmps, params := ps, assign, body, defers := w.heap.size } := ⟨_, rfl⟩
  obtain ⟨W1, hW1⟩ : ∃ W1, W1 = (w.alloc (.deferred (some []))).alloc (.loop (R' .ready none)) := ⟨_, rfl⟩
  have hl : W1.heap[w.heap.size + 1]? = some (.loop (R' .ready none)) := by
    have := World.alloc_heap_new (w.alloc (.deferred (some []))) (.loop (R' .ready none))
    rw [World.size_alloc, ← hW1] at this
    exact this
  have hd : W1.heap[w.heap.size]? = some (.deferred (some [])) := by
    rw [hW1]
    exact (Below.heap_alloc _ _ _ (by simp)).trans (World.alloc_heap_new w _)
  have hB : Below w.heap.size w W1 := by
    rw [hW1]
    exact ((Below.refl _ w).alloc (Nat.le_refl _) _).alloc (by simp) _
  have hi : I [] W1 := by rw [hW1]; exact hI.new _ _ _ (hI.new _ _ _ h0)
  refine ⟨w.heap.size + 1, [{ target := .collected w.heap.size, args := #[] }], W1, { target := .fn (.func gf) lb, args := #[.func (.yield (w.heap.size + 1)) #[] #[]] }, W1, gf, #[.func (.yield (w.heap.size + 1)) #[] #[]] ++ lb, W1, ?_, ?_, ?_, ?_, fun _ => h1, ?_⟩
  · rw [hW1, hR]
    exact run_enterLoop_outer _ _ _ _ _
  · simp only [resolve, hg]
    simp [go_sem]
  · intro f' hf'
    simp [Target.leads] at hf'
    subst hf'
    exact hFg
  · simp [invoke, go_sem, eg]
  · refine (hit (w.heap.size + 1) (fun pre W => I pre W ∧ W.heap[w.heap.size + 1]? = some (.loop (R' .ready none)) ∧ W.heap[w.heap.size]? = some (.deferred (some []))) W1 hB (fun _ _ h => h.1) ?_ ⟨hi, hl, hd⟩).mono ?_
    · rintro pre x W ⟨hi, hl, hd⟩ hlen hRx
      have hlt := (Array.getElem?_eq_some_iff.1 hl).1
      have hy := run_yield (P := P) (args := encs x) hl (by rw [hR]; exact hps x)
      rw [hR] at hy
      refine ⟨fn, _, assign, body, hy, roundIn_of_wpIn hfn (hassign _ pre x W _ hi hlen hRx fun a1 W1 hk1 hb1 hi1 => ?_)⟩
      have hl1 := hk1.same _ _ hl rfl
      have hd1 := hk1.same _ _ hd rfl
      have hlt1 := (Array.getElem?_eq_some_iff.1 hl1).1
      refine ⟨_, run_beginRound hl1 (by rw [hR]), ?_⟩
      obtain ⟨L, hL⟩ : ∃ L : Loop, L = { R' .ready none with state := .busy } := ⟨_, rfl⟩
      rw [← hL]
      have h2 : (W1.putObj (w.heap.size + 1) (.loop L)).heap[w.heap.size + 1]? = some (.loop L) := World.putObj_heap_same hlt1
      have h3 : (W1.putObj (w.heap.size + 1) (.loop L)).heap[w.heap.size]? = some (.deferred (some [])) := (World.putObj_heap_other (by omega)).trans hd1
      refine wpIn_mono (hbody _ pre x _ _ (hI2 _ _ _ _ _ _ _ hi1 (by omega) hl1 rfl)) ?_
      rintro e a3 W3 hp
      cases e with
      | normal =>
        obtain ⟨hk, hb, hi3⟩ := hp
        have h4 := hk.same _ _ h2 rfl
        have h5 := hk.same _ _ h3 rfl
        have hr := run_endRound (P := P) none h4
        have e1 : ({ L with state := .ready, pending := none } : Loop) = R' .ready none := by rw [hL, hR]
        simp only [Option.isNone_none, if_true] at hr
        rw [e1] at hr
        exact ⟨_, _, hr, rfl, ⟨hI.put _ _ _ _ _ hi3 (by omega) h4 rfl, World.putObj_heap_same (Array.getElem?_eq_some_iff.1 h4).1, (World.putObj_heap_other (by omega)).trans h5⟩, (hb1.trans ((below_put _ (by omega) hl1).trans hb)).trans (below_put _ (by omega) h4)⟩
      | ret => exact hp.elim
      | exit id => exact hp.elim
      | goto t => exact hp.elim
      | panic ch => exact hp.elim
      | outgrown => exact hp.elim
    · rintro e W2 ⟨⟨v, rfl⟩, xs, hS, hi, hl, hd⟩
      have hr := run_endLoop (P := P) hl (by rw [hR]; simp)
      rw [hR] at hr
      exact ⟨none, _, hr, hdone _ xs _ (Nat.le_refl _) hS (hI.put _ _ _ _ _ hi (by omega) hl rfl) ((World.putObj_heap_other (by omega)).trans hd)⟩
end Go.Proofs.YtjllmladhjbnaaaGreatDoor
/- slices.Backward of edges: its iterator goes through all of them, from behind. -/
namespace Go.Proofs.YtjllmladhjbnaaaGreatDoor
open Go.RowKit Go.Shelf
attribute [local go_sem] Oper.semAt_some
/-- What is told when so many were. -/
def backV (es : List Ed) (m x : Nat) : Array Value := #[.int .i64 ((m : Int) - 1 - (x : Int)), eV (es.getD (m - 1 - x) zE)]
set_option maxRecDepth 100000 in
set_option maxHeartbeats 4000000 in
theorem back1_any (n : Nat) (hn : 1 ≤ n) (l pb n₀ m c : Nat) (A : Option Addr) (es : List Ed) (J : List Nat → World → Prop) (W : World)
    (hK : ∀ pre W', J pre W' → W'.cell? ⟨pb, 0, none⟩ = some (.slice A m c) ∧ Edgs W' A m es) (hm : m ≤ 1000)
    (hY : ∀ pre x W1, J pre W1 → pre.length < m → x = pre.length → YieldAt Fence.wide (n - 1) Tryz.prog l (backV es m x) W1 fun e W' => e = .returned (.bool true) ∧ J (pre ++ [x]) W' ∧ Below n₀ W1 W')
    (h0 : J [] W) :
    CallsIn Fence.wide n Tryz.prog 62 #[.func (.yield l) #[] #[], .pointer (some ⟨pb, 0, none⟩)] W fun e W' => (∃ v, e = .returned v) ∧ ∃ ys, ys = List.range m ∧ J ys W' := by
  have HK := Lib.hid hK
  obtain ⟨cb, hE⟩ := hK _ _ h0
  have hel := hE.1
  clear hE hK
  refine callsIn_of_wp Tryz.func62 rfl trivial ?_ rfl
  simp only [Tryz.ntmps62, List.size_toArray, List.length_cons, List.length_nil, Nat.reduceAdd, Nat.reduceSub, Array.replicate_succ, Array.replicate_zero, List.push_toArray, List.append_toArray, List.nil_append, List.cons_append]
  gi_wp2
  gi_loopw [3] (fun p wr => ∃ k : Nat, p = .int .i64 ((m : Int) - 1 - (k : Int)) ∧ k ≤ m ∧ J (List.range k) wr) (fun p _ => (intOf p + 1).toNat)
  case atStart => exact ⟨0, by simp, Nat.zero_le _, h0⟩
  case round =>
    obtain ⟨k, rfl, hk, hJs⟩ := hrel
    rename World => wr
    have HJs := Lib.hid hJs
    clear hJs cb
    by_cases hlt : k < m
    · obtain ⟨cb, hE⟩ := HK.out _ _ HJs.out
      obtain ⟨j, hj⟩ : ∃ j : Nat, j = m - 1 - k := ⟨_, rfl⟩
      have hjz : (m : Int) - 1 - (k : Int) = (j : Int) := by omega
      obtain ⟨e, he⟩ : ∃ e, es[j]? = some e := ⟨_, List.getElem?_eq_getElem (by omega)⟩
      obtain ⟨g, o, rfl, hcs⟩ := hE.2.2 (by omega)
      obtain ⟨z0, z1, z2⟩ := hcs j e he
      obtain ⟨fn, tmps, assign, body, hy, hR⟩ := hY (List.range k) k wr HJs.out (by simpa using hlt) (by simp)
      have hbv : backV es m k = #[.int .i64 (j : Int), .agg #[.int .i64 e.s, .int .i64 e.p, .bool e.sc]] := by
        unfold backV
        rw [hjz, ← hj, List.getD_eq_getElem?_getD, he]; rfl
      rw [hbv] at hy
      have j0 : (0 : Int) ≤ (j : Int) := by omega
      have j1 : (j : Int) < (m : Int) := by omega
      have HJZ := Lib.hid hjz
      rw [hjz]
      clear hcs hE he hj hjz hbv hel
      gi_wp2
      refine hR.mono ?_
      rintro e W3 ⟨rfl, hJ3, hb3⟩
      have HJ3 := Lib.hid hJ3
      clear hJ3 hb3
      gi_wp2
      go_roundw
      case rel =>
        have := HJZ.out
        have e : (j : Int) - 1 = (m : Int) - 1 - ((k + 1 : Nat) : Int) := by push_cast; omega
        exact ⟨k + 1, by rw [e], by omega, by rw [List.range_succ]; exact HJ3.out⟩
      case measure => simp [intOf]
    · obtain rfl : k = m := by omega
      have hneg : ¬ (0 : Int) ≤ (k : Int) - 1 - (k : Int) := by omega
      have hnd : decide ((0 : Int) ≤ (k : Int) - 1 - (k : Int)) = false := by simp; omega
      gi_wp2
      go_end0
      exact ⟨⟨_, rfl⟩, HJs.out⟩
set_option maxHeartbeats 1000000 in
theorem backward_any (A : Option Addr) (m c : Nat) (w : World) :
    Calls Tryz.prog 33 #[.slice A m c] w fun e w' => e = .returned (.func (.func 62) #[] #[.pointer (some ⟨w.heap.size, 0, none⟩)]) ∧ w' = w.alloc (.cells #[.slice A m c] 30) := by
  go_enter Tryz.func33, Tryz.ntmps33
  go_wp2
  go_ret
  exact ⟨rfl, rfl⟩
end Go.Proofs.YtjllmladhjbnaaaGreatDoor
