/- Package match's small functions: sets of columns; whether costs may be. -/
import Derived.Lib.QuoteBits
import Derived.Shelf.Abstract
import Derived.IntWalk
import Derived.RangeFuncNested
import Derived.RangeFuncBound
import Derived.RangeFuncCalls
import Derived.RangeFuncLeaves
import Derived.RangeFuncBox
import Derived.Shelf.RegionOpen
import Derived.OwnWalkIn
import Derived.TacticsInMore
import Derived.LoopNIn
import Derived.LoopIn
import Derived.WalkMore
import Derived.Test.YtjllmladhjbnaaaDoorPop
import Derived.Test.YtjllmladhjbnaaaDoorInts
import Derived.Test.YtjllmladhjbnaaaDoorRegN
import Derived.Test.YtjllmladhjbnaaaDoorIsRow
import Derived.Test.YtjllmladhjbnaaaDoorRegP
namespace Go.Proofs.YtjllmladhjbnaaaDoor
open Go.RowKit Go.Shelf
attribute [local go_sem] Oper.semAt_some
theorem and_nat (a b : Nat) (ha : a < 9223372036854775808) (hb : b < 9223372036854775808) : bits .and .i64 (a : Int) (b : Int) = ((a &&& b : Nat) : Int) := by
  show IntKind.i64.wrap ((BitVec.ofInt 64 (a : Int) &&& BitVec.ofInt 64 (b : Int)).toNat : Int) = _
  rw [BitVec.toNat_and, ofInt_u64 a (by omega), ofInt_u64 b (by omega)]
  exact Lib.wrap_i64_small _ (Nat.lt_of_le_of_lt Nat.and_le_left ha)
theorem or_nat (a b : Nat) (ha : a < 4611686018427387904) (hb : b < 4611686018427387904) : bits .or .i64 (a : Int) (b : Int) = ((a ||| b : Nat) : Int) := by
  show IntKind.i64.wrap ((BitVec.ofInt 64 (a : Int) ||| BitVec.ofInt 64 (b : Int)).toNat : Int) = _
  rw [BitVec.toNat_or, ofInt_u64 a (by omega), ofInt_u64 b (by omega)]
  exact Lib.wrap_i64_small _ (by have := Nat.or_lt_two_pow (n := 62) (x := a) (y := b) (by omega) (by omega); omega)
theorem and_pow (s k : Nat) : (s &&& 2 ^ k) = if s.testBit k then 2 ^ k else 0 := by
  apply Nat.eq_of_testBit_eq
  intro i
  rw [Nat.testBit_and, Nat.testBit_two_pow]
  by_cases h : k = i
  · subst h; cases s.testBit k <;> simp
  · simp [h]; split <;> simp [h]
theorem pow_wrap (k : Nat) (hk : k < 62) : wrap64 (2 ^ k) = ((2 ^ k : Nat) : Int) := by
  have h : 2 ^ k < 2 ^ 62 := Nat.pow_lt_pow_right (by omega) hk
  have e : ((2 ^ k : Nat) : Int) = (2 : Int) ^ k := by push_cast; rfl
  have g := Lib.wrap_i64_small (2 ^ k) (by omega)
  rw [← e]
  exact (Go.IntWalk.i64_left _).symm.trans g
theorem pow_le12 (k : Nat) (hk : k < 14) : 2 ^ k ≤ 8192 := by
  have : 2 ^ k ≤ 2 ^ 13 := Nat.pow_le_pow_right (by omega) (by omega)
  omega
theorem u64_small (s : Nat) (h : s < 1000000) : IntKind.u64.wrap (s : Int) = s := by
  simp only [IntKind.wrap, IntKind.bits, IntKind.signed]
  simp
  omega
/-- A slice of rows of numbers, that reads as M. -/
def Mat (w : World) (A : Option Addr) (n : Nat) (M : List (List Int)) : Prop :=
  M.length = n ∧ (0 < n → ∃ ad, A = some ad ∧ ∀ (j : Nat) (r : List Int), M[j]? = some r → ∃ B c, w.cell? (ad.add j) = some (.slice B r.length c) ∧ Nums .i64 w B r.length r)
theorem Mat.keep {w w' : World} {A : Option Addr} {n : Nat} {M : List (List Int)} (h : Mat w A n M) (hk : Keeps w w') : Mat w' A n M :=
  ⟨h.1, fun hn => by obtain ⟨ad, ha, hc⟩ := h.2 hn; exact ⟨ad, ha, fun j r hr => by obtain ⟨B, c, h1, h2⟩ := hc j r hr; exact ⟨B, c, hk _ _ h1, h2.keep hk⟩⟩⟩
theorem Mat.at_ {w : World} {A : Option Addr} {n : Nat} {M : List (List Int)} (h : Mat w A n M) {k : Nat} (hk : k < n) :
    ∃ ad r B c, A = some ad ∧ M[k]? = some r ∧ w.cell? (ad.add k) = some (.slice B r.length c) ∧ Nums .i64 w B r.length r := by
  obtain ⟨hl, hc⟩ := h
  obtain ⟨ad, ha, hc⟩ := hc (by omega)
  have hx : M[k]? = some M[k] := List.getElem?_eq_getElem (by omega)
  obtain ⟨B, c, h1, h2⟩ := hc _ _ hx
  exact ⟨ad, M[k], B, c, ha, hx, h1, h2⟩
/-- How many columns the first row has. -/
def wid (M : List (List Int)) : Nat := (M[0]?.getD []).length
theorem wid_cons (r : List Int) (M : List (List Int)) : wid (r :: M) = r.length := rfl
end Go.Proofs.YtjllmladhjbnaaaDoor
/- Package match's proper: may costs be? -/
namespace Go.Proofs.YtjllmladhjbnaaaDoor
open Go.RowKit Go.Shelf
attribute [local go_sem] Oper.semAt_some
def okC (c : Int) : Bool := decide (0 ≤ c) && decide (c ≤ 1000000)
theorem all_take_snoc {α : Type} {p : α → Bool} {l : List α} {k : Nat} {x : α} (h : l[k]? = some x) : (l.take (k + 1)).all p = ((l.take k).all p && p x) := by
  rw [List.take_add_one, h, List.all_append]
  simp
theorem all_at_false {α : Type} {p : α → Bool} {l : List α} {k : Nat} {x : α} (h : l[k]? = some x) (hp : p x = false) : l.all p = false := by
  rw [List.all_eq_false]
  exact ⟨x, List.mem_of_getElem? h, by simp [hp]⟩
def okRow (m : Nat) (r : List Int) : Bool := decide (r.length = m) && r.all okC
/-- Costs that may be. -/
def okM (M : List (List Int)) : Bool := decide (wid M ≤ 12) && (decide (M.length ≤ wid M) && M.all (okRow (wid M)))
end Go.Proofs.YtjllmladhjbnaaaDoor
/- Package match's offers: the free columns, rising, each with what it comes to. -/
namespace Go.Proofs.YtjllmladhjbnaaaDoor
open Go.RowKit Go.Shelf
attribute [local go_sem] Oper.semAt_some
/-- A free column. -/
abbrev Fr (m s : Nat) := { k : Nat // k ∈ free m s }
/-- What column k comes to. -/
def valK (row : List Int) (V : Nat → Int) (k : Nat) : Int := cst row k + V k
theorem free_succ (m s : Nat) : free (m + 1) s = if s.testBit m then free m s else free m s ++ [m] := by
  unfold free
  rw [List.range_succ, List.filter_append, List.filter_cons, List.filter_nil]
  cases s.testBit m <;> simp
theorem free_le (m s : Nat) : (free m s).length ≤ m := by
  unfold free
  exact Nat.le_trans (List.length_filter_le _ _) (by simp)
theorem free_mono {a b s : Nat} (h : a ≤ b) : (free a s).length ≤ (free b s).length := by
  induction h with
  | refl => exact Nat.le_refl _
  | step _ ih =>
    rename_i n h
    rw [free_succ]
    split
    · exact ih
    · rw [List.length_append]; omega
/-- The boxes of offers: what they hold. -/
structure Off (w : World) (b1 b2 b3 G N m s : Nat) (row : List Int) (V : Nat → Int) : Prop where
  row : ∃ R cr, w.cell? ⟨b1, 0, none⟩ = some (.slice R m cr) ∧ Nums .i64 w R m row
  set : w.cell? ⟨b2, 0, none⟩ = some (.int .i64 s)
  rest : w.cell? ⟨b3, 0, none⟩ = some (.slice (some ⟨G, 0, none⟩) N N)
  val : ∀ k ∈ free m s, s ||| 2 ^ k < N ∧ w.cell? ⟨G, s ||| 2 ^ k, none⟩ = some (.int .i64 (V k)) ∧ 0 ≤ V k ∧ V k ≤ 12000000
theorem Off.keep {w w' : World} {b1 b2 b3 G N m s : Nat} {row : List Int} {V : Nat → Int} (h : Off w b1 b2 b3 G N m s row V) (hk : Keeps w w') : Off w' b1 b2 b3 G N m s row V :=
  ⟨by obtain ⟨R, cr, h1, h2⟩ := h.row; exact ⟨R, cr, hk _ _ h1, h2.keep hk⟩, hk _ _ h.set, hk _ _ h.rest, fun k hk' => by obtain ⟨a, b, c⟩ := h.val k hk'; exact ⟨a, hk _ _ b, c⟩⟩
theorem grown_drew (W : World) : W.grownBy W.drew none := ⟨rfl, rfl, rfl, Nat.le_refl _, fun _ _ _ => rfl⟩
end Go.Proofs.YtjllmladhjbnaaaDoor
/- Package match's restsOf. -/
namespace Go.Proofs.YtjllmladhjbnaaaDoor
open Go.RowKit Go.Shelf
attribute [local go_sem] Oper.semAt_some
/-- What is filled from t on. -/
def fillL (M : List (List Int)) (N t : Nat) : List Int := (List.range N).map fun s => if s < t then 0 else restV M s
theorem fillL_len (M : List (List Int)) (N t : Nat) : (fillL M N t).length = N := by simp [fillL]
theorem fillL_at (M : List (List Int)) {N t s : Nat} (h : s < N) (ht : t ≤ s) : (fillL M N t)[s]? = some (restV M s) := by
  unfold fillL
  rw [List.getElem?_map, List.getElem?_range h]
  simp; omega
theorem fillL_set (M : List (List Int)) {N s : Nat} : (fillL M N (s + 1)).set s (restV M s) = fillL M N s := by
  apply List.ext_getElem
  · simp [fillL]
  · intro i h1 h2
    simp only [fillL, List.getElem_set, List.getElem_map, List.getElem_range]
    by_cases h : s = i
    · subst h; simp
    · by_cases h3 : i < s
      · rw [if_neg h, if_pos (by omega), if_pos h3]
      · rw [if_neg h, if_neg (by omega), if_neg h3]
theorem fillL_skip (M : List (List Int)) {N s : Nat} (h : restV M s = 0) : fillL M N (s + 1) = fillL M N s := by
  unfold fillL
  apply List.map_congr_left
  intro i _
  by_cases h1 : i < s
  · rw [if_pos (by omega), if_pos h1]
  · by_cases h2 : i = s
    · subst h2; rw [if_pos (by omega), if_neg (by omega), h]
    · rw [if_neg (by omega), if_neg h1]
theorem fillL_all (M : List (List Int)) (N : Nat) : fillL M N N = List.replicate N 0 := by
  apply List.ext_getElem
  · simp [fillL]
  · intro i h1 h2
    simp only [fillL, List.getElem_map, List.getElem_range, List.getElem_replicate]
    rw [if_pos (by simpa [fillL] using h1)]
theorem fillL_zero (M : List (List Int)) {N t s : Nat} (h : s < N) (ht : s < t) : (fillL M N t)[s]? = some 0 := by
  unfold fillL
  rw [List.getElem?_map, List.getElem?_range h]
  simp; omega
theorem box3 (w : World) (t1 t2 t3 : TypeId) (v1 v2 v3 : Value) : (((w.alloc (.cells #[v1] t1)).alloc (.cells #[v2] t2)).alloc (.cells #[v3] t3)).cell? ⟨w.heap.size, 0, none⟩ = some v1 ∧
    (((w.alloc (.cells #[v1] t1)).alloc (.cells #[v2] t2)).alloc (.cells #[v3] t3)).cell? ⟨w.heap.size + 1, 0, none⟩ = some v2 ∧ (((w.alloc (.cells #[v1] t1)).alloc (.cells #[v2] t2)).alloc (.cells #[v3] t3)).cell? ⟨w.heap.size + 2, 0, none⟩ = some v3 := by
  refine ⟨(((Boxed.new w t1 v1).alloc _).alloc _).cell, ?_, ?_⟩
  · have := ((Boxed.new (w.alloc (.cells #[v1] t1)) t2 v2).alloc (.cells #[v3] t3)).cell
    rwa [World.size_alloc] at this
  · have := (Boxed.new ((w.alloc (.cells #[v1] t1)).alloc (.cells #[v2] t2)) t3 v3).cell
    rwa [World.size_alloc, World.size_alloc] at this
/-- The rests of all sets of columns. -/
def restL (M : List (List Int)) : List Int := fillL M (2 ^ wid M) 0
/-- Costs that may be, as numbers. -/
theorem okM_spec {M : List (List Int)} (h : okM M = true) : wid M ≤ 12 ∧ M.length ≤ wid M ∧ ∀ r ∈ M, r.length = wid M ∧ ∀ x ∈ r, 0 ≤ x ∧ x ≤ 1000000 := by
  unfold okM at h
  simp only [Bool.and_eq_true, decide_eq_true_eq, List.all_eq_true] at h
  obtain ⟨h1, h2, h3⟩ := h
  refine ⟨h1, h2, fun r hr => ?_⟩
  have := h3 r hr
  unfold okRow at this
  simp only [Bool.and_eq_true, decide_eq_true_eq, List.all_eq_true] at this
  refine ⟨this.1, fun x hx => ?_⟩
  have := this.2 x hx
  unfold okC at this
  simpa using this
theorem or_gt {s k m : Nat} (h : k ∈ free m s) (hs : s < 2 ^ m) : s < s ||| 2 ^ k ∧ s ||| 2 ^ k < 2 ^ m := by
  obtain ⟨h1, h2⟩ := mem_free.1 h
  refine ⟨?_, Nat.or_lt_two_pow hs (Nat.pow_lt_pow_right (by omega) h1)⟩
  have a : s ≤ s ||| 2 ^ k := Nat.left_le_or
  have b : s ≠ s ||| 2 ^ k := fun e => by
    have := or_bit s k k
    rw [← e, h2] at this
    simp at this
  omega
theorem pcN_le (s : Nat) : pcN s ≤ 12 := by
  unfold pcN
  exact Nat.le_trans List.countP_le_length (by simp)
end Go.Proofs.YtjllmladhjbnaaaDoor
/- Package match's first: the first of the least choices. -/
namespace Go.Proofs.YtjllmladhjbnaaaDoor
open Go.RowKit Go.Shelf
attribute [local go_sem] Oper.semAt_some
theorem below_put9 {n₀ l : Nat} {W : World} {o : Obj} (o' : Obj) (hl : n₀ ≤ l) (h : W.heap[l]? = some o) : Below n₀ W (W.putObj l o') :=
  (Below.refl n₀ W).grown (grownBy_putObj' W l o') (by have := (Array.getElem?_eq_some_iff.1 h).1; omega) (fun k e => by cases e; omega)
/-- Rounds' deferred calls: none in each. -/
def mkD (r : Nat) : Deferred := { target := .collected r, args := #[] }
theorem leaves_many {F : Fence} {n : Nat} {P : Program} {fn : Func} {tmps : Array Value} {R : Ending → World → Prop} {B : Nat} : ∀ (rs : List Nat) (W : World), rs.Nodup → (∀ r ∈ rs, B ≤ r ∧ W.heap[r]? = some (.deferred (some []))) →
    (∀ W', Below B W W' → (∀ (k : Nat) (o : Obj), W.heap[k]? = some o → o.isCells = true → W'.heap[k]? = some o) → LeavesIn F n P fn tmps R [] .returning W') → LeavesInM F n P fn tmps R (rs.map mkD) .returning W
  | [], W, _, _, h => h W (Below.refl _ _) (fun _ _ h _ => h)
  | r :: rs, W, hn, hr, h => by
    obtain ⟨hB, hd⟩ := hr r (List.mem_cons_self ..)
    rw [List.nodup_cons] at hn
    refine ⟨by simp, .inl ⟨r, _, rfl, run_takeDeferred hd, ?_⟩⟩
    have hb := below_put9 (n₀ := B) (.deferred none) hB hd
    refine leaves_many rs _ hn.2 (fun x hx => ⟨(hr x (List.mem_cons_of_mem _ hx)).1, (World.putObj_heap_other (fun e => hn.1 (by rw [← e]; exact hx))).trans (hr x (List.mem_cons_of_mem _ hx)).2⟩) (fun W' hb' hk => h W' (hb.trans hb') (fun k o ho hc => ?_))
    refine hk k o ((World.putObj_heap_other (fun e => ?_)).trans ho) hc
    rw [e] at ho
    rw [hd] at ho
    injection ho with ho
    rw [← ho] at hc
    cases hc
section
variable {F : Fence} {n : Nat} {P : Program} {Q : Exit → Act → World → Prop} {a : Act} {w : World}
theorem stepR_scope {b : Frame} {k : List Item} {cs : List Frame} {c : Code} : step P (lone (b.atR a (.code (.scope c) :: k)) cs w) = .next (lone (b.atR a (.code c :: .inScope c :: k)) cs w) :=
  step_lone_go (by simp [stepG, stepG.exec, Frame.atR])
theorem stepR_inScope {b : Frame} {k : List Item} {cs : List Frame} {c : Code} : step P (lone (b.atR a (.inScope c :: k)) cs w) = .next (lone (b.atR a k) cs w) :=
  step_lone_go (by simp [stepG, stepG.exec, Frame.atR])
/-- A scope, inside a fence, through which the run goes without a goto. -/
theorem wpIn_scope_straight {c : Code} (h : c.wpIn F n P (Exit.noGoto Q) a w) : (Code.scope c).wpIn F n P Q a w := by
  intro b k cs hro hb hr
  have h0 : (lone (b.atR a (.code (.scope c) :: k)) cs w).fenced P F := fenced_calm hb hr rfl
  obtain ⟨e, a₁, w₁, hq, harr⟩ := h b (.inScope c :: k) cs hro hb hr
  cases e with
  | normal => exact ⟨.normal, a₁, w₁, hq, .head h0 stepR_scope (StepsIn.trans harr (.one (fenced_calm hb hr rfl) stepR_inScope))⟩
  | exit id =>
    have hx : exitTo id (.inScope c :: k) = exitTo id k := by simp [exitTo]
    exact ⟨.exit id, a₁, w₁, hq, fun k' hk => .head h0 stepR_scope (harr.1 k' (by rw [hx]; exact hk)),
      fun hr' hk => let ⟨k₁, h1, h2⟩ := harr.2 hr' (by rw [hx]; exact hk); ⟨k₁, h1, .head h0 stepR_scope h2⟩⟩
  | goto l => exact hq.elim
  | ret => exact ⟨_, a₁, w₁, hq, .of_steps (.one h0 stepR_scope) harr⟩
  | panic ch => exact ⟨_, a₁, w₁, hq, .of_steps (.one h0 stepR_scope) harr⟩
  | outgrown => exact ⟨_, a₁, w₁, hq, .of_steps (.one h0 stepR_scope) harr⟩
end
theorem cast_map (T : List Nat) (x : Nat) : ((T ++ [x]).map fun (k : Nat) => (k : Int)) = (T.map fun (k : Nat) => (k : Int)) ++ [(x : Int)] := by simp
theorem OI.keepC {B : Nat} {w w' : World} {v : Value} {xs : List Int} (h : OI B w v xs) (hk : ∀ (k : Nat) (o : Obj), w.heap[k]? = some o → o.isCells = true → w'.heap[k]? = some o) : OI B w' v xs := by
  refine ⟨own_stay h.1 fun k hkk => ?_, h.2⟩
  rcases h.1.2 with ⟨rfl, _⟩ | ⟨g, cap, cur, rfl, hg, hh, hr⟩
  · cases hkk
  · obtain rfl : g = k := by simpa [Value.ownBlock] using hkk
    exact (hk _ _ hh rfl).trans hh.symm
theorem OI.other {B g i : Nat} {w : World} {v : Value} {xs : List Int} (h : OI B w v xs) (u : Value) (hne : v.ownBlock ≠ some g) : OI B (w.setCell ⟨g, i, none⟩ u) v xs :=
  ⟨own_stay h.1 fun k hk => Below.heap_setCell _ _ _ _ fun e => hne (by rw [hk, e]), h.2⟩
/-- One number is appended to a row of the call's own. -/
theorem append_intC (wr : World) (B : Nat) (v : Value) (xs : List Int) (x : Int) (h : wr.ownsRow B 3 1 v xs.length (ints xs)) (hn : xs.length ≤ 1000000) (hB : B ≤ wr.heap.size) :
    ∃ v' w', (Builtin.append_ #[22, 22] 22 #[v, .slice (some ⟨wr.heap.size, 0, none⟩) 1 1]).run Tryd.prog (wr.alloc (.cells #[.int .i64 x] 3)) = .ok v' w' ∧ w'.ownsRow B 3 1 v' (xs.length + 1) (ints (xs ++ [x])) ∧ (wr.alloc (.cells #[.int .i64 x] 3)).grownBy w' v.ownBlock := by
  obtain ⟨i0, hi, hz0, hz1, hz2⟩ := info_parts infoI
  obtain ⟨v', w', hrun, ho, hgr, _, _⟩ := run_append_own_at (P := Tryd.prog) (wr.alloc (.cells #[.int .i64 x] 3)) B 22 22 3 i0 _ 1 8 Tryd.underlying22 hi hz0 hz1 hz2 rfl (by omega) v xs.length (ints xs) (h.alloc _)
    ⟨wr.heap.size, 0, none⟩ 1 1 [.int .i64 x] rfl (fun j u hu => by
      rw [add0, show (wr.alloc (.cells #[.int .i64 x] 3)).cell? ⟨wr.heap.size, j, none⟩ = #[.int .i64 x][j]? from cell_of_row _ _ _ _ 3 (0, 0) (heap_alloc_new wr _)]
      simpa using hu)
    (by intro u hu; simp at hu; subst hu; rfl) (by simp [maxLen]; omega) (by omega) (by simp; omega)
  exact ⟨v', w', hrun, by simpa [ints] using ho, hgr⟩
end Go.Proofs.YtjllmladhjbnaaaDoor
/- Package match's Assign. -/
namespace Go.Proofs.YtjllmladhjbnaaaDoor
open Go.RowKit Go.Shelf
attribute [local go_sem] Oper.semAt_some
/-- Who goes with whom; at which total. -/
def toL (M : List (List Int)) : List Int := if okM M then (fst1 M 0).map fun (k : Nat) => (k : Int) else []
def totL (M : List (List Int)) : Int := if okM M then restR M 0 else 0
theorem restV_zero (M : List (List Int)) : restV M 0 = restR M 0 := by
  have h : pcN 0 = 0 := by decide +kernel
  unfold restV
  rw [h, List.drop_zero]
end Go.Proofs.YtjllmladhjbnaaaDoor
/- What the laws of match know of choices. -/
namespace Go.Proofs.YtjllmladhjbnaaaDoor
open Go.RowKit Go.Shelf
theorem free_zero (m : Nat) : (free m 0).length = m := by
  unfold free
  rw [List.filter_eq_self.2 (by simp)]
  simp
theorem room_ok {M : List (List Int)} (h : okM M = true) : Room M (wid M) 0 := by
  obtain ⟨h1, h2, h3⟩ := okM_spec h
  exact ⟨fun r hr => (h3 r hr).1, by rw [free_zero]; exact h2⟩
theorem toL_ok {M : List (List Int)} (h : okM M = true) : toL M = (fst1 M 0).map fun (k : Nat) => (k : Int) := by unfold toL; rw [if_pos h]
theorem totL_ok {M : List (List Int)} (h : okM M = true) : totL M = restR M 0 := by unfold totL; rw [if_pos h]
theorem toL_len {M : List (List Int)} (h : okM M = true) : (toL M).length = M.length := by
  rw [toL_ok h, List.length_map]
  exact (fst1_ok M _ 0 (room_ok h)).1.len
theorem toL_le (M : List (List Int)) : (toL M).length ≤ 12 := by
  cases h : okM M with
  | true =>
    rw [toL_len h]
    obtain ⟨h1, h2, _⟩ := okM_spec h
    omega
  | false => unfold toL; rw [h]; simp
/-- Each row's column, and that they are apart. -/
theorem fst1_spec {M : List (List Int)} (h : okM M = true) : (fst1 M 0).length = M.length ∧ (fst1 M 0).Nodup ∧ ∀ k ∈ fst1 M 0, k < wid M := by
  obtain ⟨h1, h2, h3⟩ := (Ok_iff M (wid M) 0 (fst1 M 0) (room_ok h).1).1 (fst1_ok M _ 0 (room_ok h)).1
  exact ⟨h1, h2, fun k hk => (h3 k hk).1⟩
/-- A choice by numbers. -/
theorem Ok_of {M : List (List Int)} {m : Nat} {c : List Nat} (hM : ∀ r ∈ M, r.length = m) (hl : c.length = M.length) (hn : c.Nodup) (hc : ∀ k ∈ c, k < m) : Ok M 0 c :=
  (Ok_iff M m 0 c hM).2 ⟨hl, hn, fun k hk => ⟨hc k hk, by simp⟩⟩
/-- Rows of one length, of numbers in bounds, may be costs. -/
theorem okM_of {M : List (List Int)} {m : Nat} (hm : m ≤ 12) (hl : M.length ≤ m) (h : ∀ r ∈ M, r.length = m ∧ ∀ x ∈ r, 0 ≤ x ∧ x ≤ 1000000) : okM M = true := by
  unfold okM okRow okC
  simp only [Bool.and_eq_true, decide_eq_true_eq, List.all_eq_true]
  cases M with
  | nil => exact ⟨by decide, by decide, by simp⟩
  | cons r t =>
    have hw : wid (r :: t) = m := (h r (List.mem_cons_self ..)).1
    rw [hw]
    exact ⟨hm, hl, fun r hr => h r hr⟩
end Go.Proofs.YtjllmladhjbnaaaDoor
/- Costs that a law lays: rows of the call's own, no two of one block. -/
namespace Go.Proofs.YtjllmladhjbnaaaDoor
open Go.RowKit Go.Shelf
attribute [local go_sem] Oper.semAt_some
theorem infoS1 : (Tryd.prog.info? 22).map (fun i => (i.zero, i.size, i.bytes)) = some (some (.slice none 0 0), 1, 24) := by kernel_rfl
/-- Rows of the call's own. -/
structure OM (B : Nat) (w : World) (v : Value) (M : List (List Int)) (us : List Value) : Prop where
  own : w.ownsRow B 22 1 v M.length us
  row : ∀ (j : Nat) (u : Value) (r : List Int), us[j]? = some u → M[j]? = some r → OI B w u r
  ap : ∀ (i j : Nat) (u u' : Value), i ≠ j → us[i]? = some u → us[j]? = some u' → ∀ b, u.ownBlock = some b → u'.ownBlock ≠ some b
section
variable {B : Nat} {w w' : World} {v : Value} {M : List (List Int)} {us : List Value}
theorem OM.len (h : OM B w v M us) : us.length = M.length := by have := h.own.1; omega
theorem OM.nil (B : Nat) (w : World) : OM B w (.slice none 0 0) [] [] := ⟨World.ownsRow_nil _ _ _ _, fun j u r h => by simp at h, fun i j u u' _ h => by simp at h⟩
theorem OM.below (h : OM B w v M us) (hb : Below w.heap.size w w') : OM B w' v M us := ⟨own_below h.own hb (Nat.le_refl _), fun j u r a b => (h.row j u r a b).below hb, h.ap⟩
theorem OM.mat (h : OM B w v M us) : ∃ A c, v = .slice A M.length c ∧ Mat w A M.length M := by
  obtain ⟨A, c, rfl, h1, h2, h3⟩ := own_form h.own
  refine ⟨A, c, rfl, rfl, fun hn => ?_⟩
  obtain ⟨g, rfl, hg, hc⟩ := h3 hn
  refine ⟨_, rfl, fun j r hr => ?_⟩
  obtain ⟨u, hu⟩ : ∃ u, us[j]? = some u := ⟨_, List.getElem?_eq_getElem (by rw [h.len]; exact (List.getElem?_eq_some_iff.1 hr).1)⟩
  obtain ⟨P, c', rfl, -, -, hn', -⟩ := (h.row j u r hu hr).form
  rw [add0]
  exact ⟨P, c', hc j _ hu, hn'⟩
theorem om_append {u : Value} {r : List Int} (h : OM B w v M us) (hu : OI B w u r) (hap : ∀ (j : Nat) (u' : Value), us[j]? = some u' → ∀ b, u.ownBlock = some b → u'.ownBlock ≠ some b) (hn : M.length ≤ 1000) (hB : B ≤ w.heap.size) :
    ∃ v' w', (Builtin.append_ #[66, 66] 66 #[v, .slice (some ⟨w.heap.size, 0, none⟩) 1 1]).run Tryd.prog (w.alloc (.cells #[u] 22)) = .ok v' w' ∧ OM B w' v' (M ++ [r]) (us ++ [u]) ∧ Below B w w' := by
  obtain ⟨P, cu, hue, -, -, -, -⟩ := hu.form
  obtain ⟨i0, hi, hz0, hz1, hz2⟩ := info_parts infoS1
  obtain ⟨v', w', hrun, ho, hgr, _, _⟩ := run_append_own_at (P := Tryd.prog) (w.alloc (.cells #[u] 22)) B 66 66 22 i0 _ 1 24 Tryd.underlying66 hi hz0 hz1 hz2 rfl (by omega) v M.length us (h.own.alloc _)
    ⟨w.heap.size, 0, none⟩ 1 1 [u] rfl (fun j x hx => by
      rw [add0, show (w.alloc (.cells #[u] 22)).cell? ⟨w.heap.size, j, none⟩ = #[u][j]? from cell_of_row _ _ _ _ 22 (0, 0) (heap_alloc_new w _)]
      simpa using hx)
    (by intro x hx; simp at hx; subst hx; rw [hue]; rfl) (by simp [maxLen]; omega) (by omega) (by simp; omega)
  have keep : ∀ {x : Value} {xs : List Int}, OI B w x xs → OI B w' x xs := fun hx => by
    exact ⟨(hx.1.alloc _).kept hgr (own_apart hx.1 h.own (by decide)), hx.2⟩
  refine ⟨v', w', hrun, ⟨by rw [List.length_append]; exact ho, fun j x y hx hy => ?_, fun i j x x' hij hx hx' => ?_⟩, ((Below.refl B w).alloc hB _).grown hgr (by simp; omega) (fun k e => (h.own.lt k e).1)⟩
  · rcases Nat.lt_or_ge j us.length with hj | hj
    · rw [List.getElem?_append_left hj] at hx
      rw [List.getElem?_append_left (by rw [← h.len]; exact hj)] at hy
      exact keep (h.row j x y hx hy)
    · rw [List.getElem?_append_right hj] at hx
      rw [List.getElem?_append_right (by rw [← h.len]; exact hj)] at hy
      rw [h.len] at hx
      cases hjj : j - M.length with
      | zero => rw [hjj] at hx hy; simp at hx hy; subst hx; subst hy; exact keep hu
      | succ q => rw [hjj] at hx; simp at hx
  · have last : ∀ {q : Nat} {z : Value}, us.length ≤ q → (us ++ [u])[q]? = some z → z = u ∧ q = us.length := fun {q z} hq hz => by
      rw [List.getElem?_append_right hq] at hz
      cases hqq : q - us.length with
      | zero => rw [hqq] at hz; simp at hz; exact ⟨hz.symm, by omega⟩
      | succ q => rw [hqq] at hz; simp at hz
    rcases Nat.lt_or_ge i us.length with hi' | hi'
    · rcases Nat.lt_or_ge j us.length with hj | hj
      · rw [List.getElem?_append_left hi'] at hx
        rw [List.getElem?_append_left hj] at hx'
        exact h.ap i j x x' hij hx hx'
      · obtain ⟨rfl, -⟩ := last hj hx'
        rw [List.getElem?_append_left hi'] at hx
        exact fun b hb e => hap i x hx b e hb
    · obtain ⟨rfl, h1⟩ := last hi' hx
      rcases Nat.lt_or_ge j us.length with hj | hj
      · rw [List.getElem?_append_left hj] at hx'
        exact hap j x' hx'
      · obtain ⟨-, h2⟩ := last hj hx'
        omega
end
/-- A row of later blocks goes with all. -/
theorem OM.apart_new {B B' : Nat} {w w' : World} {v u : Value} {M : List (List Int)} {us : List Value} {r : List Int} (h : OM B w v M us) (hu : OI B' w' u r) (hB : w.heap.size ≤ B') : ∀ (j : Nat) (u' : Value), us[j]? = some u' → ∀ b, u.ownBlock = some b → u'.ownBlock ≠ some b := by
  intro j u' hj b hb e
  obtain ⟨r', hr'⟩ : ∃ r', M[j]? = some r' := ⟨_, List.getElem?_eq_getElem (by rw [← h.len]; exact (List.getElem?_eq_some_iff.1 hj).1)⟩
  have h1 := ((h.row j u' r' hj hr').1.lt b e).2
  have h2 := (hu.1.lt b hb).1
  omega
theorem oi_push {B : Nat} {wr : World} {v : Value} {xs : List Int} (x : Int) (h : OI B wr v xs) (hx : inK .i64 x) (hn : xs.length ≤ 1000000) (hB : B ≤ wr.heap.size) :
    ∃ v' w', (Builtin.append_ #[22, 22] 22 #[v, .slice (some ⟨wr.heap.size, 0, none⟩) 1 1]).run Tryd.prog (wr.alloc (.cells #[.int .i64 x] 3)) = .ok v' w' ∧ OI B w' v' (xs ++ [x]) ∧ Below B wr w' := by
  obtain ⟨v', w', hrun, ho, hgr⟩ := append_intC wr B v xs x h.1 hn hB
  refine ⟨v', w', hrun, ⟨by simpa using ho, fun y hy => ?_⟩, ((Below.refl B wr).alloc hB _).grown hgr (by simp; omega) (fun k e => (h.1.lt k e).1)⟩
  rcases List.mem_append.1 hy with g | g
  · exact h.2 y g
  · rw [List.mem_singleton.1 g]; exact hx
end Go.Proofs.YtjllmladhjbnaaaDoor
/- A slice of the call's own is written. -/
namespace Go.Proofs.YtjllmladhjbnaaaDoor
open Go.RowKit Go.Shelf
theorem OI.put {B g n c i : Nat} {w : World} {xs : List Int} (h : OI B w (.slice (some ⟨g, 0, none⟩) n c) xs) (y : Int) (hy : inK .i64 y) : OI B (w.setCell ⟨g, i, none⟩ (.int .i64 y)) (.slice (some ⟨g, 0, none⟩) n c) (xs.set i y) := by
  obtain ⟨h1, h2⟩ := h
  have hn : n = xs.length := by
    obtain ⟨P, c', e, _⟩ := own_form h1
    injection e
  subst hn
  refine ⟨?_, fun x hx => ?_⟩
  · have e : ints (xs.set i y) = (ints xs).set i (.int .i64 y) := by simp [ints, List.map_set]
    rw [e, List.length_set]
    refine ⟨by rw [List.length_set]; exact h1.1, ?_⟩
    rcases h1.2 with ⟨e0, _⟩ | ⟨g', cap', cur, e0, hg, hh, a1, a2, a3, a4⟩
    · cases e0
    · injection e0 with e1 e2 e3
      injection e1 with e1
      injection e1 with e1
      subst e1 e3
      refine .inr ⟨g, c, cur.setIfInBounds i (.int .i64 y), rfl, hg, ?_, a1, a2, by simpa using a3, ?_⟩
      · simp [World.setCell, Array.getElem?_modify, hh]
      · rw [Array.toList_setIfInBounds, List.take_set, a4]
  · rcases List.mem_or_eq_of_mem_set hx with h0 | h0
    · exact h2 x h0
    · subst h0; exact hy
/-- One of its numbers: where it lies, that it may be written. -/
theorem OI.cell {B : Nat} {w : World} {v : Value} {xs : List Int} (h : OI B w v xs) {i : Nat} {x : Int} (hx : xs[i]? = some x) :
    ∃ g c, v = .slice (some ⟨g, 0, none⟩) xs.length c ∧ B ≤ g ∧ g < w.heap.size ∧ w.cell? ⟨g, i, none⟩ = some (.int .i64 x) ∧ w.frozen? ⟨g, i, none⟩ = false := by
  have hl := (List.getElem?_eq_some_iff.1 hx).1
  rcases h.1.2 with ⟨_, e0⟩ | ⟨g, cap, cur, rfl, hg, hh, a1, a2, a3, a4⟩
  · omega
  · obtain ⟨P, c, e1, -, -, hn, -⟩ := h.form
    injection e1 with e1 _ e3
    subst e1 e3
    obtain ⟨ad, e2, hc⟩ := hn.2.2 (by omega)
    injection e2 with e2
    subst e2
    have hcc := hc i x hx
    rw [add0] at hcc
    exact ⟨g, cap, rfl, hg, h.1.lt g rfl |>.2, hcc, by simp [World.frozen?, hh]⟩
end Go.Proofs.YtjllmladhjbnaaaDoor
/- Rows of the call's own are written. -/
namespace Go.Proofs.YtjllmladhjbnaaaDoor
open Go.RowKit Go.Shelf
theorem only_own {w : World} {b : Nat} {e : TypeId} {s n g i : Nat} {u v : Value} {xs : List Value} (h : w.ownsRow b e s v n xs) (hne : v.ownBlock ≠ some g) : (w.setCell ⟨g, i, none⟩ u).ownsRow b e s v n xs :=
  own_stay h fun k hk => Below.heap_setCell _ _ _ _ fun e => hne (by rw [hk, e])
/-- One number of one row is written. -/
theorem OM.put {B : Nat} {w : World} {v : Value} {M : List (List Int)} {us : List Value} {i j g c : Nat} {r : List Int} (h : OM B w v M us) (hu : us[i]? = some (.slice (some ⟨g, 0, none⟩) r.length c)) (hr : M[i]? = some r) (y : Int) (hy : inK .i64 y) :
    OM B (w.setCell ⟨g, j, none⟩ (.int .i64 y)) v (M.set i (r.set j y)) us := by
  have hrow := h.row i _ r hu hr
  have hvne : v.ownBlock ≠ some g := fun e => by
    rcases own_apart hrow.1 h.own (by decide) with h1 | h1
    · cases h1
    · exact h1 (by rw [e]; rfl)
  refine ⟨by rw [List.length_set]; exact only_own h.own hvne, fun k u r' hk hr' => ?_, h.ap⟩
  by_cases hik : i = k
  · subst hik
    rw [hu] at hk
    injection hk with hk
    subst hk
    rw [List.getElem?_set_self (List.getElem?_eq_some_iff.1 hr).1] at hr'
    injection hr' with hr'
    subst hr'
    exact hrow.put y hy
  · rw [List.getElem?_set_ne hik] at hr'
    have hrk := h.row k u r' hk hr'
    exact ⟨only_own hrk.1 (fun e => h.ap i k _ u hik hu hk g rfl e), hrk.2⟩
/-- A row: where it lies. -/
theorem OM.at_ {B : Nat} {w : World} {v : Value} {M : List (List Int)} {us : List Value} {i : Nat} {r : List Int} (h : OM B w v M us) (hr : M[i]? = some r) :
    ∃ g c u, v = .slice (some ⟨g, 0, none⟩) M.length c ∧ B ≤ g ∧ g < w.heap.size ∧ us[i]? = some u ∧ w.cell? ⟨g, i, none⟩ = some u ∧ w.frozen? ⟨g, i, none⟩ = false ∧ OI B w u r ∧ u.ownBlock ≠ some g := by
  have hi := (List.getElem?_eq_some_iff.1 hr).1
  obtain ⟨u, hu⟩ : ∃ u, us[i]? = some u := ⟨_, List.getElem?_eq_getElem (by rw [h.len]; exact hi)⟩
  have hrow := h.row i u r hu hr
  obtain ⟨A, c, e1, -, -, h3⟩ := own_form h.own
  obtain ⟨g, e2, hg, hc⟩ := h3 (by omega)
  subst e2
  have hgl := (h.own.lt g (by rw [e1]; rfl)).2
  have hfz : w.frozen? ⟨g, i, none⟩ = false := by
    rcases h.own.2 with ⟨e0, _⟩ | ⟨g', cap, cur, e0, _, hh, _⟩
    · rw [e1] at e0; cases e0
    · rw [e1] at e0
      injection e0 with e0 _ _
      injection e0 with e0
      injection e0 with e0
      subst e0
      simp [World.frozen?, hh]
  refine ⟨g, c, u, e1, hg, hgl, hu, hc i u hu, hfz, hrow, fun e => ?_⟩
  rcases own_apart hrow.1 h.own (by decide) with h4 | h4
  · rw [e] at h4; cases h4
  · exact h4 (by rw [e, e1]; rfl)
theorem set_mem {α : Type} {l : List α} {i : Nat} {x y : α} (h : y ∈ l.set i x) : y ∈ l ∨ y = x := by
  rcases List.mem_or_eq_of_mem_set h with h | h
  · exact .inl h
  · exact .inr h
theorem tmod_nat (i k : Nat) : ((i : Int)).tmod (k : Int) = ((i % k : Nat) : Int) := by
  rw [Int.tmod_eq_emod_of_nonneg (by omega)]
  push_cast
  rfl
end Go.Proofs.YtjllmladhjbnaaaDoor
/- A row of rows grows in a row; rows that are made anew; numbers that change places. -/
namespace Go.Proofs.YtjllmladhjbnaaaDoor
open Go.RowKit Go.Shelf
set_option maxRecDepth 100000 in
set_option maxHeartbeats 1000000 in
/-- A number is appended to row i, which is stored where it was. -/
theorem om_pushX {B : Nat} {w : World} {v u : Value} {M : List (List Int)} {us : List Value} {i : Nat} {r : List Int} {x : Int} {go co : Nat} (h : OM B w v M us) (hu : us[i]? = some u) (hr : M[i]? = some r) (hv : v = .slice (some ⟨go, 0, none⟩) M.length co)
    (hx : inK .i64 x) (hn : r.length ≤ 1000000) (hB : B ≤ w.heap.size) (hgo : B ≤ go) :
    ∃ g' c' w1, (Builtin.append_ #[22, 22] 22 #[u, .slice (some ⟨w.heap.size, 0, none⟩) 1 1]).run Tryd.prog (w.alloc (.cells #[.int .i64 x] 3)) = .ok (.slice (some ⟨g', 0, none⟩) (r.length + 1) c') w1 ∧
      OM B (w1.setCell ⟨go, i, none⟩ (.slice (some ⟨g', 0, none⟩) (r.length + 1) c')) v (M.set i (r ++ [x])) (us.set i (.slice (some ⟨g', 0, none⟩) (r.length + 1) c')) ∧
      Below B w (w1.setCell ⟨go, i, none⟩ (.slice (some ⟨g', 0, none⟩) (r.length + 1) c')) ∧ w1.cell? ⟨go, i, none⟩ = some u ∧ w1.frozen? ⟨go, i, none⟩ = false ∧
      (u.ownBlock = some g' ∨ w.heap.size ≤ g') ∧ ∀ k, k < w.heap.size → k ≠ go → u.ownBlock ≠ some k → (w1.setCell ⟨go, i, none⟩ (.slice (some ⟨g', 0, none⟩) (r.length + 1) c')).heap[k]? = w.heap[k]? := by
  have hrow := h.row i u r hu hr
  have hil := (List.getElem?_eq_some_iff.1 hr).1
  obtain ⟨i0, hi, hz0, hz1, hz2⟩ := info_parts infoI
  obtain ⟨u', w1, hrun, ho, hgr, _, hblk⟩ := run_append_own_at (P := Tryd.prog) (w.alloc (.cells #[.int .i64 x] 3)) B 22 22 3 i0 _ 1 8 Tryd.underlying22 hi hz0 hz1 hz2 rfl (by omega) u r.length (ints r) (hrow.1.alloc _)
    ⟨w.heap.size, 0, none⟩ 1 1 [.int .i64 x] rfl (fun j y hy => by
      rw [add0, show (w.alloc (.cells #[.int .i64 x] 3)).cell? ⟨w.heap.size, j, none⟩ = #[.int .i64 x][j]? from cell_of_row _ _ _ _ 3 (0, 0) (heap_alloc_new w _)]
      simpa using hy)
    (by intro y hy; simp at hy; subst hy; rfl) (by simp [maxLen]; omega) (by omega) (by simp; omega)
  obtain ⟨g', c', rfl⟩ := ownsRow_succ ho
  have hvo := h.own
  rw [hv] at hvo
  have keepv : w1.ownsRow B 22 1 v M.length us := (h.own.alloc _).kept hgr (own_apart h.own hrow.1 (by decide))
  have hgne : g' ≠ go := fun e => by
    have h2 := own_apart ho keepv (by decide)
    rcases h2 with h2 | h2
    · cases h2
    · exact h2 (by rw [hv, e]; rfl)
  obtain ⟨go', co', u2, e2, -, hgol, hu2, hcu, hfu, -, -⟩ := h.at_ hr
  rw [hv] at e2
  injection e2 with e3 _ _
  injection e3 with e3
  injection e3 with e3
  subst e3
  obtain rfl : u = u2 := Option.some.inj (hu.symm.trans hu2)
  have hue : u.ownBlock ≠ some go := fun e => by
    rcases own_apart hrow.1 h.own (by decide) with h4 | h4
    · rw [e] at h4; cases h4
    · exact h4 (by rw [e, hv]; rfl)
  have hheap : w1.heap[go]? = w.heap[go]? := (hgr.block go (by simp; omega) (fun e => hue e.symm)).trans (Below.heap_alloc _ _ _ hgol)
  refine ⟨g', c', w1, hrun, ⟨?_, fun j y r' hj hr' => ?_, fun j k y y' hjk hy hy' => ?_⟩, ?_, ?_, ?_, ?_, fun k hk hkg hku => ?_⟩
  · rw [List.length_set]
    rcases keepv.2 with ⟨e0, _⟩ | ⟨gg, cap, cur, e0, a1, a2, a3, a4, a5, a6⟩
    · rw [hv] at e0; cases e0
    · refine ⟨by rw [List.length_set]; exact keepv.1, .inr ⟨gg, cap, cur.setIfInBounds i (.slice (some ⟨g', 0, none⟩) (r.length + 1) c'), e0, a1, ?_, a3, a4, by simpa using a5, ?_⟩⟩
      · rw [hv] at e0
        injection e0 with e0 _ _
        injection e0 with e0
        injection e0 with e0
        subst e0
        simp [World.setCell, Array.getElem?_modify, a2]
      · rw [Array.toList_setIfInBounds, List.take_set, a6]
  · by_cases hij : i = j
    · subst hij
      rw [List.getElem?_set_self (by rw [h.len]; exact hil)] at hj
      rw [List.getElem?_set_self hil] at hr'
      injection hj with hj
      injection hr' with hr'
      subst hj hr'
      refine ⟨only_own (by simpa [ints] using ho) (fun e => hgne (by simpa [Value.ownBlock] using e)), fun z hz => ?_⟩
      rcases List.mem_append.1 hz with h5 | h5
      · exact hrow.2 z h5
      · rw [List.mem_singleton.1 h5]; exact hx
    · rw [List.getElem?_set_ne hij] at hj hr'
      have hrj := h.row j y r' hj hr'
      have hyg : y.ownBlock ≠ some go := fun e => by
        rcases own_apart hrj.1 h.own (by decide) with h4 | h4
        · rw [e] at h4; cases h4
        · exact h4 (by rw [e, hv]; rfl)
      refine ⟨only_own ((hrj.1.alloc _).kept hgr ?_) hyg, hrj.2⟩
      rcases hb : y.ownBlock with _ | b
      · exact .inl rfl
      · exact .inr fun e => h.ap j i y u (Ne.symm hij) hj hu b hb e.symm
  · have newb : ∀ (q : Nat) (z : Value), q ≠ i → us[q]? = some z → ∀ b, z.ownBlock = some b → b ≠ g' := fun q z hq hz b hb e => by
      subst e
      rcases hblk with h5 | h5
      · exact h.ap q i z u hq hz hu b hb (h5.symm.trans rfl)
      · have h6 := (h.row q z _ hz (List.getElem?_eq_getElem (by rw [← h.len]; exact (List.getElem?_eq_some_iff.1 hz).1))).1.lt b hb
        simp [Value.ownBlock] at h5
        omega
    by_cases hij : i = j
    · subst hij
      rw [List.getElem?_set_self (by rw [h.len]; exact hil)] at hy
      injection hy with hy
      subst hy
      rw [List.getElem?_set_ne hjk] at hy'
      intro b hb e
      have : b = g' := by simpa [Value.ownBlock] using hb.symm
      exact newb k y' (Ne.symm hjk) hy' b e this
    · rw [List.getElem?_set_ne hij] at hy
      by_cases hik : i = k
      · subst hik
        rw [List.getElem?_set_self (by rw [h.len]; exact hil)] at hy'
        injection hy' with hy'
        subst hy'
        intro b hb e
        exact newb j y hjk hy b hb (by simpa [Value.ownBlock] using e.symm)
      · rw [List.getElem?_set_ne hik] at hy'
        exact h.ap j k y y' hjk hy hy'
  · exact (((Below.refl B w).alloc hB _).grown hgr (by simp; omega) (fun k e => (hrow.1.lt k e).1)).setCell (p := ⟨go, i, none⟩) hgo _
  · rw [World.cell?_of_block hheap]; exact hcu
  · have : w1.frozen? ⟨go, i, none⟩ = w.frozen? ⟨go, i, none⟩ := by simp [World.frozen?, hheap]
    rw [this]; exact hfu
  · rcases hblk with h5 | h5
    · exact .inl (h5.symm.trans rfl)
    · right; simp [Value.ownBlock] at h5; omega
  · rw [Below.heap_setCell _ _ _ _ hkg, hgr.block k (by simp; omega) (fun e => hku e.symm)]
    exact Below.heap_alloc _ _ _ hk
theorem om_push {B : Nat} {w : World} {v u : Value} {M : List (List Int)} {us : List Value} {i : Nat} {r : List Int} {x : Int} {go co : Nat} (h : OM B w v M us) (hu : us[i]? = some u) (hr : M[i]? = some r) (hv : v = .slice (some ⟨go, 0, none⟩) M.length co)
    (hx : inK .i64 x) (hn : r.length ≤ 1000000) (hB : B ≤ w.heap.size) (hgo : B ≤ go) :
    ∃ g' c' w1, (Builtin.append_ #[22, 22] 22 #[u, .slice (some ⟨w.heap.size, 0, none⟩) 1 1]).run Tryd.prog (w.alloc (.cells #[.int .i64 x] 3)) = .ok (.slice (some ⟨g', 0, none⟩) (r.length + 1) c') w1 ∧
      OM B (w1.setCell ⟨go, i, none⟩ (.slice (some ⟨g', 0, none⟩) (r.length + 1) c')) v (M.set i (r ++ [x])) (us.set i (.slice (some ⟨g', 0, none⟩) (r.length + 1) c')) ∧
      Below B w (w1.setCell ⟨go, i, none⟩ (.slice (some ⟨g', 0, none⟩) (r.length + 1) c')) ∧ w1.cell? ⟨go, i, none⟩ = some u ∧ w1.frozen? ⟨go, i, none⟩ = false :=
  let ⟨g', c', w1, a, b, c, d, e, _⟩ := om_pushX h hu hr hv hx hn hB hgo
  ⟨g', c', w1, a, b, c, d, e⟩
theorem made_slices' (w : World) (T : TypeId) (n : Nat) : (w.alloc (.cells (madeCells #[.slice none 0 0] n) T)).heap[w.heap.size]? = some (.cells (List.replicate n (Value.slice none 0 0)).toArray T (0, 0)) := by
  rw [heap_alloc_new]
  congr 2
  apply Array.ext'
  rw [toList_madeCells_one, List.toList_toArray]
/-- k rows, made anew. -/
theorem om_made (w : World) (n : Nat) (hn : n ≤ 1000) : OM w.heap.size (w.alloc (.cells (madeCells #[.slice none 0 0] n) 22)) (.slice (some ⟨w.heap.size, 0, none⟩) n n) (List.replicate n []) (List.replicate n (.slice none 0 0)) := by
  refine ⟨by rw [List.length_replicate]; exact ⟨by simp, .inr ⟨w.heap.size, n, _, rfl, Nat.le_refl _, made_slices' w _ n, Nat.le_refl _, by simp [maxLen]; omega, by simp, by simp⟩⟩, fun j u r hu hr => ?_, fun i j u u' _ hu _ b hb => ?_⟩
  · rw [(List.mem_replicate.1 (List.mem_of_getElem? hu)).2, (List.mem_replicate.1 (List.mem_of_getElem? hr)).2]
    exact OI.nil _ _
  · rw [(List.mem_replicate.1 (List.mem_of_getElem? hu)).2] at hb
    cases hb
theorem make_rows9 (n : Nat) (hn : n ≤ 1000) (w : World) : (Instr.makeSlice 66 (.int .i64 (n : Int)) (.int .i64 (n : Int))).run Tryd.prog w = .ok (.slice (some ⟨w.heap.size, 0, none⟩) n n) (w.alloc (.cells (madeCells #[.slice none 0 0] n) 22)) := by
  obtain ⟨i, hi, hz, hs, hb⟩ := info_parts infoS1
  have hr := run_make (P := Tryd.prog) w 66 22 i (.slice none 0 0) Tryd.underlying66 hi hz .i64 .i64 n n (by omega) (by omega) (by rw [hb]; omega) (by omega)
  simpa [hs, Value.cells] using hr
/-! ### Numbers that change places -/
def swp (T : List Nat) (a b x y : Nat) : List Nat := (T.set a y).set b x
theorem swp_perm {T : List Nat} {a b x y : Nat} (ha : T[a]? = some x) (hb : T[b]? = some y) : (swp T a b x y).Perm T := by
  obtain ⟨h1, rfl⟩ := List.getElem?_eq_some_iff.1 ha
  obtain ⟨h2, rfl⟩ := List.getElem?_eq_some_iff.1 hb
  exact List.set_set_perm h1 h2
theorem swp_cast (T : List Nat) (a b x y : Nat) : (swp T a b x y).map (fun (k : Nat) => (k : Int)) = ((T.map fun (k : Nat) => (k : Int)).set a (y : Int)).set b (x : Int) := by
  unfold swp
  rw [List.map_set, List.map_set]
theorem perm_spec {T : List Nat} {k : Nat} (h : T.Perm (List.range k)) : T.length = k ∧ T.Nodup ∧ ∀ x ∈ T, x < k :=
  ⟨by rw [h.length_eq, List.length_range], h.nodup_iff.2 List.nodup_range, fun x hx => List.mem_range.1 (h.mem_iff.1 hx)⟩
end Go.Proofs.YtjllmladhjbnaaaDoor
