/- A table and the reference's, side by side: what a Put leaves of each. -/
import Derived.Test.YtioddfodajinlaaHshr7
import Derived.Test.YtioddfodajinlaaHshr4
import Derived.Test.YtioddfodajinlaaHsho
import Derived.Test.YtioddfodajinlaaMake
namespace Go.Proofs.Ytioddfodajinlaa
open Go.RowKit
section
variable {B : Nat} {X Y : World} {M : Nat → Prop}
/-- A slice of numbers stays where blocks of other types turn. -/
theorem OI.tchT {v : Value} {xs : List Int} (h : OI B X v xs) (ht : Tch M X Y) (hM : ∀ k, M k → ∃ T l, Own T X k l ∧ T ≠ 3) : OI B Y v xs := by
  refine ⟨own_stay h.1 fun k hk => ht.block k (h.1.lt k hk).2 fun e => ?_, h.2⟩
  obtain ⟨T, l, ho, hT⟩ := hM k e
  rcases h.1.2 with ⟨rfl, _⟩ | ⟨g', cap, cur, rfl, _, hh, _⟩
  · simp [Value.ownBlock] at hk
  · simp only [Value.ownBlock, Option.some.injEq] at hk
    subst hk
    unfold Own at ho
    rw [hh] at ho
    injection ho with ho
    injection ho with _ h3
    exact hT h3.symm
theorem Tb.tchT {T g : Nat} {d me : Int} {vs : List (Option V5)} {ts : List (Option Cel)} (h : Tb B X T g d me vs ts) (ht : Tch M X Y) (hM : ∀ k, M k → k ≠ T ∧ k ≠ g ∧ ∃ T l, Own T X k l ∧ T ≠ 3) : Tb B Y T g d me vs ts :=
  ⟨(ht.block T h.bx.lt fun e => (hM T e).1 rfl).trans h.bx, ⟨(ht.block g h.tab.blk.lt fun e => (hM g e).2.1 rfl).trans h.tab.blk, h.tab.len, fun i v t hv hts => (h.tab.at_ i v t hv hts).stay fun o => o.tchT ht fun k hk => (hM k hk).2.2⟩, h.hT, h.hg⟩
theorem RT.tchT {T gC gI : Nat} {vs : List (Option V5)} {ts : List (Option Cel)} (h : RT B X T gC gI vs ts) (ht : Tch M X Y) (hM : ∀ k, M k → k ≠ T ∧ k ≠ gC ∧ k ≠ gI ∧ ∃ T l, Own T X k l ∧ T ≠ 3) : RT B Y T gC gI vs ts :=
  ⟨(ht.block T h.bx.lt fun e => (hM T e).1 rfl).trans h.bx, (ht.block gC h.cs.lt fun e => (hM gC e).2.1 rfl).trans h.cs, (ht.block gI h.is.lt fun e => (hM gI e).2.2.1 rfl).trans h.is, h.len, fun i v t hv hts => (h.at_ i v t hv hts).stay fun o => o.tchT ht fun k hk => (hM k hk).2.2.2, h.hT, h.hC, h.hI⟩
/-- What a table's blocks are. -/
theorem Tb.ty {T g : Nat} {d me : Int} {vs : List (Option V5)} {ts : List (Option Cel)} (h : Tb B X T g d me vs ts) (k : Nat) (hk : k = g ∨ k = T) : ∃ T l, Own T X k l ∧ T ≠ 3 := by
  rcases hk with rfl | rfl
  · exact ⟨_, _, h.tab.blk, by decide⟩
  · exact ⟨_, _, h.bx, by decide⟩
theorem RT.ty {T gC gI : Nat} {vs : List (Option V5)} {ts : List (Option Cel)} (h : RT B X T gC gI vs ts) (k : Nat) (hk : k = gC ∨ k = gI ∨ k = T) : ∃ T l, Own T X k l ∧ T ≠ 3 := by
  rcases hk with rfl | rfl | rfl
  · exact ⟨_, _, h.cs, by decide⟩
  · exact ⟨_, _, h.is, by decide⟩
  · exact ⟨_, _, h.bx, by decide⟩
end
/-- What a table holds behind a Put, whether there was a slot or none. -/
def stepT (ts : List (Option Cel)) (x : Cel) : List (Option Cel) := (putT ts x).getD ts
/-- A table of N slots, its cells of one shape. -/
structure StR (N dd mm : Nat) (ts : List (Option Cel)) : Prop where
  len : ts.length = N
  inv : InvT ts
  ok : OkL dd mm (cellsT ts)
theorem put_allS {ts ts' : List (Option Cel)} {x : Cel} {Q : Cel → Prop} (h : putT ts x = some ts') (h1 : ∀ y ∈ cellsT ts, Q y) (h2 : Q x) (h3 : ∀ c, Q c → Q (join2 c x)) : ∀ y ∈ cellsT ts', Q y := by
  unfold putT at h
  cases hs : seekT ts x.key with
  | none => rw [hs] at h; cases h
  | some k =>
    rw [hs] at h
    simp only [Option.some.injEq] at h
    rcases seekF_has hs with e | ⟨c, e, e2⟩
    · obtain ⟨a, b, g1, g2⟩ := cellsT_split e
      rw [e] at h
      intro y hy
      rw [← h, g2] at hy
      rw [g1] at h1
      simp only [List.mem_append, Option.toList_none, List.not_mem_nil, or_false, List.mem_singleton] at hy h1
      rcases hy with (hy | rfl) | hy
      · exact h1 y (.inl hy)
      · exact h2
      · exact h1 y (.inr hy)
    · obtain ⟨a, b, g1, g2⟩ := cellsT_split e
      rw [e] at h
      intro y hy
      rw [← h, g2] at hy
      rw [g1] at h1
      simp only [List.mem_append, Option.toList_some, List.mem_singleton] at hy h1
      rcases hy with (hy | rfl) | hy
      · exact h1 y (.inl (.inl hy))
      · exact h3 c (h1 c (.inl (.inr rfl)))
      · exact h1 y (.inr hy)
theorem StR.new {N dd mm : Nat} : StR N dd mm (List.replicate N none) := ⟨by rw [List.length_replicate], inv_new N, fun y hy => by rw [cells_new] at hy; simp at hy⟩
theorem StR.put {N dd mm : Nat} {ts ts' : List (Option Cel)} {x : Cel} (h : StR N dd mm ts) (hx : x.key.length = dd ∧ okK x.key = true ∧ EvenC mm x) (hp : putT ts x = some ts') : StR N dd mm ts' := by
  obtain ⟨h1, -, h3⟩ := put_grp h.inv hp
  exact ⟨by rw [h3, h.len], h1, put_allS hp h.ok hx fun c hc => ⟨hc.1, hc.2.1, join2_even hc.2.2 hx.2.2⟩⟩
theorem StR.step {N dd mm : Nat} {ts : List (Option Cel)} {x : Cel} (h : StR N dd mm ts) (hx : x.key.length = dd ∧ okK x.key = true ∧ EvenC mm x) : StR N dd mm (stepT ts x) := by
  unfold stepT
  cases hp : putT ts x with
  | none => exact h
  | some ts' => exact h.put hx hp
theorem StR.few {N dd mm : Nat} {ts : List (Option Cel)} (h : StR N dd mm ts) (hd : dd ≤ 4) (hm : mm ≤ 2) : FewC (cellsT ts) := h.ok.few (by omega) (by omega)
theorem StR.at_ {N dd mm : Nat} {ts : List (Option Cel)} (h : StR N dd mm ts) (hd : dd ≤ 4) (hm : mm ≤ 2) (i : Nat) (y : Cel) (hy : ts[i]? = some (some y)) : y.key.length ≤ 1000 ∧ EvenC mm y ∧ y.sum.length ≤ 1000000 ∧ y.mn.length ≤ 1000000 ∧ y.mx.length ≤ 1000000 := by
  obtain ⟨h1, h2, h3⟩ := h.ok y (mem_cells.2 ⟨i, hy⟩)
  obtain ⟨a, b, c⟩ := h3
  exact ⟨by omega, ⟨a, b, c⟩, by omega, by omega, by omega⟩
/-- The package's Put. -/
theorem hPut_st (B T g N dd mm : Nat) (d me : Int) (vs : List (Option V5)) (ts : List (Option Cel)) (k s n m : Value) (x : Cel) (w : World) (hB : Tb B w T g d me vs ts) (hS : StR N dd mm ts) (hN1 : 1 ≤ N) (hN2 : N ≤ 10000)
    (hd : (cellsT ts).length = 0 ∨ (d = dd ∧ me = mm)) (hx : CR w k s n m x) (hix : inK .i64 x.cnt) (ho : x.key.length = dd ∧ okK x.key = true ∧ EvenC mm x) (hdd : dd ≤ 4) (hmm : mm ≤ 2) :
    Calls Try.prog 13 #[.pointer (some ⟨T, 0, none⟩), .agg #[k, .int .i64 x.cnt, s, n, m]] w fun e w' => e = .returned (.bool (putT ts x).isSome) ∧ (∃ d' me' vs', Tb B w' T g d' me' vs' (stepT ts x) ∧ ((cellsT (stepT ts x)).length = 0 ∨ (d' = dd ∧ me' = mm))) ∧ Tch (fun b => b = g ∨ b = T) w w' := by
  refine (hPut_any B T g d me mm vs ts k s n m x w hB (by rw [hS.len]; exact hN1) (by rw [hS.len]; exact hN2) (fun i y hy => by have := hS.at_ hdd hmm i y hy; exact ⟨this.1, this.2.1⟩) (by rw [ho.1]; exact hd) hx hix (by omega) ho.2.1 ho.2.2 (by omega)).mono ?_
  intro e w' hp
  unfold stepT
  rcases hp.reads with ⟨t, h1, rfl, vs', h2, h3⟩ | ⟨h1, rfl, h3⟩
  · rw [h1]
    exact ⟨rfl, ⟨_, _, vs', h2, .inr ⟨by rw [ho.1], rfl⟩⟩, h3⟩
  · rw [h1]
    exact ⟨rfl, ⟨d, me, vs, hB.below h3, hd⟩, Tch.of_below _ h3⟩
/-- The reference's Put. -/
theorem rtPut_st (B T gC gI N dd mm : Nat) (vs : List (Option V5)) (ts : List (Option Cel)) (k s n m : Value) (x : Cel) (w : World) (hB : RT B w T gC gI vs ts) (hS : StR N dd mm ts) (hN1 : 1 ≤ N) (hN2 : N ≤ 10000)
    (hx : CR w k s n m x) (hix : inK .i64 x.cnt) (ho : x.key.length = dd ∧ okK x.key = true ∧ EvenC mm x) (hdd : dd ≤ 4) (hmm : mm ≤ 2) (hBw : B ≤ w.heap.size) :
    Calls Try.prog 14 #[.pointer (some ⟨T, 0, none⟩), .agg #[k, .int .i64 x.cnt, s, n, m]] w fun e w' => e = .returned (.bool (putT ts x).isSome) ∧ (∃ vs', RT B w' T gC gI vs' (stepT ts x)) ∧ Tch (fun q => q = gC ∨ q = gI ∨ q = T) w w' := by
  refine (rtPut_any B T gC gI mm vs ts k s n m x w hB (by rw [hS.len]; exact hN1) (by rw [hS.len]; exact hN2) (fun i y hy => by have := hS.at_ hdd hmm i y hy; exact ⟨this.1, this.2.1⟩) hx hix (by omega) ho.2.1 ho.2.2 (by omega) hBw).mono ?_
  intro e w' hp
  unfold stepT
  unfold PutR at hp
  cases h1 : putT ts x with
  | none =>
    rw [h1] at hp
    exact ⟨hp.1, ⟨vs, hB.below hp.2⟩, Tch.of_below _ hp.2⟩
  | some t =>
    rw [h1] at hp
    obtain ⟨h2, vs', h3, h4⟩ := hp
    exact ⟨h2, ⟨vs', h3⟩, h4⟩
/-- What Get tells. -/
def gotT (ts : List (Option Cel)) (key : List Int) : Cel := (getT ts key).getD ⟨[], 0, [], [], []⟩
theorem StR.got {N dd mm : Nat} {ts : List (Option Cel)} (h : StR N dd mm ts) (hd : dd ≤ 4) (hm : mm ≤ 2) (key : List Int) : (gotT ts key).key.length ≤ 1000000 ∧ (gotT ts key).sum.length ≤ 1000000 ∧ (gotT ts key).mn.length ≤ 1000000 ∧ (gotT ts key).mx.length ≤ 1000000 := by
  unfold gotT
  cases hg : getT ts key with
  | none => simp
  | some y => exact h.few hd hm y ((get_mem h.inv key y).1 hg).1
theorem hGet_st (B T g N dd mm : Nat) (d me : Int) (vs : List (Option V5)) (ts : List (Option Cel)) (kv : Value) (key : List Int) (w : World) (hB : Tb B w T g d me vs ts) (hS : StR N dd mm ts) (hN1 : 1 ≤ N) (hN2 : N ≤ 10000) (hdd : dd ≤ 4) (hmm : mm ≤ 2) (hx : RI w kv key) (hl : key.length ≤ 1000) :
    Calls Try.prog 17 #[.pointer (some ⟨T, 0, none⟩), kv] w fun e w' => (∃ k' s' n' m', e = .returned (.tuple #[.agg #[k', .int .i64 (gotT ts key).cnt, s', n', m'], .bool (getT ts key).isSome]) ∧ CR w' k' s' n' m' (gotT ts key)) ∧ Below w.heap.size w w' := by
  refine (hGet_any B T g d me vs ts kv key w hB (by rw [hS.len]; exact hN1) (by rw [hS.len]; exact hN2) (fun i y hy => by have := hS.at_ hdd hmm i y hy; exact ⟨this.1, this.2.2⟩) hx hl).mono ?_
  rintro e w' ⟨⟨k', s', n', m', y, is, rfl, hcr, -, hor⟩, hb⟩
  refine ⟨⟨k', s', n', m', ?_⟩, hb⟩
  unfold gotT
  rcases hor with ⟨-, h2, rfl⟩ | ⟨h, rfl, rfl⟩
  · rw [h2]; exact ⟨rfl, hcr⟩
  · have : getT ts key = none := by
      rcases h with h | h
      · cases hg : getT ts key with
        | none => rfl
        | some y =>
          obtain ⟨h1, h2⟩ := (get_mem hS.inv key y).1 hg
          have := (hS.ok y h1).2.1
          rw [h2, h] at this
          cases this
      · exact h
    rw [this]; exact ⟨rfl, hcr⟩
theorem rtGet_st (B T gC gI N dd mm : Nat) (vs : List (Option V5)) (ts : List (Option Cel)) (kv : Value) (key : List Int) (w : World) (hB : RT B w T gC gI vs ts) (hS : StR N dd mm ts) (hN2 : N ≤ 10000) (hdd : dd ≤ 4) (hmm : mm ≤ 2) (hx : RI w kv key) (hl : key.length ≤ 1000) :
    Calls Try.prog 18 #[.pointer (some ⟨T, 0, none⟩), kv] w fun e w' => (∃ k' s' n' m', e = .returned (.tuple #[.agg #[k', .int .i64 (gotT ts key).cnt, s', n', m'], .bool (getT ts key).isSome]) ∧ CR w' k' s' n' m' (gotT ts key)) ∧ Below w.heap.size w w' := by
  obtain ⟨P, c, rfl, hn, -⟩ := hx
  refine (rtGet_any B T gC gI vs ts P c key.length key w hB hS.inv hn hl (by rw [hS.len]; exact hN2) (fun i y hy => by have := hS.at_ hdd hmm i y hy; exact ⟨this.1, this.2.2⟩)).mono ?_
  rintro e w' ⟨⟨k', s', n', m', y, is, rfl, hcr, -, hor⟩, hb⟩
  refine ⟨⟨k', s', n', m', ?_⟩, hb⟩
  unfold gotT
  rcases hor with ⟨h2, rfl⟩ | ⟨h2, rfl, rfl⟩
  · rw [h2]; exact ⟨rfl, hcr⟩
  · rw [h2]; exact ⟨rfl, hcr⟩
/-- What a table of N slots holds behind the Puts of some cells. -/
def foldT (N : Nat) (L : List Cel) : List (Option Cel) := L.foldl stepT (List.replicate N none)
theorem foldT_snoc {N k : Nat} {L : List Cel} {x : Cel} (hx : L[k]? = some x) : foldT N (L.take (k + 1)) = stepT (foldT N (L.take k)) x := by
  unfold foldT
  rw [List.take_add_one, hx, Option.toList_some, List.foldl_append]
  rfl
theorem StR.fold {N dd mm : Nat} {L : List Cel} (h : OkL dd mm L) : StR N dd mm (foldT N L) := by
  unfold foldT
  suffices H : ∀ (L : List Cel) (ts : List (Option Cel)), OkL dd mm L → StR N dd mm ts → StR N dd mm (L.foldl stepT ts) from H L _ h StR.new
  intro L
  induction L with
  | nil => exact fun ts _ h => h
  | cons x t ih => exact fun ts h1 h2 => ih _ (fun y hy => h1 y (List.mem_cons_of_mem _ hy)) (h2.step (h1 x List.mem_cons_self))
theorem StR.foldk {N dd mm k : Nat} {L : List Cel} (h : OkL dd mm L) : StR N dd mm (foldT N (L.take k)) := StR.fold fun y hy => h y (List.mem_of_mem_take hy)
section
variable {B : Nat} {X Y : World} {M : Nat → Prop}
theorem Tb.tchF {T g : Nat} {d me : Int} {vs : List (Option V5)} {ts : List (Option Cel)} (h : Tb B X T g d me vs ts) (ht : Tch M X Y) (hM : ∀ k, M k → k < B) : Tb B Y T g d me vs ts :=
  ⟨(ht.block T h.bx.lt fun e => by have := hM T e; have := h.hT; omega).trans h.bx, ⟨(ht.block g h.tab.blk.lt fun e => by have := hM g e; have := h.hg; omega).trans h.tab.blk, h.tab.len, fun i v t hv hts => (h.tab.at_ i v t hv hts).stay fun o => o.tchF ht hM⟩, h.hT, h.hg⟩
theorem RT.tchF {T gC gI : Nat} {vs : List (Option V5)} {ts : List (Option Cel)} (h : RT B X T gC gI vs ts) (ht : Tch M X Y) (hM : ∀ k, M k → k < B) : RT B Y T gC gI vs ts :=
  ⟨(ht.block T h.bx.lt fun e => by have := hM T e; have := h.hT; omega).trans h.bx, (ht.block gC h.cs.lt fun e => by have := hM gC e; have := h.hC; omega).trans h.cs, (ht.block gI h.is.lt fun e => by have := hM gI e; have := h.hI; omega).trans h.is, h.len, fun i v t hv hts => (h.at_ i v t hv hts).stay fun o => o.tchF ht hM, h.hT, h.hC, h.hI⟩
end
/-- Two of the package's tables, the second empty, and one of the reference's. -/
def Own3 (B5 B6 B7 N T g To go T2 gC gI : Nat) (ts : List (Option Cel)) (X : World) : Prop := ∃ d me vs vs2, Tb B5 X T g d me vs ts ∧ Tb B6 X To go 0 0 (List.replicate N none) (List.replicate N none) ∧ RT B7 X T2 gC gI vs2 ts
theorem Own3.below {B5 B6 B7 N T g To go T2 gC gI : Nat} {ts : List (Option Cel)} {X Y : World} (h : Own3 B5 B6 B7 N T g To go T2 gC gI ts X) (hb : Below X.heap.size X Y) : Own3 B5 B6 B7 N T g To go T2 gC gI ts Y := by
  obtain ⟨d, me, vs, vs2, h1, h2, h3⟩ := h
  exact ⟨d, me, vs, vs2, h1.below hb, h2.below hb, h3.below hb⟩
theorem Own3.tchF {B5 B6 B7 N T g To go T2 gC gI : Nat} {ts : List (Option Cel)} {X Y : World} {M : Nat → Prop} (h : Own3 B5 B6 B7 N T g To go T2 gC gI ts X) (ht : Tch M X Y) (hM : ∀ k, M k → k < B5) (h6 : B5 ≤ B6) (h7 : B6 ≤ B7) : Own3 B5 B6 B7 N T g To go T2 gC gI ts Y := by
  obtain ⟨d, me, vs, vs2, h1, h2, h3⟩ := h
  exact ⟨d, me, vs, vs2, h1.tchF ht hM, h2.tchF ht fun k hk => by have := hM k hk; omega, h3.tchF ht fun k hk => by have := hM k hk; omega⟩
end Go.Proofs.Ytioddfodajinlaa
