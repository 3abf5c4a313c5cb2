/- Package runs: Runs. -/
import Derived.IntWalk
import Derived.Test.YtmolfcccfekcpaaPieces
import Derived.Test.YtmolfcccfekcpaaRunE
import Derived.Test.YtmolfcccfekcpaaSet
import Derived.Test.YtmolfcccfekcpaaMath5
import Derived.Test.YtmolfcccfekcpaaFactsLaw2
import Derived.Test.YtmolfcccfekcpaaHsh0
import Derived.Test.YtmolfcccfekcpaaIsRow
import Derived.Test.YtmolfcccfekcpaaDeal
namespace Go.Proofs.Ytmolfcccfekcpaa
open Go.RowKit Go.Shelf
attribute [local go_sem] Oper.semAt_some
theorem infoSC : (Try.prog.info? 31).map (fun i => (i.zero, i.size, i.bytes)) = some (some (.slice none 0 0), 1, 24) := by kernel_rfl
/-- Runs: the values of the slices, and of what each holds. -/
abbrev RSt := Value × List (Value × List V5)
/-- A row of runs, each the call's own. -/
def GSz (B : Nat) (X : World) (st : RSt) (Js : List (List Cel)) : Prop :=
  X.ownsRow B 31 1 st.1 st.2.length (st.2.map (·.1)) ∧ st.2.length = Js.length ∧ ∀ (i : Nat) p J, st.2[i]? = some p → Js[i]? = some J → GRs B X p.1 p.2 J
/-- The blocks of a run. -/
def fpG (v : Value) (us : List V5) (k : Nat) : Prop := v.ownBlock = some k ∨ ∃ u ∈ us, u.a.ownBlock = some k ∨ u.c.ownBlock = some k ∨ u.d.ownBlock = some k ∨ u.e.ownBlock = some k
/-- The blocks of all runs. -/
def fpZ (st : RSt) (k : Nat) : Prop := st.1.ownBlock = some k ∨ ∃ p ∈ st.2, fpG p.1 p.2 k
theorem GRs.stayF {B : Nat} {X Y : World} {v : Value} {us : List V5} {J : List Cel} (h : GRs B X v us J) (hb : ∀ k, fpG v us k → Y.heap[k]? = X.heap[k]?) : GRs B Y v us J := by
  refine ⟨own_stay h.1 fun k hk => hb k (.inl hk), h.2.1, fun i u x hu hx => ?_⟩
  obtain ⟨h1, ⟨a, b, c, d⟩, h3⟩ := h.2.2 i u x hu hx
  have hm := List.mem_of_getElem? hu
  exact ⟨h1, ⟨⟨own_stay a.1 fun k hk => hb k (.inr ⟨u, hm, .inl hk⟩), a.2⟩, ⟨own_stay b.1 fun k hk => hb k (.inr ⟨u, hm, .inr (.inl hk)⟩), b.2⟩, ⟨own_stay c.1 fun k hk => hb k (.inr ⟨u, hm, .inr (.inr (.inl hk))⟩), c.2⟩, ⟨own_stay d.1 fun k hk => hb k (.inr ⟨u, hm, .inr (.inr (.inr hk))⟩), d.2⟩⟩, h3⟩
theorem GRs.fp_lt {B : Nat} {X : World} {v : Value} {us : List V5} {J : List Cel} (h : GRs B X v us J) {k : Nat} (hk : fpG v us k) : B ≤ k ∧ k < X.heap.size := by
  rcases hk with hk | ⟨u, hu, hk⟩
  · exact h.1.lt k hk
  · obtain ⟨i, hi⟩ := List.getElem?_of_mem hu
    have hl := (List.getElem?_eq_some_iff.1 hi).1
    obtain ⟨-, ⟨a, b, c, d⟩, -⟩ := h.2.2 i u _ hi (List.getElem?_eq_getElem (by rw [← h.2.1]; exact hl))
    rcases hk with hk | hk | hk | hk
    · exact a.1.lt k hk
    · exact b.1.lt k hk
    · exact c.1.lt k hk
    · exact d.1.lt k hk
theorem cells_row {B n : Nat} {T : TypeId} {sz : Nat} {X : World} {k : Nat} {v : Value} {xs : List Value} (h : X.ownsRow B T sz v n xs) (hk : v.ownBlock = some k) : ∃ cs, X.heap[k]? = some (.cells cs T (0, 0)) := by
  rcases h.2 with ⟨rfl, _⟩ | ⟨g', cap, cur, rfl, _, hh, _⟩
  · simp [Value.ownBlock] at hk
  · simp only [Value.ownBlock, Option.some.injEq] at hk
    subst hk
    exact ⟨cur, hh⟩
theorem GRs.fp_cells {B : Nat} {X : World} {v : Value} {us : List V5} {J : List Cel} (h : GRs B X v us J) {k : Nat} (hk : fpG v us k) : ∃ cs T, X.heap[k]? = some (.cells cs T (0, 0)) ∧ (T = 44 ∨ T = 3) := by
  rcases hk with hk | ⟨u, hu, hk⟩
  · obtain ⟨cs, e⟩ := cells_row h.1 hk
    exact ⟨cs, _, e, .inl rfl⟩
  · obtain ⟨i, hi⟩ := List.getElem?_of_mem hu
    have hl := (List.getElem?_eq_some_iff.1 hi).1
    obtain ⟨-, ⟨a, b, c, d⟩, -⟩ := h.2.2 i u _ hi (List.getElem?_eq_getElem (by rw [← h.2.1]; exact hl))
    rcases hk with hk | hk | hk | hk
    · obtain ⟨cs, e⟩ := cells_row a.1 hk; exact ⟨cs, _, e, .inr rfl⟩
    · obtain ⟨cs, e⟩ := cells_row b.1 hk; exact ⟨cs, _, e, .inr rfl⟩
    · obtain ⟨cs, e⟩ := cells_row c.1 hk; exact ⟨cs, _, e, .inr rfl⟩
    · obtain ⟨cs, e⟩ := cells_row d.1 hk; exact ⟨cs, _, e, .inr rfl⟩
section
variable {B : Nat} {X Y : World} {st : RSt} {Js : List (List Cel)}
theorem GSz.stayF (h : GSz B X st Js) (hb : ∀ k, fpZ st k → Y.heap[k]? = X.heap[k]?) : GSz B Y st Js := ⟨own_stay h.1 fun k hk => hb k (.inl hk), h.2.1, fun i p J hp hJ => (h.2.2 i p J hp hJ).stayF fun k hk => hb k (.inr ⟨p, List.mem_of_getElem? hp, hk⟩)⟩
theorem GSz.fp_lt (h : GSz B X st Js) {k : Nat} (hk : fpZ st k) : B ≤ k ∧ k < X.heap.size := by
  rcases hk with hk | ⟨p, hp, hk⟩
  · exact h.1.lt k hk
  · obtain ⟨i, hi⟩ := List.getElem?_of_mem hp
    have hl := (List.getElem?_eq_some_iff.1 hi).1
    exact (h.2.2 i p _ hi (List.getElem?_eq_getElem (by rw [← h.2.1]; exact hl))).fp_lt hk
theorem GSz.fp_cells (h : GSz B X st Js) {k : Nat} (hk : fpZ st k) : ∃ cs T, X.heap[k]? = some (.cells cs T (0, 0)) := by
  rcases hk with hk | ⟨p, hp, hk⟩
  · obtain ⟨cs, e⟩ := cells_row h.1 hk
    exact ⟨cs, _, e⟩
  · obtain ⟨i, hi⟩ := List.getElem?_of_mem hp
    have hl := (List.getElem?_eq_some_iff.1 hi).1
    obtain ⟨cs, T, e, -⟩ := (h.2.2 i p _ hi (List.getElem?_eq_getElem (by rw [← h.2.1]; exact hl))).fp_cells hk
    exact ⟨cs, T, e⟩
/-- One more run. -/
theorem append_gz {u : Value} {zs : List V5} {J : List Cel} (h : GSz B X st Js) (hu : GRs B X u zs J) (hne : ∀ k, fpG u zs k → st.1.ownBlock ≠ some k) (hl : st.2.length + 1 ≤ 1000000) (hB : B ≤ X.heap.size) :
    ∃ v' Y, (Builtin.append_ #[29, 29] 29 #[st.1, .slice (some ⟨X.heap.size, 0, none⟩) 1 1]).run Try.prog (X.alloc (.cells #[u] 31)) = .ok v' Y ∧ GSz B Y (v', st.2 ++ [(u, zs)]) (Js ++ [J]) ∧ Tch (fun k => st.1.ownBlock = some k) X Y ∧ (∀ k, v'.ownBlock = some k → st.1.ownBlock = some k ∨ X.heap.size ≤ k) := by
  have hb : Below X.heap.size X (X.alloc (.cells #[u] 31)) := (Below.refl _ _).alloc (Nat.le_refl _) _
  obtain ⟨i0, hi, hz0, hz1, hz2⟩ := info_parts infoSC
  have ho2 := own_below h.1 hb (Nat.le_refl _)
  have hone : u.oneCell' = true := by obtain ⟨P, c, rfl, -⟩ := hu.form; rfl
  obtain ⟨v', Y, hrun, hr, hg, -, hbl⟩ := run_append_own_at (P := Try.prog) (X.alloc (.cells #[u] 31)) B 29 29 31 i0 _ 1 24 Try.underlying29 hi hz0 hz1 hz2 rfl (by omega) st.1 st.2.length (st.2.map (·.1)) ho2 ⟨X.heap.size, 0, none⟩ 1 1 [u] rfl
    (fun j w hw => by
      rw [add0, show (X.alloc (.cells #[u] 31)).cell? ⟨X.heap.size, j, none⟩ = #[u][j]? from cell_of_row _ _ _ _ 31 (0, 0) (heap_alloc_new X _)]
      simpa using hw) (by intro x hx; rw [List.mem_singleton] at hx; subst hx; exact hone) (by simp only [maxLen]; omega) (by omega) (by simp; omega)
  have ht : Tch (fun k => st.1.ownBlock = some k) X Y := (Tch.of_below _ hb).same (Tch.of_grown hg fun k e => e)
  have hstay : ∀ {p : Value × List V5} {J' : List Cel}, GRs B X p.1 p.2 J' → (∀ k, fpG p.1 p.2 k → st.1.ownBlock ≠ some k) → GRs B Y p.1 p.2 J' := fun {p J'} hp hn => hp.stayF fun k hk => ht.block k (hp.fp_lt hk).2 (hn k hk)
  refine ⟨v', Y, hrun, ⟨by rw [List.length_append, List.map_append]; exact hr, by rw [List.length_append, List.length_append, h.2.1]; rfl, fun i p J' hp hJ => ?_⟩, ht, fun k hk => ?_⟩
  · dsimp only at hp
    rcases Nat.lt_or_ge i st.2.length with hi2 | hi2
    · rw [List.getElem?_append_left hi2] at hp
      rw [List.getElem?_append_left (by rw [← h.2.1]; exact hi2)] at hJ
      have hp0 := h.2.2 i p J' hp hJ
      refine hstay hp0 fun k hk e => ?_
      obtain ⟨cs, T, e1, hT⟩ := hp0.fp_cells hk
      obtain ⟨cs2, e2⟩ := cells_row h.1 e
      rw [e1] at e2
      injection e2 with e2
      injection e2 with _ e3 _
      rcases hT with hT | hT <;> (rw [hT] at e3; exact absurd e3 (by decide))
    · rw [List.getElem?_append_right hi2] at hp
      rw [List.getElem?_append_right (by rw [← h.2.1]; exact hi2), ← h.2.1] at hJ
      have e0 : i - st.2.length = 0 := by
        rcases Nat.eq_zero_or_pos (i - st.2.length) with h | h
        · exact h
        · rw [List.getElem?_eq_none (by simp; omega)] at hp; cases hp
      rw [e0] at hp hJ
      simp only [List.getElem?_cons_zero, Option.some.injEq] at hp hJ
      subst hp hJ
      exact hstay hu hne
  · rcases hbl with e | e
    · exact .inl (by rw [← e, hk])
    · rw [e] at hk
      injection hk with hk
      right
      rw [← hk]; simp
end
end Go.Proofs.Ytmolfcccfekcpaa
/- Package runs: Runs. -/
namespace Go.Proofs.Ytmolfcccfekcpaa
open Go.RowKit Go.Shelf
attribute [local go_sem] Oper.semAt_some
/-- A box. -/
def BoxV (X : World) (b : Nat) (v : Value) : Prop := ∃ T, Own T X b [v]
theorem GSz.mono {B B' : Nat} {X : World} {st : RSt} {Js : List (List Cel)} (h : GSz B X st Js) (hb : B' ≤ B) : GSz B' X st Js := ⟨own_mono h.1 hb, h.2.1, fun i p J hp hJ => (h.2.2 i p J hp hJ).mono hb⟩
theorem BoxV.stay {X Y : World} {b : Nat} {v : Value} {M : Nat → Prop} (h : BoxV X b v) (ht : Tch M X Y) (hM : ¬ M b) : BoxV Y b v := by
  obtain ⟨T, h⟩ := h
  exact ⟨T, (ht.block _ h.lt hM).trans h⟩
theorem BoxV.cell {X : World} {b : Nat} {v : Value} (h : BoxV X b v) : X.cell? ⟨b, 0, none⟩ = some v := by
  obtain ⟨T, h⟩ := h
  exact h.cell (i := 0) rfl
theorem GSz.not_loop {B : Nat} {X : World} {st : RSt} {Js : List (List Cel)} (h : GSz B X st Js) {k : Nat} {o : Obj} (ho : X.heap[k]? = some o) (hc : o.isCells = false) : ¬ fpZ st k := fun hk => by
  obtain ⟨cs, T, e⟩ := h.fp_cells hk
  rw [ho] at e
  injection e with e
  subst e
  cases hc
theorem row_not {B n : Nat} {T : TypeId} {sz : Nat} {X : World} {k : Nat} {v : Value} {xs : List Value} {o : Obj} (h : X.ownsRow B T sz v n xs) (ho : X.heap[k]? = some o) (hc : o.isCells = false) : v.ownBlock ≠ some k := fun hk => by
  obtain ⟨cs, e⟩ := cells_row (n := n) h hk
  rw [ho] at e
  injection e with e
  subst e
  cases hc
/-- A piece stands where a loop's own mark turns. -/
theorem PieceR.loop {w0 : World} {B me K : Nat} {okp : Nat → Prop} {x : PX} {X Y : World} {b : Nat} {o : Obj} (h : PieceR w0 B me K okp x X) (ht : Tch (fun k => k = b) X Y) (ho : X.heap[b]? = some o) (hc : o.isCells = false) : PieceR w0 B me K okp x Y :=
  ⟨own_stay h.row fun k hk => ht.block k (h.row.lt k hk).2 fun e => row_not h.row (e ▸ ho) hc hk, h.rd.tchN ht fun _ e => notint_of (e ▸ ho) hc, h.okr, h.good, h.apart, h.ne, h.len⟩
theorem fpZ_snoc {v : Value} {st : RSt} {u : Value} {zs : List V5} {k : Nat} (h : fpZ (v, st.2 ++ [(u, zs)]) k) : v.ownBlock = some k ∨ fpZ st k ∨ fpG u zs k := by
  rcases h with h | ⟨p, hp, h⟩
  · exact .inl h
  · rcases List.mem_append.1 hp with hp | hp
    · exact .inr (.inl (.inr ⟨p, hp, h⟩))
    · rw [List.mem_singleton] at hp
      subst hp
      exact .inr (.inr h)
theorem OwnL.fresh {B : Nat} {X : World} {us : List V5} {J : List Cel} (h : OwnL B X us J) {u : V5} (hu : u ∈ us) {k : Nat} (hk : u.a.ownBlock = some k ∨ u.c.ownBlock = some k ∨ u.d.ownBlock = some k ∨ u.e.ownBlock = some k) : B ≤ k := by
  obtain ⟨i, hi⟩ := List.getElem?_of_mem hu
  have hl := (List.getElem?_eq_some_iff.1 hi).1
  obtain ⟨-, ⟨a, b, c, d⟩, -⟩ := h.2 i u _ hi (List.getElem?_eq_getElem (by rw [← h.1]; exact hl))
  rcases hk with hk | hk | hk | hk
  · exact (a.1.lt k hk).1
  · exact (b.1.lt k hk).1
  · exact (c.1.lt k hk).1
  · exact (d.1.lt k hk).1
end Go.Proofs.Ytmolfcccfekcpaa
/- Package runs: runs read in memory. -/
namespace Go.Proofs.Ytmolfcccfekcpaa
open Go.RowKit Go.Shelf
theorem GSz.form {B : Nat} {X : World} {v : Value} {gs : List (Value × List V5)} {Js : List (List Cel)} (h : GSz B X (v, gs) Js) : ∃ P c, v = .slice P Js.length c ∧ Js.length ≤ c ∧ c ≤ maxLen ∧ RunsC X P Js.length Js ∧ (P = none → c = 0) := by
  obtain ⟨P, c, hv, h1, h2, h3⟩ := own_form h.1
  have hl := h.2.1
  dsimp only at hv h1 h3 hl
  rw [hl] at hv h1 h3
  refine ⟨P, c, hv, h1, h2, fun hn => ?_, fun e => ?_⟩
  · obtain ⟨g, rfl, -, q5⟩ := h3 hn
    refine ⟨_, rfl, fun i J hJ => ?_⟩
    obtain ⟨p, hp⟩ : ∃ p, gs[i]? = some p := ⟨_, List.getElem?_eq_getElem (by rw [hl]; exact (List.getElem?_eq_some_iff.1 hJ).1)⟩
    have hG := h.2.2 i p J hp hJ
    obtain ⟨Pi, ci, e1, e2, e3, -, e4⟩ := hG.form
    have hul := hG.len
    rw [hul] at e1 e2
    refine ⟨Pi, ci, ?_, ?_, e2, e3, e4⟩
    · rw [add0, ← e1]
      exact q5 i p.1 (by rw [List.getElem?_map, hp]; rfl)
    · rw [e1] at hG
      exact hG.rowC.1
  · rcases own_form0 h.1 with ⟨e1, _⟩ | ⟨g, c', e1, _⟩
    · rw [hv] at e1; injection e1
    · rw [hv, e] at e1; injection e1 with e1 _ _; cases e1
end Go.Proofs.Ytmolfcccfekcpaa
/- Facts' cells as a table takes them. -/
namespace Go.Proofs.Ytmolfcccfekcpaa
open Go.RowKit
theorem pk_alike (k1 k2 : List Int) (set : Int) : ∀ i, (pk k1 set i).length = (pk k2 set i).length
  | 0 => rfl
  | i + 1 => by
    have := pk_alike k1 k2 set i
    unfold pk
    split
    · simp [this]
    · exact this
theorem pk_vals (key : List Int) (set : Int) (h : ∀ v ∈ key, 0 ≤ v ∧ v ≤ 15) : ∀ i, ∀ v ∈ pk key set i, 0 ≤ v ∧ v ≤ 15
  | 0 => by simp [pk]
  | i + 1 => by
    have ih := pk_vals key set h i
    unfold pk
    split
    · intro v hv
      rcases List.mem_append.1 hv with h1 | h1
      · exact ih v h1
      · rw [List.mem_singleton] at h1
        subst h1
        cases hk : key[i]? with
        | none => simp
        | some x => exact h x (List.mem_of_getElem? hk)
    · exact ih
theorem keysB_16 : ∀ {cs vs : List Int}, keysB cs vs = true → (∀ x ∈ cs, 1 ≤ x ∧ x ≤ 16) → ∀ v ∈ vs, 0 ≤ v ∧ v ≤ 15
  | [], [], _, _ => by simp
  | c :: cs, v :: vs, h, hc => by
    simp only [keysB, Bool.and_eq_true, decide_eq_true_eq] at h
    intro x hx
    rcases List.mem_cons.1 hx with rfl | hx
    · have := hc c (by simp); omega
    · exact keysB_16 h.2 (fun y hy => hc y (by simp [hy])) x hx
/-- How many dimensions a set's keys have. -/
def dimN (sa : Int) (q : Nat) : Nat := (pk [] sa q).length
theorem dimN_le (sa : Int) (q : Nat) : dimN sa q ≤ q := pk_len [] sa q
/-- Cells of facts are of one shape, in bounds. -/
def OkL (d mm : Nat) (L : List Cel) : Prop := ∀ x ∈ L, x.key.length = d ∧ okK x.key = true ∧ EvenC mm x
theorem ok_cells {cs : List Int} {q mm : Nat} {l : List Fact} (sa : Int) (hr : allRightB cs (mm : Int) l = true) (hl : ∀ r ∈ l, r.key.length = q ∧ r.m.length = mm) (hc : ∀ x ∈ cs, 1 ≤ x ∧ x ≤ 16) : OkL (dimN sa q) mm (l.map (ofC sa)) := fun x hx => by
  obtain ⟨r, hr1, rfl⟩ := List.mem_map.1 hx
  obtain ⟨h1, h2⟩ := hl r hr1
  have h3 := rightB_key ((allRightB_spec hr).2 r hr1)
  refine ⟨?_, ?_, ⟨h2, h2, h2⟩⟩
  · show (pk r.key sa r.key.length).length = dimN sa q
    rw [h1]
    exact pk_alike _ _ _ _
  · show okK (pk r.key sa r.key.length) = true
    unfold okK
    rw [List.all_eq_true]
    intro v hv
    exact decide_eq_true (pk_vals r.key sa (keysB_16 h3 hc) _ v hv)
theorem OkL.few {d mm : Nat} {L : List Cel} (h : OkL d mm L) (hd : d ≤ 1000) (hm : mm ≤ 1000000) : FewC L := fun x hx => by
  obtain ⟨h1, -, h2, h3, h4⟩ := h x hx
  omega
theorem grp_okL {d mm : Nat} {L : List Cel} (h : OkL d mm L) : OkL d mm (grpR L) := fun x hx => by
  refine ⟨?_, ?_, grp_even L [] (fun y hy => by cases hy) (fun y hy => (h y hy).2.2) x hx⟩
  · rcases grp_keys L [] x hx with ⟨z, hz, _⟩ | ⟨z, hz, e⟩
    · cases hz
    · rw [← e]; exact (h z hz).1
  · rcases grp_keys L [] x hx with ⟨z, hz, _⟩ | ⟨z, hz, e⟩
    · cases hz
    · rw [← e]; exact (h z hz).2.1
theorem isrow_ri {w : World} {a : Option Addr} {len cap : Nat} {zs : List Int} (h : IsRow .i64 w a len cap zs) : RI w (.slice a len cap) (zs.take len) := by
  obtain ⟨h1, h2, h3⟩ := h.nums
  have hl := h1.1
  refine ⟨a, cap, by rw [hl], by rw [hl]; exact h1, by rw [hl]; exact h2, by simpa [maxLen] using h3, fun e => ?_⟩
  rcases h with ⟨_, _, h4, _⟩ | ⟨x, h4, _⟩
  · exact h4
  · rw [e] at h4; cases h4
theorem OI.tchF {B : Nat} {X Y : World} {v : Value} {xs : List Int} {M : Nat → Prop} (h : OI B X v xs) (ht : Tch M X Y) (hM : ∀ k, M k → k < B) : OI B Y v xs :=
  ⟨own_stay h.1 fun k hk => ht.block k (h.1.lt k hk).2 fun e => by have := hM k e; have := (h.1.lt k hk).1; omega, h.2⟩
theorem GRs.tchF {B : Nat} {X Y : World} {v : Value} {us : List V5} {J : List Cel} {M : Nat → Prop} (h : GRs B X v us J) (ht : Tch M X Y) (hM : ∀ k, M k → k < B) : GRs B Y v us J :=
  ⟨own_stay h.1 fun k hk => ht.block k (h.1.lt k hk).2 fun e => by have := hM k e; have := (h.1.lt k hk).1; omega, h.2.stay fun o => o.tchF ht hM⟩
end Go.Proofs.Ytmolfcccfekcpaa
/- Package runs: facts' cells may be dealt out; its Runs over a row that reads as they do. -/
namespace Go.Proofs.Ytmolfcccfekcpaa
open Go.RowKit Go.Shelf
theorem okL_good {d me : Nat} {L : List Cel} (h : OkL d me L) (hd : d ≤ 1000) (hi : ∀ x ∈ L, inK .i64 x.cnt) : ∀ x ∈ L, GoodC me x := fun x hx => by
  obtain ⟨h1, h2, h3⟩ := h x hx
  refine ⟨fun v hv => ?_, by omega, h3, hi x hx⟩
  unfold okK at h2
  have := List.all_eq_true.1 h2 v hv
  exact of_decide_eq_true this
theorem ofC_cnt (sa : Int) (l : List Fact) : ∀ x ∈ l.map (ofC sa), inK .i64 x.cnt := fun x hx => by
  obtain ⟨r, -, rfl⟩ := List.mem_map.1 hx
  simp [ofC, inK]
theorem ofC_one (sa : Int) (l : List Fact) : ∀ x ∈ l.map (ofC sa), x.cnt = 1 := fun x hx => by
  obtain ⟨r, -, rfl⟩ := List.mem_map.1 hx
  rfl
end Go.Proofs.Ytmolfcccfekcpaa
