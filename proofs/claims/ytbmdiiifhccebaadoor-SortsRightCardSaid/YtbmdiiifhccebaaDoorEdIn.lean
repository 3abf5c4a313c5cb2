/- Edges that come in. -/
import Derived.Test.YtbmdiiifhccebaaDoorSoA
import Derived.Deep.Slices
import Derived.Deep.Strs
import Derived.ChangeSame
namespace Go.Proofs.YtbmdiiifhccebaaDoor
open Go.RowKit Go.Shelf Go.WideShapes Go.ChangeShapes Go.Deep
theorem spot_none {W : World} {a : Addr} {v : Value} (h : W.cell? a = some v) : a.spot = none := by
  unfold World.cell? at h
  split at h
  · split at h
    · cases h
    · rename_i hs; simpa using hs
  · cases h
set_option maxRecDepth 100000 in
theorem edges_in {H : Type} {enc : TypeId × Value → H} {W : World} {base fuel : Nat} {held : Bool} {a : Option Addr} {len cap : Nat} {x : DataW H × List MemPlace}
    (h : DataW.trod enc Tryd.prog W base (fun _ => true) held fuel 22 (Value.slice a len cap).cells.toList = some x) : len ≤ cap ∧ ∃ es, Edgs W a len es := by
  rcases open_slice Tryd.underlying22 h with ⟨hcs, _⟩ | ⟨ad, l, c, m, n, D, Pl, hcs, hb, hl, hm, hmm, rfl, hx⟩
  · simp [Value.cells] at hcs
    obtain ⟨rfl, rfl, rfl⟩ := hcs
    exact ⟨Nat.le_refl _, [], rfl, fun e he => absurd he (by simp), fun h => absurd h (by omega)⟩
  · simp [Value.cells] at hcs
    obtain ⟨rfl, rfl, rfl⟩ := hcs
    simp only [if_true] at hmm
    have ce : Tryd.prog.cellsOf 28 = 3 := by kernel_rfl
    have c3 : Tryd.prog.cellsOf 3 = 1 := by kernel_rfl
    have c4 : Tryd.prog.cellsOf 4 = 1 := by kernel_rfl
    have each : ∀ i, i < len → ∃ e : Ed, inK .i64 e.s ∧ inK .i64 e.p ∧ W.cell? (ad.add (i * 3)) = some (.int .i64 e.s) ∧ W.cell? (ad.add (i * 3 + 1)) = some (.int .i64 e.p) ∧ W.cell? (ad.add (i * 3 + 2)) = some (.bool e.sc) := by
      intro i hi
      obtain ⟨cs', h1, h2⟩ := hx i (by omega)
      rw [ce] at h1
      obtain ⟨_, hlen, hcell⟩ := World.cells?_some h1
      obtain ⟨y0, y1, y2, n', -, -, g0, g1, g2⟩ := trod_struct3 Tryd.underlying28 h2
      match cs', hlen with
      | [v0, v1, v2], _ =>
        simp [c3, c4] at g0 g1 g2
        obtain ⟨s, hs, -, ws⟩ := DataW.trod_int Tryd.underlying3 g0
        obtain ⟨p, hp, -, wp⟩ := DataW.trod_int Tryd.underlying3 g1
        obtain ⟨b, hb, -⟩ := DataW.trod_bool Tryd.underlying4 g2
        simp at hs hp hb
        have e0 := hcell 0 (by omega)
        have e1 := hcell 1 (by omega)
        have e2 := hcell 2 (by omega)
        rw [add_add] at e0 e1 e2
        refine ⟨⟨s, p, b⟩, bounds_i64 ws, bounds_i64 wp, ?_, ?_, ?_⟩
        · simpa [hs] using e0
        · simpa [hp] using e1
        · simpa [hb] using e2
    obtain ⟨f, hf⟩ : ∃ f : Nat → Ed, ∀ i, i < len → inK .i64 (f i).s ∧ inK .i64 (f i).p ∧ W.cell? (ad.add (i * 3)) = some (.int .i64 (f i).s) ∧ W.cell? (ad.add (i * 3 + 1)) = some (.int .i64 (f i).p) ∧ W.cell? (ad.add (i * 3 + 2)) = some (.bool (f i).sc) := by
      classical
      refine ⟨fun i => if h : i < len then Classical.choose (each i h) else ⟨0, 0, false⟩, fun i hi => ?_⟩
      simp only [dif_pos hi]
      exact Classical.choose_spec (each i hi)
    refine ⟨hl, (List.range len).map f, by simp, fun e he => ?_, fun hpos => ?_⟩
    · obtain ⟨i, hi, rfl⟩ := List.mem_map.1 he
      have := hf i (List.mem_range.1 hi)
      exact ⟨this.1, this.2.1⟩
    · obtain ⟨g, o, sp⟩ := ad
      have hsp := spot_none (hf 0 hpos).2.2.1
      have hsp : sp = none := hsp
      subst hsp
      refine ⟨g, o, rfl, fun j e he => ?_⟩
      have hj : j < len := by have := (List.getElem?_eq_some_iff.1 he).1; simpa using this
      rw [List.getElem?_map, List.getElem?_range hj] at he
      injection he with he
      subst he
      have q := (hf j hj).2.2
      rw [add_plain, add_plain, add_plain, ← Nat.add_assoc, ← Nat.add_assoc] at q
      exact q
end Go.Proofs.YtbmdiiifhccebaaDoor
