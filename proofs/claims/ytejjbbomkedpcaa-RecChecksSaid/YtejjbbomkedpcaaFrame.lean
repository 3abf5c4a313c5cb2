/- What a law is told of a schema, of rows, that come in. -/
import Derived.Test.YtejjbbomkedpcaaLaw
import Derived.Test.YtejjbbomkedpcaaRows
import Derived.ProofKit
import Derived.OpenShut
import Derived.Lib.SmallJoins
import Derived.Deep.Slices
namespace Go.Proofs.Ytejjbbomkedpcaa
open Go.RowKit Go.ChangeShapes Go.WideShapes Go.ChangeAt Go.Deep
theorem list_of (n : Nat) (P : Nat → Fact → Prop) (h : ∀ i, i < n → ∃ r, P i r) : ∃ l : List Fact, l.length = n ∧ ∀ (j : Nat) (r : Fact), l[j]? = some r → P j r := by
  induction n with
  | zero => exact ⟨[], rfl, fun j r hj => by simp at hj⟩
  | succ n ih =>
    obtain ⟨l, hl, hp⟩ := ih fun i hi => h i (by omega)
    obtain ⟨r, hr⟩ := h n (by omega)
    refine ⟨l ++ [r], by simp [hl], fun j x hj => ?_⟩
    rcases Nat.lt_or_ge j n with hjn | hjn
    · exact hp j x (by rwa [List.getElem?_append_left (by omega)] at hj)
    · have hlt := (List.getElem?_eq_some_iff.1 hj).1
      rw [List.length_append, hl] at hlt
      obtain rfl : j = n := by simp at hlt; omega
      rw [List.getElem?_append_right (by omega), hl, Nat.sub_self] at hj
      simp at hj
      rw [← hj]; exact hr
section
variable {H : Type} {enc : TypeId × Value → H} {W : World} {spare : Nat → Bool} {held : Bool} {fuel : Nat}
/-- A slice of ints that came in. -/
theorem ints_in {cs : List Value} {x : DataW H × List MemPlace} (hsp : ∀ b, spare b = true) (h : DataW.trod enc Try.prog W 0 spare held fuel 22 cs = some x) :
    ∃ a len cap zs, cs = [.slice a len cap] ∧ IsRow .i64 W a len cap zs := by
  rcases open_ints Try.underlying22 Try.underlying3 (by kernel_rfl) h with ⟨hcs, _⟩ | ⟨x, l, c, zs, hcs, _, hl, hm, hz, _, hcell, hwz⟩
  · exact ⟨none, 0, 0, [], hcs, .inl ⟨rfl, rfl, rfl, rfl⟩⟩
  · rw [hsp, if_pos rfl] at hz
    exact ⟨some x, l, c, zs, hcs, .inr ⟨x, rfl, hl, hm, hz, hcell, hwz⟩⟩
theorem nums_in {cs : List Value} {x : DataW H × List MemPlace} (hsp : ∀ b, spare b = true) (h : DataW.trod enc Try.prog W 0 spare held fuel 22 cs = some x) :
    ∃ A n c xs, cs = [.slice A n c] ∧ Nums .i64 W A n xs ∧ n ≤ c ∧ c ≤ maxLen := by
  obtain ⟨a, len, cap, zs, hcs, hr⟩ := ints_in hsp h
  obtain ⟨h1, h2, h3⟩ := hr.nums
  exact ⟨a, len, cap, _, hcs, h1, h2, by simpa [maxLen] using h3⟩
theorem cellsRow : Try.prog.cellsOf 33 = 2 := by kernel_rfl
theorem cellsInts : Try.prog.cellsOf 22 = 1 := by kernel_rfl
/-- Rows that came in. -/
theorem rows_in {cs : List Value} {x : DataW H × List MemPlace} (hsp : ∀ b, spare b = true) (h : DataW.trod enc Try.prog W 0 spare held fuel 25 cs = some x) :
    ∃ A n c l, cs = [.slice A n c] ∧ Facts W A n l ∧ n ≤ c ∧ c ≤ maxLen ∧ ∀ r ∈ l, r.key.length ≤ maxLen ∧ r.m.length ≤ maxLen := by
  rcases open_slice Try.underlying25 h with ⟨hcs, _⟩ | ⟨a, len, cap, m, n, D, Pl, hcs, _, hl, hm, hmm, _, hi⟩
  · exact ⟨none, 0, 0, [], hcs, Facts.nil _ _, Nat.le_refl _, Nat.zero_le _, fun r hr => by cases hr⟩
  · rw [hsp, if_pos rfl] at hmm
    have hrow : ∀ i, i < len → ∃ r : Fact, RowAt W (a.add (i * 2)) r ∧ r.key.length ≤ maxLen ∧ r.m.length ≤ maxLen := by
      intro i hil
      obtain ⟨cs', hc, ht⟩ := hi i (by omega)
      rw [cellsRow] at hc
      obtain ⟨_, hcl, hat⟩ := World.cells?_some hc
      obtain ⟨ys, n', _, _, _, hyl, hf⟩ := DataW.trod_struct Try.underlying33 ht
      obtain ⟨c0, c1, rfl⟩ : ∃ c0 c1, cs' = [c0, c1] := by
        match cs', hcl with
        | [c0, c1], _ => exact ⟨c0, c1, rfl⟩
      have f0 : DataW.trod enc Try.prog W 0 spare held n' 22 [c0] = ys[0]? := by simpa [cellsInts] using hf 0 _ rfl
      have f1 : DataW.trod enc Try.prog W 0 spare held n' 22 [c1] = ys[1]? := by simpa [cellsInts] using hf 1 _ rfl
      rw [List.getElem?_eq_getElem (by rw [hyl]; decide)] at f0 f1
      obtain ⟨A0, n0, d0, xs0, e0, k0, l0, m0⟩ := nums_in hsp f0
      obtain ⟨A1, n1, d1, xs1, e1, k1, l1, m1⟩ := nums_in hsp f1
      injection e0 with e0
      injection e1 with e1
      subst e0 e1
      have g0 := hat 0 (by omega)
      have g1 := hat 1 (by omega)
      refine ⟨⟨xs0, xs1⟩, ⟨A0, d0, A1, d1, ?_, ?_, ?_, ?_⟩, by show xs0.length ≤ _; rw [k0.len]; omega, by show xs1.length ≤ _; rw [k1.len]; omega⟩
      · show W.cell? (a.add (i * 2)) = some (.slice A0 xs0.length d0)
        rw [k0.len]
        rw [add_of_add] at g0
        simpa using g0
      · show W.cell? ⟨(a.add (i * 2)).block, (a.add (i * 2)).off + 1, none⟩ = some (.slice A1 xs1.length d1)
        rw [k1.len]
        have e : (a.add (i * 2)).add 1 = ⟨(a.add (i * 2)).block, (a.add (i * 2)).off + 1, none⟩ := rfl
        rw [← e]
        simpa using g1
      · show Nums .i64 W A0 xs0.length xs0
        rw [k0.len]; exact k0
      · show Nums .i64 W A1 xs1.length xs1
        rw [k1.len]; exact k1
    obtain ⟨l, hll, hlp⟩ := list_of len (fun i r => RowAt W (a.add (i * 2)) r ∧ r.key.length ≤ maxLen ∧ r.m.length ≤ maxLen) hrow
    refine ⟨some a, len, cap, l, hcs, ⟨hll, fun _ => ⟨a, rfl, fun j r hj => (hlp j r hj).1⟩⟩, hl, hm, fun r hr => ?_⟩
    obtain ⟨j, hj⟩ := List.getElem?_of_mem hr
    exact (hlp j r hj).2
end
end Go.Proofs.Ytejjbbomkedpcaa
