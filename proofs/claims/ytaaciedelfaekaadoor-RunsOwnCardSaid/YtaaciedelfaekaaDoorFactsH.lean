/- Facts' cells as a table takes them. -/
import Derived.Test.YtaaciedelfaekaaDoorFactsLaw2
import Derived.Test.YtaaciedelfaekaaDoorSet
import Derived.Test.YtaaciedelfaekaaDoorHsh0
import Derived.Test.YtaaciedelfaekaaDoorIsRow
import Derived.Test.YtaaciedelfaekaaDoorDeal
namespace Go.Proofs.YtaaciedelfaekaaDoor
open Go.RowKit
theorem pk_alike (k1 k2 : List Int) (set : Int) : ∀ i, (pk k1 set i).length = (pk k2 set i).length
  | 0 => rfl
  | i + 1 => by
    have := pk_alike k1 k2 set i
    unfold pk
    split
    · simp [this]
    · exact this
theorem pk_vals (key : List Int) (set : Int) (h : ∀ v ∈ key, 0 ≤ v ∧ v ≤ 15) : ∀ i, ∀ v ∈ pk key set i, 0 ≤ v ∧ v ≤ 15
  | 0 => by simp [pk]
  | i + 1 => by
    have ih := pk_vals key set h i
    unfold pk
    split
    · intro v hv
      rcases List.mem_append.1 hv with h1 | h1
      · exact ih v h1
      · rw [List.mem_singleton] at h1
        subst h1
        cases hk : key[i]? with
        | none => simp
        | some x => exact h x (List.mem_of_getElem? hk)
    · exact ih
theorem keysB_16 : ∀ {cs vs : List Int}, keysB cs vs = true → (∀ x ∈ cs, 1 ≤ x ∧ x ≤ 16) → ∀ v ∈ vs, 0 ≤ v ∧ v ≤ 15
  | [], [], _, _ => by simp
  | c :: cs, v :: vs, h, hc => by
    simp only [keysB, Bool.and_eq_true, decide_eq_true_eq] at h
    intro x hx
    rcases List.mem_cons.1 hx with rfl | hx
    · have := hc c (by simp); omega
    · exact keysB_16 h.2 (fun y hy => hc y (by simp [hy])) x hx
/-- How many dimensions a set's keys have. -/
def dimN (sa : Int) (q : Nat) : Nat := (pk [] sa q).length
theorem dimN_le (sa : Int) (q : Nat) : dimN sa q ≤ q := pk_len [] sa q
/-- Cells of facts are of one shape, in bounds. -/
def OkL (d mm : Nat) (L : List Cel) : Prop := ∀ x ∈ L, x.key.length = d ∧ okK x.key = true ∧ EvenC mm x
theorem ok_cells {cs : List Int} {q mm : Nat} {l : List Fact} (sa : Int) (hr : allRightB cs (mm : Int) l = true) (hl : ∀ r ∈ l, r.key.length = q ∧ r.m.length = mm) (hc : ∀ x ∈ cs, 1 ≤ x ∧ x ≤ 16) : OkL (dimN sa q) mm (l.map (ofC sa)) := fun x hx => by
  obtain ⟨r, hr1, rfl⟩ := List.mem_map.1 hx
  obtain ⟨h1, h2⟩ := hl r hr1
  have h3 := rightB_key ((allRightB_spec hr).2 r hr1)
  refine ⟨?_, ?_, ⟨h2, h2, h2⟩⟩
  · show (pk r.key sa r.key.length).length = dimN sa q
    rw [h1]
    exact pk_alike _ _ _ _
  · show okK (pk r.key sa r.key.length) = true
    unfold okK
    rw [List.all_eq_true]
    intro v hv
    exact decide_eq_true (pk_vals r.key sa (keysB_16 h3 hc) _ v hv)
theorem OkL.few {d mm : Nat} {L : List Cel} (h : OkL d mm L) (hd : d ≤ 1000) (hm : mm ≤ 1000000) : FewC L := fun x hx => by
  obtain ⟨h1, -, h2, h3, h4⟩ := h x hx
  omega
theorem grp_okL {d mm : Nat} {L : List Cel} (h : OkL d mm L) : OkL d mm (grpR L) := fun x hx => by
  refine ⟨?_, ?_, grp_even L [] (fun y hy => by cases hy) (fun y hy => (h y hy).2.2) x hx⟩
  · rcases grp_keys L [] x hx with ⟨z, hz, _⟩ | ⟨z, hz, e⟩
    · cases hz
    · rw [← e]; exact (h z hz).1
  · rcases grp_keys L [] x hx with ⟨z, hz, _⟩ | ⟨z, hz, e⟩
    · cases hz
    · rw [← e]; exact (h z hz).2.1
theorem isrow_ri {w : World} {a : Option Addr} {len cap : Nat} {zs : List Int} (h : IsRow .i64 w a len cap zs) : RI w (.slice a len cap) (zs.take len) := by
  obtain ⟨h1, h2, h3⟩ := h.nums
  have hl := h1.1
  refine ⟨a, cap, by rw [hl], by rw [hl]; exact h1, by rw [hl]; exact h2, by simpa [maxLen] using h3, fun e => ?_⟩
  rcases h with ⟨_, _, h4, _⟩ | ⟨x, h4, _⟩
  · exact h4
  · rw [e] at h4; cases h4
theorem OI.tchF {B : Nat} {X Y : World} {v : Value} {xs : List Int} {M : Nat → Prop} (h : OI B X v xs) (ht : Tch M X Y) (hM : ∀ k, M k → k < B) : OI B Y v xs :=
  ⟨own_stay h.1 fun k hk => ht.block k (h.1.lt k hk).2 fun e => by have := hM k e; have := (h.1.lt k hk).1; omega, h.2⟩
theorem GRs.tchF {B : Nat} {X Y : World} {v : Value} {us : List V5} {J : List Cel} {M : Nat → Prop} (h : GRs B X v us J) (ht : Tch M X Y) (hM : ∀ k, M k → k < B) : GRs B Y v us J :=
  ⟨own_stay h.1 fun k hk => ht.block k (h.1.lt k hk).2 fun e => by have := hM k e; have := (h.1.lt k hk).1; omega, h.2.stay fun o => o.tchF ht hM⟩
end Go.Proofs.YtaaciedelfaekaaDoor
