/- Package runs, as mathematics: what all cells have, all of the runs' have. -/
import Derived.Test.YtaaciedelfaekaaDoorFactsH
import Derived.Test.YtaaciedelfaekaaDoorDeal
namespace Go.Proofs.YtaaciedelfaekaaDoor
open Go.RowKit
theorem putC_p {p : Cel → Prop} (hj : ∀ y c, p y → p c → p (join2 y c)) {H : List Cel} {c : Cel} (h : ∀ y ∈ H, p y) (hc : p c) : ∀ y ∈ putC H c, p y := by
  induction H with
  | nil => intro y hy; simp only [putC, List.mem_singleton] at hy; rw [hy]; exact hc
  | cons x l ih =>
    simp only [putC]
    split
    · intro y hy
      rcases List.mem_cons.1 hy with rfl | hy
      · exact h _ (by simp)
      · exact ih (fun z hz => h z (by simp [hz])) y hy
    · split
      · intro y hy
        rcases List.mem_cons.1 hy with rfl | hy
        · exact hj _ _ (h x (by simp)) hc
        · exact h y (by simp [hy])
      · intro y hy
        rcases List.mem_cons.1 hy with rfl | hy
        · exact hc
        · exact h y hy
theorem runs_p {p : Cel → Prop} (hj : ∀ y c, p y → p c → p (join2 y c)) {m : Nat} : ∀ (l H : List Cel), (∀ x ∈ l, p x) → (∀ x ∈ H, p x) → ∀ x ∈ (runsP m H l).flatten, p x
  | [], H, _, hH => by
    unfold runsP
    split
    · intro x hx; simp at hx
    · intro x hx; exact hH x (by simpa using hx)
  | c :: l, H, hl, hH => by
    have hc := hl c (by simp)
    have hl' : ∀ x ∈ l, p x := fun x hx => hl x (by simp [hx])
    unfold runsP
    split
    · exact runs_p hj l _ hl' (putC_p hj hH hc)
    · split
      · intro x hx
        rw [List.flatten_cons] at hx
        rcases List.mem_append.1 hx with hx | hx
        · exact hH x hx
        · exact runs_p hj l [c] hl' (fun y hy => by rw [List.mem_singleton] at hy; rw [hy]; exact hc) x hx
      · exact runs_p hj l _ hl' (putC_p hj hH hc)
theorem runs_ok {d mm m : Nat} (l H : List Cel) (hl : OkL d mm l) (hH : OkL d mm H) : OkL d mm (runsP m H l).flatten :=
  runs_p (p := fun x => x.key.length = d ∧ okK x.key = true ∧ EvenC mm x) (fun _ _ hy hc => ⟨hy.1, hy.2.1, join2_even hy.2.2 hc.2.2⟩) l H hl hH
end Go.Proofs.YtaaciedelfaekaaDoor
