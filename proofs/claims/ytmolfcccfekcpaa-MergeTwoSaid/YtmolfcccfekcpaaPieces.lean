/- Package runs: items are dealt out into pieces. -/
import Derived.IntWalk
import Derived.Test.YtmolfcccfekcpaaPcs
namespace Go.Proofs.Ytmolfcccfekcpaa
open Go.RowKit Go.Shelf
attribute [local go_sem] Oper.semAt_some
theorem deal_num {m : Nat} : ∀ (l : List Cel) (s : List (List Cel) × List Cel), (l.foldl (dealS m) s).1.length ≤ s.1.length + l.length
  | [], s => by simp
  | c :: l, s => by
    rw [List.foldl_cons]
    have h1 := deal_num (m := m) l (dealS m s c)
    have h2 : (dealS m s c).1.length ≤ s.1.length + 1 := by
      unfold dealS
      split
      · simp
      · split <;> simp
    rw [List.length_cons]
    omega
theorem RoundIn.wide {n m l0 : Nat} {P : Program} {l : Nat} {f : FuncId} {tmps : Array Value} {assign body : Code} {w : World} {R : Ending → World → Prop} (h : RoundIn Fence.wide n P l f tmps assign body w R) : RoundIn (Fence.wide.inRound l0) m P l f tmps assign body w R := ⟨h.1, fun c cs _ => h.2 c cs (room_wide _)⟩
end Go.Proofs.Ytmolfcccfekcpaa
