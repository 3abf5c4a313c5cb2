/- Four slices of bytes that one statement grows, step by step, in whatever order the steps come: the end. -/
import Derived.Test.YtnabmbnfmnpcoaaAnyRows
namespace Go.Proofs.Ytnabmbnfmnpcoaa
open Go.RowKit
theorem oper_append_eq {P : Program} {o : Oper} {a : Act} {w : World} {K : Act → World → Prop} {Q : Exit → Act → World → Prop} (s x : Operand) (t : TypeId)
    (ho : o.op = .call { callee := .builtin .append, args := #[s, x], argTypes := #[t, t] }) (v u v' : Value) (w' : World) (hs : a.eval s = v) (hx : a.eval x = u)
    (hrun : (Builtin.append_ #[t, t] o.type #[v, u]).run P w = .ok v' w') (h : K (a.put o.dst v') w') : Oper.wp P o a w K Q := by
  unfold Oper.wp execOp
  simp only [ho, resolve, invoke, builtin, Sem.run_bind, Sem.run_pure, Result.andThen_ok, List.map_toArray, List.map_cons, List.map_nil, hs, hx, hrun]
  exact h
theorem okB0 : okSt 0 0 0 0 = true := by decide
theorem any13' {ops : Array Oper} {Q : Exit → Act → World → Prop} (F : Value → Value → Value → Value → Value → Value → Value → Value → Value → Value → Value → Act) (B : Nat) (w0 : World) (hB : B = w0.heap.size) (s1 s2 s3 s4 s5 : Value)
    (e1 : SrcB w0 s1) (e2 : SrcB w0 s2) (e3 : SrcB w0 s3) (e4 : SrcB w0 s4) (e5 : SrcB w0 s5) (hr : rdyB ops = true)
    (h4 : ∀ X w K, K (fr F (upd X 1 (.slice (some ⟨w.heap.size, 0, none⟩) 0 0))) (w.alloc (.cells (bytesV []).toArray 5)) → wpOp Try.prog ops Q 4 K (fr F X) w)
    (h8 : ∀ X w K v' w', (Builtin.append_ #[36, 36] 36 #[X 1, s1]).run Try.prog w = .ok v' w' → K (fr F (upd X 2 v')) w' → wpOp Try.prog ops Q 8 K (fr F X) w)
    (h10 : ∀ X w K v' w', (Builtin.append_ #[36, 36] 36 #[X 2, s2]).run Try.prog w = .ok v' w' → K (fr F (upd X 3 v')) w' → wpOp Try.prog ops Q 10 K (fr F X) w)
    (h14 : ∀ X w K v' w', (Builtin.append_ #[36, 36] 36 #[X 3, s3]).run Try.prog w = .ok v' w' → K (fr F (upd X 4 v')) w' → wpOp Try.prog ops Q 14 K (fr F X) w)
    (h16 : ∀ X w K, K (fr F (upd X 5 (.slice (some ⟨w.heap.size, 0, none⟩) 4 4))) (w.alloc (.cells (bytesV [67, 85, 66, 49]).toArray 5)) → wpOp Try.prog ops Q 16 K (fr F X) w)
    (h17 : ∀ X w K v' w', (convert 36 36 (X 5)).run Try.prog w = .ok v' w' → K (fr F (upd X 6 v')) w' → wpOp Try.prog ops Q 17 K (fr F X) w)
    (h19 : ∀ X w K v' w', (Builtin.append_ #[36, 36] 36 #[X 6, s4]).run Try.prog w = .ok v' w' → K (fr F (upd X 7 v')) w' → wpOp Try.prog ops Q 19 K (fr F X) w)
    (h20 : ∀ X w K, K (fr F (upd X 8 (.slice (some ⟨w.heap.size, 0, none⟩) 0 0))) (w.alloc (.cells (bytesV []).toArray 5)) → wpOp Try.prog ops Q 20 K (fr F X) w)
    (h22 : ∀ X w K v' w', (Builtin.append_ #[36, 36] 36 #[X 8, s5]).run Try.prog w = .ok v' w' → K (fr F (upd X 9 v')) w' → wpOp Try.prog ops Q 22 K (fr F X) w)
    (h23 : ∀ X w K, K (fr F (upd X 11 (.slice (some ⟨w.heap.size, 0, none⟩) 1 1))) (w.alloc (.cells (bytesV [0]).toArray 5)) → wpOp Try.prog ops Q 23 K (fr F X) w)
    (h24 : ∀ X w K v' w', (Builtin.append_ #[36, 36] 36 #[X 9, X 11]).run Try.prog w = .ok v' w' → K (fr F (upd X 10 v')) w' → wpOp Try.prog ops Q 24 K (fr F X) w)
    (hend : ∀ X w, Below B w0 w → BytesAt w (X 4) → BytesAt w (X 7) → BytesAt w (X 10) → wpAnyH Try.prog .any ops Q (fun _ => True) 2 (lst 7 2 1 1) (fr F X) w)
    (fuel : Nat) (li : Array Bool) (hfu : fuel = 13) (hli : li = lst 0 0 0 0) : ∀ (x1 x2 x3 x4 x5 x6 x7 x8 x9 x10 x11 : Value), wpAnyH Try.prog .any ops Q (fun _ => True) fuel li (F x1 x2 x3 x4 x5 x6 x7 x8 x9 x11 x10) w0 := by
  subst hfu hli
  intro x1 x2 x3 x4 x5 x6 x7 x8 x9 x10 x11
  exact any13 F B w0 hB s1 s2 s3 s4 s5 e1 e2 e3 e4 e5 hr h4 h8 h10 h14 h16 h17 h19 h20 h22 h23 h24 hend 11 0 0 0 0 okB0 rfl
    (fun i => if i = 1 then x1 else if i = 2 then x2 else if i = 3 then x3 else if i = 4 then x4 else if i = 5 then x5 else if i = 6 then x6 else if i = 7 then x7 else if i = 8 then x8 else if i = 9 then x9 else if i = 10 then x11 else x10) w0
    ⟨⟨Below.refl _ _, Nat.le_of_eq hB, (by intro v hv; simp [al, a1, a2, a3, a4] at hv), (by simp [al, a1, a2, a3, a4])⟩, fun h => by cases h⟩
end Go.Proofs.Ytnabmbnfmnpcoaa
