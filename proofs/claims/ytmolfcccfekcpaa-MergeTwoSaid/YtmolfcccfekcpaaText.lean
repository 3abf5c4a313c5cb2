/- Package runs: a key as a text. -/
import Derived.Lib.AppendStr
import Derived.IntWalk
import Derived.Test.YtmolfcccfekcpaaBytes2
import Derived.Test.YtmolfcccfekcpaaTxtP
import Derived.Test.YtmolfcccfekcpaaCelj
namespace Go.Proofs.Ytmolfcccfekcpaa
open Go.RowKit
attribute [local go_sem] Oper.semAt_some
/-- The digits of a number from 0 to 15. -/
def digB (v : Int) : List Int := if v < 10 then [48 + v] else [49, 38 + v]
def strD (v : Int) : ByteArray := strOf (digB v)
theorem sixteen {v : Int} (h0 : 0 ≤ v) (h1 : v ≤ 15) : v = 0 ∨ v = 1 ∨ v = 2 ∨ v = 3 ∨ v = 4 ∨ v = 5 ∨ v = 6 ∨ v = 7 ∨ v = 8 ∨ v = 9 ∨ v = 10 ∨ v = 11 ∨ v = 12 ∨ v = 13 ∨ v = 14 ∨ v = 15 := by omega
theorem wpList_append_eq2 {P : Program} {ops : Array Oper} {rest : List Oper} {o : Oper} {a : Act} {w : World} {Q : Exit → Act → World → Prop} (hgd : o.guard = none) (s x : Operand) (t u : TypeId)
    (ho : o.op = .call { callee := .builtin .append, args := #[s, x], argTypes := #[t, u] }) (v y v' : Value) (w' : World) (hs : a.eval s = v) (hx : a.eval x = y)
    (hrun : (Builtin.append_ #[t, u] o.type #[v, y]).run P w = .ok v' w') (h : wpList P ops Q rest (a.put o.dst v') w') : wpList P ops Q (o :: rest) a w :=
  wpList_plain hgd fun _ hK => by
    unfold Oper.wp execOp
    simp only [ho, resolve, invoke, builtin, Sem.run_bind, Sem.run_pure, Result.andThen_ok, List.map_toArray, List.map_cons, List.map_nil, hs, hx, hrun]
    exact hK _ _ h
theorem digB_in {v : Int} (h0 : 0 ≤ v) (h1 : v ≤ 15) : ∀ y ∈ digB v, 0 ≤ y ∧ y ≤ 255 := by
  intro y hy
  unfold digB at hy
  split at hy
  · simp at hy; omega
  · simp at hy; omega
theorem digB_len (v : Int) : (digB v).length ≤ 2 := by unfold digB; split <;> simp
/-- A key's bytes. -/
def textI (key : List Int) : List Int := key.flatMap fun v => digB v ++ [32]
theorem textI_take {key : List Int} {j : Nat} {v : Int} (h : key[j]? = some v) : textI (key.take (j + 1)) = textI (key.take j) ++ digB v ++ [32] := by
  unfold textI
  rw [List.take_add_one, h, Option.toList_some, List.flatMap_append]
  simp
theorem textI_len : ∀ key : List Int, (textI key).length ≤ 3 * key.length
  | [] => by simp [textI]
  | v :: k => by
    have h1 := textI_len k
    have h2 := digB_len v
    unfold textI at h1 ⊢
    rw [List.flatMap_cons, List.length_append, List.length_append, List.length_cons, List.length_cons]
    simp only [List.length_nil]
    omega
theorem dig_dec : ∀ a : Fin 16, ((digB (a.val : Int) ++ [32]).map fun n : Int => UInt8.ofNat n.toNat) = decT (a.val : Int) := by decide +kernel
theorem strOf_text {key : List Int} (h : ∀ v ∈ key, 0 ≤ v ∧ v ≤ 15) : (strOf (textI key)).data.toList = textL key := by
  unfold strOf
  simp only
  induction key with
  | nil => rfl
  | cons v k ih =>
    have ih' := ih fun x hx => h x (List.mem_cons_of_mem _ hx)
    obtain ⟨h0, h1⟩ := h v List.mem_cons_self
    obtain ⟨x, hx⟩ : ∃ x : Fin 16, (x.val : Int) = v := ⟨⟨v.toNat, by omega⟩, by simp; omega⟩
    subst hx
    unfold textI textL at ih' ⊢
    rw [List.flatMap_cons, List.map_append, List.flatMap_cons, dig_dec x]
    simpa using ih'
theorem own_u8b {w : World} {B : Nat} {v : Value} {xs : List Int} {n c : Nat} {P : Option Addr} (h : w.ownsRow B 5 1 v xs.length (bytesV xs)) (e : v = .slice P n c) (hk : ∀ x ∈ xs, 0 ≤ x ∧ x ≤ 255) : Nums .u8 w P n xs := by
  obtain ⟨P', c', e', -, -, h2⟩ := own_form h
  rw [e] at e'
  injection e' with e1 e2 _
  subst e1 e2
  refine ⟨rfl, fun x hx => ?_, fun hn => ?_⟩
  · exact hk x hx
  · obtain ⟨g, rfl, -, h3⟩ := h2 hn
    exact ⟨_, rfl, fun j x hx => by rw [add0]; exact h3 j _ (by simp [bytesV, hx])⟩
end Go.Proofs.Ytmolfcccfekcpaa
