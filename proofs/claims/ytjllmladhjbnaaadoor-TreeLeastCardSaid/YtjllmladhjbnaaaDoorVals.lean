/- slices.Values of numbers: its iterator goes through all of them. -/
import Derived.Test.YtjllmladhjbnaaaDoorRange
namespace Go.Proofs.YtjllmladhjbnaaaDoor
open Go.RowKit Go.Shelf
attribute [local go_sem] Oper.semAt_some
set_option maxRecDepth 100000 in
set_option maxHeartbeats 4000000 in
theorem values1_any (n : Nat) (hn : 1 ≤ n) (l pb n₀ m c : Nat) (A : Option Addr) (xs : List Int) (J : List {x : Int // x ∈ xs} → World → Prop) (W0 W : World)
    (hpb : W0.cell? ⟨pb, 0, none⟩ = some (.slice A m c)) (hxs : Nums .i64 W0 A m xs) (hn0 : n₀ = W0.heap.size) (hB0 : Below n₀ W0 W) (hm : m ≤ 1000000)
    (hY : ∀ pre x W1, J pre W1 → pre.length < m → YieldAt Fence.wide (n - 1) Tryd.prog l #[.int .i64 x.1] W1 fun e W' => e = .returned (.bool true) ∧ J (pre ++ [x]) W' ∧ Below n₀ W1 W')
    (h0 : J [] W) :
    CallsIn Fence.wide n Tryd.prog 46 #[.func (.yield l) #[] #[], .pointer (some ⟨pb, 0, none⟩)] W fun e W' => (∃ v, e = .returned v) ∧ ∃ ys : List {x : Int // x ∈ xs}, ys.map (·.1) = xs ∧ J ys W' := by
  have HXS := Lib.hid hxs
  have HPB := Lib.hid hpb
  have HL := Lib.hid hxs.len
  have cb := Keeps.of_below (hn0 ▸ hB0) _ _ hpb
  clear hxs hpb
  refine callsIn_of_wp Tryd.func46 rfl trivial ?_ rfl
  simp only [Tryd.ntmps46, List.size_toArray, List.length_cons, List.length_nil, Nat.reduceAdd, Nat.reduceSub, Array.replicate_succ, Array.replicate_zero, List.push_toArray, List.append_toArray, List.nil_append, List.cons_append]
  gi_wp2
  gi_loopw [7] (fun p wr => ∃ (k : Nat) (pre : List {x : Int // x ∈ xs}), p = .int .i64 k ∧ k ≤ m ∧ pre.map (·.1) = xs.take k ∧ J pre wr ∧ Below n₀ W0 wr) (fun p _ => m - (intOf p).toNat)
  case atStart => exact ⟨0, [], rfl, Nat.zero_le _, rfl, h0, hB0⟩
  case round =>
    obtain ⟨k, pre, rfl, hk, hpre, hJs, hB⟩ := hrel
    rename World => wr
    have HB := Lib.hid (hn0 ▸ hB : Below W0.heap.size W0 wr)
    have HJs := Lib.hid hJs
    have HP := Lib.hid hpre
    clear hJs hB cb hB0 hpre
    by_cases hlt : k < m
    · have kr := Keeps.of_below HB.out
      obtain ⟨ad, x, e, hx, -, hcx⟩ := (HXS.out.keep kr).at_ hlt
      subst e
      have k0 : (0 : Int) ≤ (k : Int) := by omega
      have k1 : (k : Int) < (m : Int) := by omega
      have hlen : pre.length = k := by have := congrArg List.length HP.out; rw [List.length_map, List.length_take, HL.out] at this; omega
      have hmx : x ∈ xs := List.mem_of_getElem? hx
      obtain ⟨fn, tmps, assign, body, hy, hR⟩ := hY pre ⟨x, hmx⟩ wr HJs.out (by rw [hlen]; exact hlt)
      dsimp only at hy
      have HX := Lib.hid hx
      clear hx hlen kr
      gi_wp2
      refine hR.mono ?_
      rintro e W3 ⟨rfl, hJ3, hb3⟩
      have HJ3 := Lib.hid hJ3
      have HB3 := Lib.hid ((hn0 ▸ HB.out : Below n₀ W0 wr).trans hb3)
      clear hJ3 hb3
      gi_wp2
      go_roundw
      case rel => exact ⟨k + 1, _, by go_num, by omega, by rw [List.take_add_one, HX.out, List.map_append, HP.out]; rfl, HJ3.out, HB3.out⟩
      case measure => simp [intOf]; omega
    · obtain rfl : k = m := by omega
      have ht : xs.take k = xs := List.take_of_length_le (by rw [HL.out]; omega)
      gi_wp2
      go_end0
      exact ⟨⟨_, rfl⟩, _, HP.out.trans ht, HJs.out⟩
set_option maxHeartbeats 1000000 in
theorem values_any (A : Option Addr) (m c : Nat) (w : World) :
    Calls Tryd.prog 25 #[.slice A m c] w fun e w' => e = .returned (.func (.func 46) #[] #[.pointer (some ⟨w.heap.size, 0, none⟩)]) ∧ w' = w.alloc (.cells #[.slice A m c] 22) := by
  go_enter Tryd.func25, Tryd.ntmps25
  go_wp2
  go_ret
  exact ⟨rfl, rfl⟩
end Go.Proofs.YtjllmladhjbnaaaDoor
