/- Package cell's even. -/
import Derived.Test.YtmolfcccfekcpaaCel2
namespace Go.Proofs.Ytmolfcccfekcpaa
open Go.RowKit
set_option maxRecDepth 100000 in
set_option maxHeartbeats 4000000 in
theorem even_any (ad : Addr) (c : Nat) (l : List Cel) (me : Nat) (w : World) (hl : CellsR w ad l) (he : ∀ x ∈ l, EvenC me x) (_hm : me ≤ 1000000) (hn : l.length ≤ 1000000) :
    Calls Try.prog 60 #[.slice (some ad) l.length c] w fun e w' => e = .returned (.bool true) ∧ Below w.heap.size w w' := by
  obtain ⟨N, hN⟩ : ∃ N, N = l.length := ⟨_, rfl⟩
  rw [← hN] at hn ⊢
  have HN := Lib.hid hN
  have Hl := Lib.hid hl
  have He := Lib.hid he
  clear hN hl he
  go_enter Try.func60, Try.ntmps60
  go_wp2_with fail
  go_loopw [8] (fun i wr => ∃ k : Nat, k ≤ N ∧ i = .int .i64 k ∧ Below w.heap.size w wr) (fun i _ => N - (intOf i).toNat)
  case atStart => exact ⟨0, by omega, rfl, Below.refl _ _⟩
  case round =>
    obtain ⟨k, hk, rfl, hb⟩ := hrel
    rename World => wr
    have Hb := Lib.hid hb
    clear hb
    by_cases hlt : k < N
    · obtain ⟨x, hx⟩ : ∃ x, l[k]? = some x := ⟨_, List.getElem?_eq_getElem (by have := HN.out; omega)⟩
      obtain ⟨y, hy⟩ : ∃ y, l[0]? = some y := ⟨_, List.getElem?_eq_getElem (by have := HN.out; omega)⟩
      obtain ⟨ex1, ex2, ex3⟩ := He.out x (List.mem_of_getElem? hx)
      obtain ⟨ey1, _, _⟩ := He.out y (List.mem_of_getElem? hy)
      obtain ⟨vk, vs, vn, vm, a0, a1, a2, a3, a4, ⟨⟨Pk, ck, rfl, _⟩, ⟨Ps, cs, rfl, _⟩, ⟨Pn, cn, rfl, _⟩, ⟨Pm, cm, rfl, _⟩⟩, _⟩ := (Hl.out k x hx).keep (Keeps.of_below Hb.out)
      have hy0 := (Hl.out 0 y hy).keep (Keeps.of_below Hb.out)
      rw [show ad.add (0 * 5) = ad from by simp [Addr.add]] at hy0
      obtain ⟨uk, us, un, um, c0, c1, c2, c3, c4, ⟨⟨Qk, dk, rfl, _⟩, ⟨Qs, ds, rfl, _⟩, ⟨Qn, dn, rfl, _⟩, ⟨Qm, dm, rfl, _⟩⟩, _⟩ := hy0
      rw [ex1] at a2
      rw [ex2] at a3
      rw [ex3] at a4
      rw [ey1] at c2
      have hbx := Below.alloc Hb.out Hb.out.size (.cells #[.slice Pk x.key.length ck, .int .i64 x.cnt, .slice Ps me cs, .slice Pn me cn, .slice Pm me cm] 44)
      have c2' : (wr.alloc (.cells #[.slice Pk x.key.length ck, .int .i64 x.cnt, .slice Ps me cs, .slice Pn me cn, .slice Pm me cm] 44)).cell? ⟨ad.block, ad.off + 2, none⟩ = some (.slice Qs me ds) := ((Keeps.refl wr).alloc _) _ _ c2
      have Hbx := Lib.hid hbx
      have i0 : (0 : Int) ≤ (k : Int) := by omega
      have i1 : (k : Int) < (N : Int) := by omega
      have d1 : decide (k < N) = true := by simp; omega
      have q0 : 0 < N := by omega
      have q1 : (0 : Int) < (N : Int) := by omega
      generalize x.key.length = lk at *
      generalize x.cnt = cnt at *
      clear hx hy ex1 ex2 ex3 ey1 hbx c0 c1 c3 c4
      go_wp2
      go_roundw
      case rel => exact ⟨k + 1, by omega, by go_num, Hbx.out⟩
      case measure => simp [intOf]; omega
    · obtain rfl : k = N := by omega
      have d1 : decide (k < k) = false := by simp
      go_wp2
      go_ret
      exact ⟨rfl, Hb.out⟩
end Go.Proofs.Ytmolfcccfekcpaa
