/- The reference's Group. -/
import Derived.Test.YtmolfcccfekcpaaRfacts
namespace Go.Proofs.Ytmolfcccfekcpaa
open Go.RowKit Go.Shelf
set_option maxRecDepth 100000 in
set_option maxHeartbeats 4000000 in
theorem rGroup_any (P : Option Addr) (c N me : Nat) (L : List Cel) (w : World) (hl : RowC w P N L) (ho : ∀ x ∈ L, EvenC me x ∧ x.key.length ≤ 1000000) (hme : me ≤ 100000) (hN : N = L.length) (hn : N ≤ 1000) :
    Calls Try.prog 26 #[.slice P N c] w fun e w' => ∃ v us, e = .returned v ∧ GRs w.heap.size w' v us (grpR L) ∧ Below w.heap.size w w' := by
  have HL := Lib.hid hl
  have HO := Lib.hid ho
  have HN := Lib.hid hN
  clear hl ho hN
  go_enter Try.func26, Try.ntmps26
  go_wp2_with fail
  go_loopw [3, 4] (fun s3 s4 wr => ∃ (i : Nat) (us : List V5), s4 = .int .i64 i ∧ i ≤ N ∧ GRs w.heap.size wr s3 us (grpR (L.take i)) ∧ Below w.heap.size w wr) (fun _ s4 _ => N - (intOf s4).toNat)
  case atStart => exact ⟨0, [], rfl, Nat.zero_le _, GRs.nil _ _, Below.refl _ _⟩
  case round =>
    obtain ⟨i, us, rfl, hi, hg, hb⟩ := hrel
    rename World => wr
    by_cases hlt : i < N
    · have d1 : decide ((i : Int) < (N : Int)) = true := decide_eq_true (by omega)
      obtain ⟨x, hx⟩ : ∃ x, L[i]? = some x := ⟨_, List.getElem?_eq_getElem (by rw [← HN.out]; exact hlt)⟩
      obtain ⟨ad, rfl, hcl⟩ := HL.out.keep (Keeps.of_below hb) (by omega)
      obtain ⟨vk, vs, vn, vm, a0', a1', a2', a3', a4', hcx, hck⟩ := hcl i x hx
      obtain ⟨h1, h2⟩ := HO.out x (List.mem_of_getElem? hx)
      have hok := grp_ok (fun y hy => HO.out y (List.mem_of_mem_take (i := i) hy))
      have hlt2 : grpR (L.take (i + 1)) = putC (grpR (L.take i)) x := by rw [List.take_add_one, hx, ← grpR_snoc]; rfl
      have hlen : (grpR (L.take i)).length ≤ 1000 := by
        have := grp_le (L.take i)
        rw [List.length_take] at this
        omega
      obtain ⟨Q, qc, fq, -⟩ := hg.form
      have hul := hg.len
      obtain ⟨nq, hnq⟩ : ∃ nq, nq = us.length := ⟨_, rfl⟩
      rw [← hnq] at fq hul
      subst fq
      have hput := rPut_any w.heap.size Q nq qc us _ vk vs vn vm x me wr hg hcx (fun y hy => (hok y hy).1) h1 (fun y hy => (hok y hy).2) h2 (by omega) hme hck hb.size
      rw [← hlt2] at hput
      obtain ⟨xc, hxc⟩ : ∃ xc, xc = x.cnt := ⟨_, rfl⟩
      rw [← hxc] at hput a1'
      have Hput := Lib.hid hput
      have Hb := Lib.hid hb
      have i0 : (0 : Int) ≤ (i : Int) := by omega
      have i1 : (i : Int) < (N : Int) := by omega
      clear hput hg hb hx hcl hcx hck h1 h2 hok hlt2 hlen hnq hul hxc
      go_wp2_with fail
      refine Hput.out.mono ?_
      rintro e X2 ⟨v, us', rfl, hg', hb'⟩
      have HG := Lib.hid hg'
      have HB := Lib.hid (Hb.out.trans (hb'.mono Hb.out.size))
      clear hg' hb' Hput
      go_wp2
      go_roundw
      case rel => exact ⟨i + 1, us', by go_num, by omega, HG.out, HB.out⟩
      case measure => simp [intOf]; omega
    · obtain rfl : i = N := by omega
      have d1 : decide ((i : Int) < (i : Int)) = false := by simp
      rw [List.take_of_length_le (by rw [← HN.out]; exact Nat.le_refl _)] at hg
      have Hg := Lib.hid hg
      have Hb := Lib.hid hb
      clear hg hb
      go_wp2
      go_ret
      exact ⟨_, _, rfl, Hg.out, Hb.out⟩
end Go.Proofs.Ytmolfcccfekcpaa
