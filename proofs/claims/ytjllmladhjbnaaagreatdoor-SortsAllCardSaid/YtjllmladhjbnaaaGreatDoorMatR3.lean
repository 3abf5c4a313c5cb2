/- The reference's right: may costs be? -/
import Derived.Test.YtjllmladhjbnaaaGreatDoorMatUA
namespace Go.Proofs.YtjllmladhjbnaaaGreatDoor
open Go.RowKit Go.Shelf
attribute [local go_sem] Oper.semAt_some
def okR (n m0 : Nat) (r : List Int) : Bool := decide (r.length = m0) && decide (r.length ≤ 12) && decide (n ≤ r.length) && r.all okC
theorem okR_okM (M : List (List Int)) (h : M.length ≤ 12) : M.all (okR M.length (wid M)) = okM M := by
  cases M with
  | nil => decide
  | cons r0 t =>
    obtain ⟨M, hM⟩ : ∃ M, M = r0 :: t := ⟨_, rfl⟩
    rw [← hM] at h ⊢
    have h0 : r0 ∈ M := by rw [hM]; exact List.mem_cons_self ..
    have hw : wid M = r0.length := by rw [hM]; rfl
    rw [Bool.eq_iff_iff]
    unfold okM okR okRow
    simp only [Bool.and_eq_true, decide_eq_true_eq, List.all_eq_true]
    constructor
    · intro h1
      obtain ⟨⟨⟨a, b⟩, c⟩, -⟩ := h1 r0 h0
      exact ⟨by omega, by omega, fun r hr => ⟨(h1 r hr).1.1.1, (h1 r hr).2⟩⟩
    · rintro ⟨a, b, c⟩ r hr
      obtain ⟨d, e⟩ := c r hr
      exact ⟨⟨⟨d, by omega⟩, by omega⟩, e⟩
theorem okM_len {M : List (List Int)} (h : ¬ M.length ≤ 12) : okM M = false := by
  cases hok : okM M with
  | false => rfl
  | true => obtain ⟨a, b, -⟩ := okM_spec hok; omega
set_option maxRecDepth 100000 in
set_option maxHeartbeats 8000000 in
theorem rRight_any (A : Option Addr) (n c : Nat) (M : List (List Int)) (w : World) (hM : Mat w A n M) (hnn : n ≤ 1000000) (hrb : ∀ r ∈ M, r.length ≤ 1000000) :
    Calls Tryz.prog 74 #[.slice A n c] w fun e w' => e = .returned (.bool (okM M)) ∧ Below w.heap.size w w' := by
  by_cases h12 : n ≤ 12
  · have hlen := hM.1
    have he := okR_okM M (by omega)
    rw [hlen] at he
    rw [← he]
    have d12 : decide ((12 : Int) < (n : Int)) = false := decide_eq_false (by omega)
    obtain ⟨m0, hm0⟩ : ∃ m0, m0 = wid M := ⟨_, rfl⟩
    rw [← hm0]
    have HM0 := Lib.hid hm0
    have HRB := Lib.hid hrb
    have HM := Lib.hid hM
    have HLEN := Lib.hid hlen
    clear he hm0 hrb hM hlen
    go_enter Tryz.func74, Tryz.ntmps74
    go_wp2
    go_loopw [3] (fun p wr => ∃ i : Nat, p = .int .i64 i ∧ i ≤ n ∧ (M.take i).all (okR n m0) = true ∧ Below w.heap.size w wr) (fun p _ => n - (intOf p).toNat)
    case atStart => exact ⟨0, rfl, Nat.zero_le _, by simp, Below.refl _ _⟩
    case round =>
      obtain ⟨i, rfl, hi, hall, hb⟩ := hrel
      rename World => wr
      have HALL := Lib.hid hall
      have HB := Lib.hid hb
      clear hall hb
      by_cases hlt : i < n
      · have hiz : (i : Int) < (n : Int) := by omega
        have i0 : (0 : Int) ≤ (i : Int) := by omega
        have n0 : 0 < n := by omega
        obtain ⟨ad, r, B, cr, rfl, hr, hcr, hnr⟩ := (HM.out.keep (Keeps.of_below HB.out)).at_ hlt
        obtain ⟨ad', r0, B0, c0, e0, hr0, hc0, -⟩ := (HM.out.keep (Keeps.of_below HB.out)).at_ (show 0 < n by omega)
        obtain rfl : ad = ad' := Option.some.inj e0
        rw [show ad.add 0 = ad from by simp [Addr.add]] at hc0
        have hl0 : r0.length = m0 := by rw [HM0.out]; unfold wid; rw [hr0]; rfl
        rw [hl0] at hc0
        have HCC : Hid (wr.drew.cell? (ad.add i) = some (.slice B r.length cr) ∧ wr.drew.cell? ad = some (.slice B0 m0 c0)) := Lib.hid ⟨hcr, hc0⟩
        have hrl := HRB.out r (List.mem_of_getElem? hr)
        have hF := fun h => all_at_false (p := okR n m0) hr h
        have hS := all_take_snoc (p := okR n m0) hr
        rw [HALL.out, Bool.true_and] at hS
        have HF := Lib.hid hF
        have HS := Lib.hid hS
        have HNR := Lib.hid hnr
        have HR0 := Lib.hid hr
        clear hr hr0 hl0 e0 hF hS hcr hc0 hnr
        by_cases k1 : r.length = m0
        · by_cases k2 : r.length ≤ 12
          · by_cases k3 : n ≤ r.length
            · have d1 : (((r.length : Nat) : Int) != (m0 : Int)) = false := by simp [k1]
              have d2 : decide ((12 : Int) < ((r.length : Nat) : Int)) = false := decide_eq_false (by omega)
              have d3 : decide (r.length < n) = false := decide_eq_false (by omega)
              have hok : okR n m0 r = r.all okC := by unfold okR; rw [decide_eq_true k1, decide_eq_true k2, decide_eq_true k3]; simp
              have HOK := Lib.hid hok
              clear hok k1 k3
              go_wp2
              refine wp_region_held_drew (S := fun W => W.cell? (ad.add i) = some (.slice B r.length cr) ∧ W.cell? ad = some (.slice B0 m0 c0)) (by kernel_rfl) HCC.out (fun hHeld => ?_)
              refine wpAnyH_take (i := 0) (v := ?vc0) rfl (by kernel_rfl) (by kernel_rfl) (by kernel_rfl) (fun _ _ _ h => h) (Or.inl ⟨by rfl, ?yc0⟩) hHeld ?rc0
              case yc0 => (intro W hW; obtain ⟨hA, hB⟩ := hW; go_simp; first | done | with_reducible rfl)
              try simp only [List.getElem_toArray, List.getElem_cons_zero, Act.put, List.setIfInBounds_toArray, List.set_cons_zero, List.set_cons_succ]
              refine wpAnyH_take (i := 1) (v := ?vc1) rfl (by kernel_rfl) (by kernel_rfl) (by kernel_rfl) (fun _ _ _ h => h) (Or.inl ⟨by rfl, ?yc1⟩) hHeld ?rc1
              case yc1 => (intro W hW; obtain ⟨hA, hB⟩ := hW; go_simp; first | done | with_reducible rfl)
              try simp only [List.getElem_toArray, List.getElem_cons_succ, List.getElem_cons_zero, Act.put, List.setIfInBounds_toArray, List.set_cons_zero, List.set_cons_succ]
              refine wpAnyH_take (i := 2) (v := ?vc2) rfl (by kernel_rfl) (by kernel_rfl) (by kernel_rfl) (fun _ _ _ h => h) (Or.inl ⟨by rfl, ?yc2⟩) hHeld ?rc2
              case yc2 => (intro W hW; obtain ⟨hA, hB⟩ := hW; go_simp; first | done | with_reducible rfl)
              try simp only [List.getElem_toArray, List.getElem_cons_succ, List.getElem_cons_zero, Act.put, List.setIfInBounds_toArray, List.set_cons_zero, List.set_cons_succ]
              refine wpAnyH_take (i := 3) (v := ?vc3) rfl (by kernel_rfl) (by kernel_rfl) (by kernel_rfl) (fun _ _ _ h => h) (Or.inl ⟨by rfl, ?yc3⟩) hHeld ?rc3
              case yc3 => (intro W hW; obtain ⟨hA, hB⟩ := hW; go_simp; first | done | with_reducible rfl)
              try simp only [List.getElem_toArray, List.getElem_cons_succ, List.getElem_cons_zero, Act.put, List.setIfInBounds_toArray, List.set_cons_zero, List.set_cons_succ]
              refine wpAnyH_take (i := 4) (v := ?vc4) rfl (by kernel_rfl) (by kernel_rfl) (by kernel_rfl) (fun _ _ _ h => h) (Or.inl ⟨by rfl, ?yc4⟩) hHeld ?rc4
              case yc4 => (intro W hW; obtain ⟨hA, hB⟩ := hW; go_simp; first | done | with_reducible rfl)
              try simp only [List.getElem_toArray, List.getElem_cons_succ, List.getElem_cons_zero, Act.put, List.setIfInBounds_toArray, List.set_cons_zero, List.set_cons_succ]
              refine wpAnyH_take (i := 5) (v := ?vc5) rfl (by kernel_rfl) (by kernel_rfl) (by kernel_rfl) (fun _ _ _ h => h) (Or.inl ⟨by rfl, ?yc5⟩) hHeld ?rc5
              case yc5 => (intro W hW; obtain ⟨hA, hB⟩ := hW; go_simp; first | done | with_reducible rfl)
              try simp only [List.getElem_toArray, List.getElem_cons_succ, List.getElem_cons_zero, Act.put, List.setIfInBounds_toArray, List.set_cons_zero, List.set_cons_succ]
              refine wpAnyH_take (i := 6) (v := ?vc6) rfl (by kernel_rfl) (by kernel_rfl) (by kernel_rfl) (fun _ _ _ h => h) (Or.inl ⟨by rfl, ?yc6⟩) hHeld ?rc6
              case yc6 => (intro W hW; obtain ⟨hA, hB⟩ := hW; go_simp; first | done | with_reducible rfl)
              try simp only [List.getElem_toArray, List.getElem_cons_succ, List.getElem_cons_zero, Act.put, List.setIfInBounds_toArray, List.set_cons_zero, List.set_cons_succ]
              refine wpAnyH_take (i := 7) (v := ?vc7) rfl (by kernel_rfl) (by kernel_rfl) (by kernel_rfl) (fun _ _ _ h => h) (Or.inl ⟨by rfl, ?yc7⟩) hHeld ?rc7
              case yc7 => (intro W hW; obtain ⟨hA, hB⟩ := hW; go_simp; first | done | with_reducible rfl)
              try simp only [List.getElem_toArray, List.getElem_cons_succ, List.getElem_cons_zero, Act.put, List.setIfInBounds_toArray, List.set_cons_zero, List.set_cons_succ]
              refine wpAnyH_take (i := 8) (v := ?vc8) rfl (by kernel_rfl) (by kernel_rfl) (by kernel_rfl) (fun _ _ _ h => h) (Or.inl ⟨by rfl, ?yc8⟩) hHeld ?rc8
              case yc8 => (intro W hW; obtain ⟨hA, hB⟩ := hW; go_simp; first | done | with_reducible rfl)
              try simp only [List.getElem_toArray, List.getElem_cons_succ, List.getElem_cons_zero, Act.put, List.setIfInBounds_toArray, List.set_cons_zero, List.set_cons_succ]
              refine wpAnyH_take (i := 9) (v := ?vc9) rfl (by kernel_rfl) (by kernel_rfl) (by kernel_rfl) (fun _ _ _ h => h) (Or.inl ⟨by rfl, ?yc9⟩) hHeld ?rc9
              case yc9 => (intro W hW; obtain ⟨hA, hB⟩ := hW; go_simp; first | done | with_reducible rfl)
              try simp only [List.getElem_toArray, List.getElem_cons_succ, List.getElem_cons_zero, Act.put, List.setIfInBounds_toArray, List.set_cons_zero, List.set_cons_succ]
              refine wpAnyH_take (i := 10) (v := ?vc10) rfl (by kernel_rfl) (by kernel_rfl) (by kernel_rfl) (fun _ _ _ h => h) (Or.inl ⟨by rfl, ?yc10⟩) hHeld ?rc10
              case yc10 => (intro W hW; obtain ⟨hA, hB⟩ := hW; go_simp; first | done | with_reducible rfl)
              try simp only [List.getElem_toArray, List.getElem_cons_succ, List.getElem_cons_zero, Act.put, List.setIfInBounds_toArray, List.set_cons_zero, List.set_cons_succ]
              refine wpAnyH_take (i := 11) (v := ?vc11) rfl (by kernel_rfl) (by kernel_rfl) (by kernel_rfl) (fun _ _ _ h => h) (Or.inl ⟨by rfl, ?yc11⟩) hHeld ?rc11
              case yc11 => (intro W hW; obtain ⟨hA, hB⟩ := hW; go_simp; first | done | with_reducible rfl)
              try simp only [List.getElem_toArray, List.getElem_cons_succ, List.getElem_cons_zero, Act.put, List.setIfInBounds_toArray, List.set_cons_zero, List.set_cons_succ]
              refine wpAnyH_take (i := 12) (v := ?vc12) rfl (by kernel_rfl) (by kernel_rfl) (by kernel_rfl) (fun _ _ _ h => h) (Or.inl ⟨by rfl, ?yc12⟩) hHeld ?rc12
              case yc12 => (intro W hW; obtain ⟨hA, hB⟩ := hW; go_simp; first | done | with_reducible rfl)
              try simp only [List.getElem_toArray, List.getElem_cons_succ, List.getElem_cons_zero, Act.put, List.setIfInBounds_toArray, List.set_cons_zero, List.set_cons_succ]
              refine wpAnyH_take (i := 13) (v := ?vc13) rfl (by kernel_rfl) (by kernel_rfl) (by kernel_rfl) (fun _ _ _ h => h) (Or.inl ⟨by rfl, ?yc13⟩) hHeld ?rc13
              case yc13 => (intro W hW; obtain ⟨hA, hB⟩ := hW; go_simp; first | done | with_reducible rfl)
              try simp only [List.getElem_toArray, List.getElem_cons_succ, List.getElem_cons_zero, Act.put, List.setIfInBounds_toArray, List.set_cons_zero, List.set_cons_succ]
              refine wpAnyH_take (i := 14) (v := ?vc14) rfl (by kernel_rfl) (by kernel_rfl) (by kernel_rfl) (fun _ _ _ h => h) (Or.inl ⟨by rfl, ?yc14⟩) hHeld ?rc14
              case yc14 => (intro W hW; obtain ⟨hA, hB⟩ := hW; go_simp; first | done | with_reducible rfl)
              try simp only [List.getElem_toArray, List.getElem_cons_succ, List.getElem_cons_zero, Act.put, List.setIfInBounds_toArray, List.set_cons_zero, List.set_cons_succ]
              refine wpAnyH_take (i := 15) (v := ?vc15) rfl (by kernel_rfl) (by kernel_rfl) (by kernel_rfl) (fun _ _ _ h => h) (Or.inl ⟨by rfl, ?yc15⟩) hHeld ?rc15
              case yc15 => (intro W hW; obtain ⟨hA, hB⟩ := hW; go_simp; first | done | with_reducible rfl)
              try simp only [List.getElem_toArray, List.getElem_cons_succ, List.getElem_cons_zero, Act.put, List.setIfInBounds_toArray, List.set_cons_zero, List.set_cons_succ]
              refine wpAnyH_take (i := 16) (v := ?vc16) rfl (by kernel_rfl) (by kernel_rfl) (by kernel_rfl) (fun _ _ _ h => h) (Or.inl ⟨by rfl, ?yc16⟩) hHeld ?rc16
              case yc16 => (intro W hW; obtain ⟨hA, hB⟩ := hW; go_simp; first | done | with_reducible rfl)
              try simp only [List.getElem_toArray, List.getElem_cons_succ, List.getElem_cons_zero, Act.put, List.setIfInBounds_toArray, List.set_cons_zero, List.set_cons_succ]
              refine wpAnyH_take (i := 17) (v := ?vc17) rfl (by kernel_rfl) (by kernel_rfl) (by kernel_rfl) (fun _ _ _ h => h) (Or.inl ⟨by rfl, ?yc17⟩) hHeld ?rc17
              case yc17 => (intro W hW; obtain ⟨hA, hB⟩ := hW; go_simp; first | done | with_reducible rfl)
              try simp only [List.getElem_toArray, List.getElem_cons_succ, List.getElem_cons_zero, Act.put, List.setIfInBounds_toArray, List.set_cons_zero, List.set_cons_succ]
              refine wpAnyH_take (i := 18) (v := ?vc18) rfl (by kernel_rfl) (by kernel_rfl) (by kernel_rfl) (fun _ _ _ h => h) (Or.inl ⟨by rfl, ?yc18⟩) hHeld ?rc18
              case yc18 => (intro W hW; obtain ⟨hA, hB⟩ := hW; go_simp; first | done | with_reducible rfl)
              try simp only [List.getElem_toArray, List.getElem_cons_succ, List.getElem_cons_zero, Act.put, List.setIfInBounds_toArray, List.set_cons_zero, List.set_cons_succ]
              refine wpAnyH_take (i := 19) (v := ?vc19) rfl (by kernel_rfl) (by kernel_rfl) (by kernel_rfl) (fun _ _ _ h => h) (Or.inl ⟨by rfl, ?yc19⟩) hHeld ?rc19
              case yc19 => (intro W hW; obtain ⟨hA, hB⟩ := hW; go_simp; first | done | with_reducible rfl)
              try simp only [List.getElem_toArray, List.getElem_cons_succ, List.getElem_cons_zero, Act.put, List.setIfInBounds_toArray, List.set_cons_zero, List.set_cons_succ]
              refine wpAnyH_take (i := 20) (v := ?vc20) rfl (by kernel_rfl) (by kernel_rfl) (by kernel_rfl) (fun _ _ _ h => h) (Or.inl ⟨by rfl, ?yc20⟩) hHeld ?rc20
              case yc20 => (intro W hW; obtain ⟨hA, hB⟩ := hW; go_simp; first | done | with_reducible rfl)
              try simp only [List.getElem_toArray, List.getElem_cons_succ, List.getElem_cons_zero, Act.put, List.setIfInBounds_toArray, List.set_cons_zero, List.set_cons_succ]
              refine wpAnyH_take (i := 21) (v := ?vc21) rfl (by kernel_rfl) (by kernel_rfl) (by kernel_rfl) (fun _ _ _ h => h) (Or.inl ⟨by rfl, ?yc21⟩) hHeld ?rc21
              case yc21 => (intro W hW; obtain ⟨hA, hB⟩ := hW; go_simp; first | done | with_reducible rfl)
              try simp only [List.getElem_toArray, List.getElem_cons_succ, List.getElem_cons_zero, Act.put, List.setIfInBounds_toArray, List.set_cons_zero, List.set_cons_succ]
              refine wpAnyH_take (i := 22) (v := ?vc22) rfl (by kernel_rfl) (by kernel_rfl) (by kernel_rfl) (fun _ _ _ h => h) (Or.inl ⟨by rfl, ?yc22⟩) hHeld ?rc22
              case yc22 => (intro W hW; obtain ⟨hA, hB⟩ := hW; go_simp; first | done | with_reducible rfl)
              try simp only [List.getElem_toArray, List.getElem_cons_succ, List.getElem_cons_zero, Act.put, List.setIfInBounds_toArray, List.set_cons_zero, List.set_cons_succ]
              refine wpAnyH_take (i := 23) (v := ?vc23) rfl (by kernel_rfl) (by kernel_rfl) (by kernel_rfl) (fun _ _ _ h => h) (Or.inl ⟨by rfl, ?yc23⟩) hHeld ?rc23
              case yc23 => (intro W hW; obtain ⟨hA, hB⟩ := hW; go_simp; first | done | with_reducible rfl)
              try simp only [List.getElem_toArray, List.getElem_cons_succ, List.getElem_cons_zero, Act.put, List.setIfInBounds_toArray, List.set_cons_zero, List.set_cons_succ]
              refine wpAnyH_take (i := 24) (v := ?vc24) rfl (by kernel_rfl) (by kernel_rfl) (by kernel_rfl) (fun _ _ _ h => h) (Or.inl ⟨by rfl, ?yc24⟩) hHeld ?rc24
              case yc24 => (intro W hW; obtain ⟨hA, hB⟩ := hW; go_simp; first | done | with_reducible rfl)
              try simp only [List.getElem_toArray, List.getElem_cons_succ, List.getElem_cons_zero, Act.put, List.setIfInBounds_toArray, List.set_cons_zero, List.set_cons_succ]
              refine wpAnyH_take (i := 25) (v := ?vc25) rfl (by kernel_rfl) (by kernel_rfl) (by kernel_rfl) (fun _ _ _ h => h) (Or.inl ⟨by rfl, ?yc25⟩) hHeld ?rc25
              case yc25 => (intro W hW; obtain ⟨hA, hB⟩ := hW; go_simp; first | done | with_reducible rfl)
              try simp only [List.getElem_toArray, List.getElem_cons_succ, List.getElem_cons_zero, Act.put, List.setIfInBounds_toArray, List.set_cons_zero, List.set_cons_succ]
              refine wpAnyH_take (i := 26) (v := ?vc26) rfl (by kernel_rfl) (by kernel_rfl) (by kernel_rfl) (fun _ _ _ h => h) (Or.inl ⟨by rfl, ?yc26⟩) hHeld ?rc26
              case yc26 => (intro W hW; obtain ⟨hA, hB⟩ := hW; go_simp; first | done | with_reducible rfl)
              try simp only [List.getElem_toArray, List.getElem_cons_succ, List.getElem_cons_zero, Act.put, List.setIfInBounds_toArray, List.set_cons_zero, List.set_cons_succ]
              refine wpAnyH_take (i := 27) (v := ?vc27) rfl (by kernel_rfl) (by kernel_rfl) (by kernel_rfl) (fun _ _ _ h => h) (Or.inl ⟨by rfl, ?yc27⟩) hHeld ?rc27
              case yc27 => (intro W hW; obtain ⟨hA, hB⟩ := hW; go_simp; first | done | with_reducible rfl)
              try simp only [List.getElem_toArray, List.getElem_cons_succ, List.getElem_cons_zero, Act.put, List.setIfInBounds_toArray, List.set_cons_zero, List.set_cons_succ]
              refine wpAnyH_done (by kernel_rfl) ?_ _
              go_wp2
              go_loopw [4] (fun p wq => ∃ k : Nat, p = .int .i64 k ∧ k ≤ r.length ∧ (r.take k).all okC = true ∧ Below w.heap.size w wq) (fun p _ => r.length - (intOf p).toNat)
              case atStart => exact ⟨0, rfl, Nat.zero_le _, by simp, HB.out.drew⟩
              case round =>
                obtain ⟨k, rfl, hk, hallk, hbq⟩ := hrel
                rename World => wq
                have HALK := Lib.hid hallk
                have HBQ := Lib.hid hbq
                clear hallk hbq
                obtain ⟨ad2, r2, B2, c2, e2, hr2, hcr2, hnr2⟩ := (HM.out.keep (Keeps.of_below HBQ.out)).at_ hlt
                obtain rfl : ad = ad2 := Option.some.inj e2
                obtain rfl : r = r2 := by have := HR0.out; rw [hr2] at this; exact (Option.some.inj this).symm
                clear e2 hr2
                by_cases hkl : k < r.length
                · have hkz : (k : Int) < ((r.length : Nat) : Int) := by omega
                  have k0 : (0 : Int) ≤ (k : Int) := by omega
                  obtain ⟨bd, x, rfl, hx, -, hcx⟩ := hnr2.at_ hkl
                  have hS := all_take_snoc (p := okC) hx
                  rw [HALK.out, Bool.true_and] at hS
                  have hF := fun h => all_at_false (p := okC) hx h
                  have HSK := Lib.hid hS
                  have HFK := Lib.hid hF
                  clear hx hS hF hnr2
                  by_cases x0 : x < 0
                  · have b1 : decide (x < 0) = true := by simpa using x0
                    have hc : okC x = false := by unfold okC; rw [decide_eq_false (by omega)]; rfl
                    have HFF := Lib.hid (HF.out (HOK.out.trans (HFK.out hc)))
                    clear hc x0
                    go_wp2
                    go_ret
                    exact ⟨by rw [HFF.out]; rfl, HBQ.out⟩
                  · have b1 : decide (x < 0) = false := by simpa using x0
                    by_cases x1 : 1000000 < x
                    · have b2 : decide (1000000 < x) = true := by simpa using x1
                      have hc : okC x = false := by unfold okC; rw [decide_eq_false (show ¬ x ≤ 1000000 by omega)]; simp
                      have HFF := Lib.hid (HF.out (HOK.out.trans (HFK.out hc)))
                      clear hc x0 x1
                      go_wp2
                      go_ret
                      exact ⟨by rw [HFF.out]; rfl, HBQ.out⟩
                    · have b2 : decide (1000000 < x) = false := by simpa using x1
                      have hc : okC x = true := by unfold okC; rw [decide_eq_true (by omega), decide_eq_true (show x ≤ 1000000 by omega)]; rfl
                      have HCC2 := Lib.hid (HSK.out.trans hc)
                      clear hc x0 x1
                      go_wp2
                      go_roundw
                      case rel => exact ⟨k + 1, by go_num, by omega, HCC2.out, HBQ.out⟩
                      case measure => simp [intOf]; omega
                · obtain rfl : k = r.length := by omega
                  have h1 := HALK.out
                  rw [List.take_length] at h1
                  have HS1 := Lib.hid (HS.out.trans (HOK.out.trans h1))
                  clear h1 hnr2
                  go_wp2
                  go_roundw
                  case rel => exact ⟨i + 1, by go_num, by omega, HS1.out, HBQ.out⟩
                  case measure => simp [intOf]; omega
            · have d1 : (((r.length : Nat) : Int) != (m0 : Int)) = false := by simp [k1]
              have d2 : decide ((12 : Int) < ((r.length : Nat) : Int)) = false := decide_eq_false (by omega)
              have d3 : decide (r.length < n) = true := decide_eq_true (by omega)
              have hok : okR n m0 r = false := by unfold okR; rw [decide_eq_false k3]; simp
              have HFF := Lib.hid (HF.out hok)
              clear hok k1 k3
              go_wp2
              refine wp_region_held_drew (S := fun W => W.cell? (ad.add i) = some (.slice B r.length cr) ∧ W.cell? ad = some (.slice B0 m0 c0)) (by kernel_rfl) HCC.out (fun hHeld => ?_)
              refine wpAnyH_take (i := 0) (v := ?vd0) rfl (by kernel_rfl) (by kernel_rfl) (by kernel_rfl) (fun _ _ _ h => h) (Or.inl ⟨by rfl, ?yd0⟩) hHeld ?rd0
              case yd0 => (intro W hW; obtain ⟨hA, hB⟩ := hW; go_simp; first | done | with_reducible rfl)
              try simp only [List.getElem_toArray, List.getElem_cons_zero, Act.put, List.setIfInBounds_toArray, List.set_cons_zero, List.set_cons_succ]
              refine wpAnyH_take (i := 1) (v := ?vd1) rfl (by kernel_rfl) (by kernel_rfl) (by kernel_rfl) (fun _ _ _ h => h) (Or.inl ⟨by rfl, ?yd1⟩) hHeld ?rd1
              case yd1 => (intro W hW; obtain ⟨hA, hB⟩ := hW; go_simp; first | done | with_reducible rfl)
              try simp only [List.getElem_toArray, List.getElem_cons_succ, List.getElem_cons_zero, Act.put, List.setIfInBounds_toArray, List.set_cons_zero, List.set_cons_succ]
              refine wpAnyH_take (i := 2) (v := ?vd2) rfl (by kernel_rfl) (by kernel_rfl) (by kernel_rfl) (fun _ _ _ h => h) (Or.inl ⟨by rfl, ?yd2⟩) hHeld ?rd2
              case yd2 => (intro W hW; obtain ⟨hA, hB⟩ := hW; go_simp; first | done | with_reducible rfl)
              try simp only [List.getElem_toArray, List.getElem_cons_succ, List.getElem_cons_zero, Act.put, List.setIfInBounds_toArray, List.set_cons_zero, List.set_cons_succ]
              refine wpAnyH_take (i := 3) (v := ?vd3) rfl (by kernel_rfl) (by kernel_rfl) (by kernel_rfl) (fun _ _ _ h => h) (Or.inl ⟨by rfl, ?yd3⟩) hHeld ?rd3
              case yd3 => (intro W hW; obtain ⟨hA, hB⟩ := hW; go_simp; first | done | with_reducible rfl)
              try simp only [List.getElem_toArray, List.getElem_cons_succ, List.getElem_cons_zero, Act.put, List.setIfInBounds_toArray, List.set_cons_zero, List.set_cons_succ]
              refine wpAnyH_take (i := 4) (v := ?vd4) rfl (by kernel_rfl) (by kernel_rfl) (by kernel_rfl) (fun _ _ _ h => h) (Or.inl ⟨by rfl, ?yd4⟩) hHeld ?rd4
              case yd4 => (intro W hW; obtain ⟨hA, hB⟩ := hW; go_simp; first | done | with_reducible rfl)
              try simp only [List.getElem_toArray, List.getElem_cons_succ, List.getElem_cons_zero, Act.put, List.setIfInBounds_toArray, List.set_cons_zero, List.set_cons_succ]
              refine wpAnyH_take (i := 5) (v := ?vd5) rfl (by kernel_rfl) (by kernel_rfl) (by kernel_rfl) (fun _ _ _ h => h) (Or.inl ⟨by rfl, ?yd5⟩) hHeld ?rd5
              case yd5 => (intro W hW; obtain ⟨hA, hB⟩ := hW; go_simp; first | done | with_reducible rfl)
              try simp only [List.getElem_toArray, List.getElem_cons_succ, List.getElem_cons_zero, Act.put, List.setIfInBounds_toArray, List.set_cons_zero, List.set_cons_succ]
              refine wpAnyH_take (i := 6) (v := ?vd6) rfl (by kernel_rfl) (by kernel_rfl) (by kernel_rfl) (fun _ _ _ h => h) (Or.inl ⟨by rfl, ?yd6⟩) hHeld ?rd6
              case yd6 => (intro W hW; obtain ⟨hA, hB⟩ := hW; go_simp; first | done | with_reducible rfl)
              try simp only [List.getElem_toArray, List.getElem_cons_succ, List.getElem_cons_zero, Act.put, List.setIfInBounds_toArray, List.set_cons_zero, List.set_cons_succ]
              refine wpAnyH_take (i := 7) (v := ?vd7) rfl (by kernel_rfl) (by kernel_rfl) (by kernel_rfl) (fun _ _ _ h => h) (Or.inl ⟨by rfl, ?yd7⟩) hHeld ?rd7
              case yd7 => (intro W hW; obtain ⟨hA, hB⟩ := hW; go_simp; first | done | with_reducible rfl)
              try simp only [List.getElem_toArray, List.getElem_cons_succ, List.getElem_cons_zero, Act.put, List.setIfInBounds_toArray, List.set_cons_zero, List.set_cons_succ]
              refine wpAnyH_take (i := 8) (v := ?vd8) rfl (by kernel_rfl) (by kernel_rfl) (by kernel_rfl) (fun _ _ _ h => h) (Or.inl ⟨by rfl, ?yd8⟩) hHeld ?rd8
              case yd8 => (intro W hW; obtain ⟨hA, hB⟩ := hW; go_simp; first | done | with_reducible rfl)
              try simp only [List.getElem_toArray, List.getElem_cons_succ, List.getElem_cons_zero, Act.put, List.setIfInBounds_toArray, List.set_cons_zero, List.set_cons_succ]
              refine wpAnyH_take (i := 9) (v := ?vd9) rfl (by kernel_rfl) (by kernel_rfl) (by kernel_rfl) (fun _ _ _ h => h) (Or.inl ⟨by rfl, ?yd9⟩) hHeld ?rd9
              case yd9 => (intro W hW; obtain ⟨hA, hB⟩ := hW; go_simp; first | done | with_reducible rfl)
              try simp only [List.getElem_toArray, List.getElem_cons_succ, List.getElem_cons_zero, Act.put, List.setIfInBounds_toArray, List.set_cons_zero, List.set_cons_succ]
              refine wpAnyH_take (i := 10) (v := ?vd10) rfl (by kernel_rfl) (by kernel_rfl) (by kernel_rfl) (fun _ _ _ h => h) (Or.inl ⟨by rfl, ?yd10⟩) hHeld ?rd10
              case yd10 => (intro W hW; obtain ⟨hA, hB⟩ := hW; go_simp; first | done | with_reducible rfl)
              try simp only [List.getElem_toArray, List.getElem_cons_succ, List.getElem_cons_zero, Act.put, List.setIfInBounds_toArray, List.set_cons_zero, List.set_cons_succ]
              refine wpAnyH_take (i := 11) (v := ?vd11) rfl (by kernel_rfl) (by kernel_rfl) (by kernel_rfl) (fun _ _ _ h => h) (Or.inl ⟨by rfl, ?yd11⟩) hHeld ?rd11
              case yd11 => (intro W hW; obtain ⟨hA, hB⟩ := hW; go_simp; first | done | with_reducible rfl)
              try simp only [List.getElem_toArray, List.getElem_cons_succ, List.getElem_cons_zero, Act.put, List.setIfInBounds_toArray, List.set_cons_zero, List.set_cons_succ]
              refine wpAnyH_take (i := 12) (v := ?vd12) rfl (by kernel_rfl) (by kernel_rfl) (by kernel_rfl) (fun _ _ _ h => h) (Or.inl ⟨by rfl, ?yd12⟩) hHeld ?rd12
              case yd12 => (intro W hW; obtain ⟨hA, hB⟩ := hW; go_simp; first | done | with_reducible rfl)
              try simp only [List.getElem_toArray, List.getElem_cons_succ, List.getElem_cons_zero, Act.put, List.setIfInBounds_toArray, List.set_cons_zero, List.set_cons_succ]
              refine wpAnyH_take (i := 13) (v := ?vd13) rfl (by kernel_rfl) (by kernel_rfl) (by kernel_rfl) (fun _ _ _ h => h) (Or.inl ⟨by rfl, ?yd13⟩) hHeld ?rd13
              case yd13 => (intro W hW; obtain ⟨hA, hB⟩ := hW; go_simp; first | done | with_reducible rfl)
              try simp only [List.getElem_toArray, List.getElem_cons_succ, List.getElem_cons_zero, Act.put, List.setIfInBounds_toArray, List.set_cons_zero, List.set_cons_succ]
              refine wpAnyH_take (i := 14) (v := ?vd14) rfl (by kernel_rfl) (by kernel_rfl) (by kernel_rfl) (fun _ _ _ h => h) (Or.inl ⟨by rfl, ?yd14⟩) hHeld ?rd14
              case yd14 => (intro W hW; obtain ⟨hA, hB⟩ := hW; go_simp; first | done | with_reducible rfl)
              try simp only [List.getElem_toArray, List.getElem_cons_succ, List.getElem_cons_zero, Act.put, List.setIfInBounds_toArray, List.set_cons_zero, List.set_cons_succ]
              refine wpAnyH_take (i := 15) (v := ?vd15) rfl (by kernel_rfl) (by kernel_rfl) (by kernel_rfl) (fun _ _ _ h => h) (Or.inl ⟨by rfl, ?yd15⟩) hHeld ?rd15
              case yd15 => (intro W hW; obtain ⟨hA, hB⟩ := hW; go_simp; first | done | with_reducible rfl)
              try simp only [List.getElem_toArray, List.getElem_cons_succ, List.getElem_cons_zero, Act.put, List.setIfInBounds_toArray, List.set_cons_zero, List.set_cons_succ]
              refine wpAnyH_take (i := 16) (v := ?vd16) rfl (by kernel_rfl) (by kernel_rfl) (by kernel_rfl) (fun _ _ _ h => h) (Or.inl ⟨by rfl, ?yd16⟩) hHeld ?rd16
              case yd16 => (intro W hW; obtain ⟨hA, hB⟩ := hW; go_simp; first | done | with_reducible rfl)
              try simp only [List.getElem_toArray, List.getElem_cons_succ, List.getElem_cons_zero, Act.put, List.setIfInBounds_toArray, List.set_cons_zero, List.set_cons_succ]
              refine wpAnyH_take (i := 17) (v := ?vd17) rfl (by kernel_rfl) (by kernel_rfl) (by kernel_rfl) (fun _ _ _ h => h) (Or.inl ⟨by rfl, ?yd17⟩) hHeld ?rd17
              case yd17 => (intro W hW; obtain ⟨hA, hB⟩ := hW; go_simp; first | done | with_reducible rfl)
              try simp only [List.getElem_toArray, List.getElem_cons_succ, List.getElem_cons_zero, Act.put, List.setIfInBounds_toArray, List.set_cons_zero, List.set_cons_succ]
              refine wpAnyH_take (i := 18) (v := ?vd18) rfl (by kernel_rfl) (by kernel_rfl) (by kernel_rfl) (fun _ _ _ h => h) (Or.inl ⟨by rfl, ?yd18⟩) hHeld ?rd18
              case yd18 => (intro W hW; obtain ⟨hA, hB⟩ := hW; go_simp; first | done | with_reducible rfl)
              try simp only [List.getElem_toArray, List.getElem_cons_succ, List.getElem_cons_zero, Act.put, List.setIfInBounds_toArray, List.set_cons_zero, List.set_cons_succ]
              refine wpAnyH_take (i := 19) (v := ?vd19) rfl (by kernel_rfl) (by kernel_rfl) (by kernel_rfl) (fun _ _ _ h => h) (Or.inl ⟨by rfl, ?yd19⟩) hHeld ?rd19
              case yd19 => (intro W hW; obtain ⟨hA, hB⟩ := hW; go_simp; first | done | with_reducible rfl)
              try simp only [List.getElem_toArray, List.getElem_cons_succ, List.getElem_cons_zero, Act.put, List.setIfInBounds_toArray, List.set_cons_zero, List.set_cons_succ]
              refine wpAnyH_take (i := 20) (v := ?vd20) rfl (by kernel_rfl) (by kernel_rfl) (by kernel_rfl) (fun _ _ _ h => h) (Or.inl ⟨by rfl, ?yd20⟩) hHeld ?rd20
              case yd20 => (intro W hW; obtain ⟨hA, hB⟩ := hW; go_simp; first | done | with_reducible rfl)
              try simp only [List.getElem_toArray, List.getElem_cons_succ, List.getElem_cons_zero, Act.put, List.setIfInBounds_toArray, List.set_cons_zero, List.set_cons_succ]
              refine wpAnyH_take (i := 21) (v := ?vd21) rfl (by kernel_rfl) (by kernel_rfl) (by kernel_rfl) (fun _ _ _ h => h) (Or.inl ⟨by rfl, ?yd21⟩) hHeld ?rd21
              case yd21 => (intro W hW; obtain ⟨hA, hB⟩ := hW; go_simp; first | done | with_reducible rfl)
              try simp only [List.getElem_toArray, List.getElem_cons_succ, List.getElem_cons_zero, Act.put, List.setIfInBounds_toArray, List.set_cons_zero, List.set_cons_succ]
              refine wpAnyH_take (i := 22) (v := ?vd22) rfl (by kernel_rfl) (by kernel_rfl) (by kernel_rfl) (fun _ _ _ h => h) (Or.inl ⟨by rfl, ?yd22⟩) hHeld ?rd22
              case yd22 => (intro W hW; obtain ⟨hA, hB⟩ := hW; go_simp; first | done | with_reducible rfl)
              try simp only [List.getElem_toArray, List.getElem_cons_succ, List.getElem_cons_zero, Act.put, List.setIfInBounds_toArray, List.set_cons_zero, List.set_cons_succ]
              refine wpAnyH_take (i := 23) (v := ?vd23) rfl (by kernel_rfl) (by kernel_rfl) (by kernel_rfl) (fun _ _ _ h => h) (Or.inl ⟨by rfl, ?yd23⟩) hHeld ?rd23
              case yd23 => (intro W hW; obtain ⟨hA, hB⟩ := hW; go_simp; first | done | with_reducible rfl)
              try simp only [List.getElem_toArray, List.getElem_cons_succ, List.getElem_cons_zero, Act.put, List.setIfInBounds_toArray, List.set_cons_zero, List.set_cons_succ]
              refine wpAnyH_take (i := 24) (v := ?vd24) rfl (by kernel_rfl) (by kernel_rfl) (by kernel_rfl) (fun _ _ _ h => h) (Or.inl ⟨by rfl, ?yd24⟩) hHeld ?rd24
              case yd24 => (intro W hW; obtain ⟨hA, hB⟩ := hW; go_simp; first | done | with_reducible rfl)
              try simp only [List.getElem_toArray, List.getElem_cons_succ, List.getElem_cons_zero, Act.put, List.setIfInBounds_toArray, List.set_cons_zero, List.set_cons_succ]
              refine wpAnyH_take (i := 25) (v := ?vd25) rfl (by kernel_rfl) (by kernel_rfl) (by kernel_rfl) (fun _ _ _ h => h) (Or.inl ⟨by rfl, ?yd25⟩) hHeld ?rd25
              case yd25 => (intro W hW; obtain ⟨hA, hB⟩ := hW; go_simp; first | done | with_reducible rfl)
              try simp only [List.getElem_toArray, List.getElem_cons_succ, List.getElem_cons_zero, Act.put, List.setIfInBounds_toArray, List.set_cons_zero, List.set_cons_succ]
              refine wpAnyH_take (i := 26) (v := ?vd26) rfl (by kernel_rfl) (by kernel_rfl) (by kernel_rfl) (fun _ _ _ h => h) (Or.inl ⟨by rfl, ?yd26⟩) hHeld ?rd26
              case yd26 => (intro W hW; obtain ⟨hA, hB⟩ := hW; go_simp; first | done | with_reducible rfl)
              try simp only [List.getElem_toArray, List.getElem_cons_succ, List.getElem_cons_zero, Act.put, List.setIfInBounds_toArray, List.set_cons_zero, List.set_cons_succ]
              refine wpAnyH_take (i := 27) (v := ?vd27) rfl (by kernel_rfl) (by kernel_rfl) (by kernel_rfl) (fun _ _ _ h => h) (Or.inl ⟨by rfl, ?yd27⟩) hHeld ?rd27
              case yd27 => (intro W hW; obtain ⟨hA, hB⟩ := hW; go_simp; first | done | with_reducible rfl)
              try simp only [List.getElem_toArray, List.getElem_cons_succ, List.getElem_cons_zero, Act.put, List.setIfInBounds_toArray, List.set_cons_zero, List.set_cons_succ]
              refine wpAnyH_done (by kernel_rfl) ?_ _
              go_wp2
              go_ret
              exact ⟨by rw [HFF.out]; rfl, HB.out.drew⟩
          · have d1 : (((r.length : Nat) : Int) != (m0 : Int)) = false := by simp [k1]
            have d2 : decide ((12 : Int) < ((r.length : Nat) : Int)) = true := decide_eq_true (by omega)
            have hok : okR n m0 r = false := by unfold okR; rw [decide_eq_false k2]; simp
            have HFF := Lib.hid (HF.out hok)
            clear hok k1
            go_wp2
            refine wp_region_held_drew (S := fun W => W.cell? (ad.add i) = some (.slice B r.length cr) ∧ W.cell? ad = some (.slice B0 m0 c0)) (by kernel_rfl) HCC.out (fun hHeld => ?_)
            refine wpAnyH_take (i := 0) (v := ?ve0) rfl (by kernel_rfl) (by kernel_rfl) (by kernel_rfl) (fun _ _ _ h => h) (Or.inl ⟨by rfl, ?ye0⟩) hHeld ?re0
            case ye0 => (intro W hW; obtain ⟨hA, hB⟩ := hW; go_simp; first | done | with_reducible rfl)
            try simp only [List.getElem_toArray, List.getElem_cons_zero, Act.put, List.setIfInBounds_toArray, List.set_cons_zero, List.set_cons_succ]
            refine wpAnyH_take (i := 1) (v := ?ve1) rfl (by kernel_rfl) (by kernel_rfl) (by kernel_rfl) (fun _ _ _ h => h) (Or.inl ⟨by rfl, ?ye1⟩) hHeld ?re1
            case ye1 => (intro W hW; obtain ⟨hA, hB⟩ := hW; go_simp; first | done | with_reducible rfl)
            try simp only [List.getElem_toArray, List.getElem_cons_succ, List.getElem_cons_zero, Act.put, List.setIfInBounds_toArray, List.set_cons_zero, List.set_cons_succ]
            refine wpAnyH_take (i := 2) (v := ?ve2) rfl (by kernel_rfl) (by kernel_rfl) (by kernel_rfl) (fun _ _ _ h => h) (Or.inl ⟨by rfl, ?ye2⟩) hHeld ?re2
            case ye2 => (intro W hW; obtain ⟨hA, hB⟩ := hW; go_simp; first | done | with_reducible rfl)
            try simp only [List.getElem_toArray, List.getElem_cons_succ, List.getElem_cons_zero, Act.put, List.setIfInBounds_toArray, List.set_cons_zero, List.set_cons_succ]
            refine wpAnyH_take (i := 3) (v := ?ve3) rfl (by kernel_rfl) (by kernel_rfl) (by kernel_rfl) (fun _ _ _ h => h) (Or.inl ⟨by rfl, ?ye3⟩) hHeld ?re3
            case ye3 => (intro W hW; obtain ⟨hA, hB⟩ := hW; go_simp; first | done | with_reducible rfl)
            try simp only [List.getElem_toArray, List.getElem_cons_succ, List.getElem_cons_zero, Act.put, List.setIfInBounds_toArray, List.set_cons_zero, List.set_cons_succ]
            refine wpAnyH_take (i := 4) (v := ?ve4) rfl (by kernel_rfl) (by kernel_rfl) (by kernel_rfl) (fun _ _ _ h => h) (Or.inl ⟨by rfl, ?ye4⟩) hHeld ?re4
            case ye4 => (intro W hW; obtain ⟨hA, hB⟩ := hW; go_simp; first | done | with_reducible rfl)
            try simp only [List.getElem_toArray, List.getElem_cons_succ, List.getElem_cons_zero, Act.put, List.setIfInBounds_toArray, List.set_cons_zero, List.set_cons_succ]
            refine wpAnyH_take (i := 5) (v := ?ve5) rfl (by kernel_rfl) (by kernel_rfl) (by kernel_rfl) (fun _ _ _ h => h) (Or.inl ⟨by rfl, ?ye5⟩) hHeld ?re5
            case ye5 => (intro W hW; obtain ⟨hA, hB⟩ := hW; go_simp; first | done | with_reducible rfl)
            try simp only [List.getElem_toArray, List.getElem_cons_succ, List.getElem_cons_zero, Act.put, List.setIfInBounds_toArray, List.set_cons_zero, List.set_cons_succ]
            refine wpAnyH_take (i := 6) (v := ?ve6) rfl (by kernel_rfl) (by kernel_rfl) (by kernel_rfl) (fun _ _ _ h => h) (Or.inl ⟨by rfl, ?ye6⟩) hHeld ?re6
            case ye6 => (intro W hW; obtain ⟨hA, hB⟩ := hW; go_simp; first | done | with_reducible rfl)
            try simp only [List.getElem_toArray, List.getElem_cons_succ, List.getElem_cons_zero, Act.put, List.setIfInBounds_toArray, List.set_cons_zero, List.set_cons_succ]
            refine wpAnyH_take (i := 7) (v := ?ve7) rfl (by kernel_rfl) (by kernel_rfl) (by kernel_rfl) (fun _ _ _ h => h) (Or.inl ⟨by rfl, ?ye7⟩) hHeld ?re7
            case ye7 => (intro W hW; obtain ⟨hA, hB⟩ := hW; go_simp; first | done | with_reducible rfl)
            try simp only [List.getElem_toArray, List.getElem_cons_succ, List.getElem_cons_zero, Act.put, List.setIfInBounds_toArray, List.set_cons_zero, List.set_cons_succ]
            refine wpAnyH_take (i := 8) (v := ?ve8) rfl (by kernel_rfl) (by kernel_rfl) (by kernel_rfl) (fun _ _ _ h => h) (Or.inl ⟨by rfl, ?ye8⟩) hHeld ?re8
            case ye8 => (intro W hW; obtain ⟨hA, hB⟩ := hW; go_simp; first | done | with_reducible rfl)
            try simp only [List.getElem_toArray, List.getElem_cons_succ, List.getElem_cons_zero, Act.put, List.setIfInBounds_toArray, List.set_cons_zero, List.set_cons_succ]
            refine wpAnyH_take (i := 9) (v := ?ve9) rfl (by kernel_rfl) (by kernel_rfl) (by kernel_rfl) (fun _ _ _ h => h) (Or.inl ⟨by rfl, ?ye9⟩) hHeld ?re9
            case ye9 => (intro W hW; obtain ⟨hA, hB⟩ := hW; go_simp; first | done | with_reducible rfl)
            try simp only [List.getElem_toArray, List.getElem_cons_succ, List.getElem_cons_zero, Act.put, List.setIfInBounds_toArray, List.set_cons_zero, List.set_cons_succ]
            refine wpAnyH_take (i := 10) (v := ?ve10) rfl (by kernel_rfl) (by kernel_rfl) (by kernel_rfl) (fun _ _ _ h => h) (Or.inl ⟨by rfl, ?ye10⟩) hHeld ?re10
            case ye10 => (intro W hW; obtain ⟨hA, hB⟩ := hW; go_simp; first | done | with_reducible rfl)
            try simp only [List.getElem_toArray, List.getElem_cons_succ, List.getElem_cons_zero, Act.put, List.setIfInBounds_toArray, List.set_cons_zero, List.set_cons_succ]
            refine wpAnyH_take (i := 11) (v := ?ve11) rfl (by kernel_rfl) (by kernel_rfl) (by kernel_rfl) (fun _ _ _ h => h) (Or.inl ⟨by rfl, ?ye11⟩) hHeld ?re11
            case ye11 => (intro W hW; obtain ⟨hA, hB⟩ := hW; go_simp; first | done | with_reducible rfl)
            try simp only [List.getElem_toArray, List.getElem_cons_succ, List.getElem_cons_zero, Act.put, List.setIfInBounds_toArray, List.set_cons_zero, List.set_cons_succ]
            refine wpAnyH_take (i := 12) (v := ?ve12) rfl (by kernel_rfl) (by kernel_rfl) (by kernel_rfl) (fun _ _ _ h => h) (Or.inl ⟨by rfl, ?ye12⟩) hHeld ?re12
            case ye12 => (intro W hW; obtain ⟨hA, hB⟩ := hW; go_simp; first | done | with_reducible rfl)
            try simp only [List.getElem_toArray, List.getElem_cons_succ, List.getElem_cons_zero, Act.put, List.setIfInBounds_toArray, List.set_cons_zero, List.set_cons_succ]
            refine wpAnyH_take (i := 13) (v := ?ve13) rfl (by kernel_rfl) (by kernel_rfl) (by kernel_rfl) (fun _ _ _ h => h) (Or.inl ⟨by rfl, ?ye13⟩) hHeld ?re13
            case ye13 => (intro W hW; obtain ⟨hA, hB⟩ := hW; go_simp; first | done | with_reducible rfl)
            try simp only [List.getElem_toArray, List.getElem_cons_succ, List.getElem_cons_zero, Act.put, List.setIfInBounds_toArray, List.set_cons_zero, List.set_cons_succ]
            refine wpAnyH_take (i := 14) (v := ?ve14) rfl (by kernel_rfl) (by kernel_rfl) (by kernel_rfl) (fun _ _ _ h => h) (Or.inl ⟨by rfl, ?ye14⟩) hHeld ?re14
            case ye14 => (intro W hW; obtain ⟨hA, hB⟩ := hW; go_simp; first | done | with_reducible rfl)
            try simp only [List.getElem_toArray, List.getElem_cons_succ, List.getElem_cons_zero, Act.put, List.setIfInBounds_toArray, List.set_cons_zero, List.set_cons_succ]
            refine wpAnyH_take (i := 15) (v := ?ve15) rfl (by kernel_rfl) (by kernel_rfl) (by kernel_rfl) (fun _ _ _ h => h) (Or.inl ⟨by rfl, ?ye15⟩) hHeld ?re15
            case ye15 => (intro W hW; obtain ⟨hA, hB⟩ := hW; go_simp; first | done | with_reducible rfl)
            try simp only [List.getElem_toArray, List.getElem_cons_succ, List.getElem_cons_zero, Act.put, List.setIfInBounds_toArray, List.set_cons_zero, List.set_cons_succ]
            refine wpAnyH_take (i := 16) (v := ?ve16) rfl (by kernel_rfl) (by kernel_rfl) (by kernel_rfl) (fun _ _ _ h => h) (Or.inl ⟨by rfl, ?ye16⟩) hHeld ?re16
            case ye16 => (intro W hW; obtain ⟨hA, hB⟩ := hW; go_simp; first | done | with_reducible rfl)
            try simp only [List.getElem_toArray, List.getElem_cons_succ, List.getElem_cons_zero, Act.put, List.setIfInBounds_toArray, List.set_cons_zero, List.set_cons_succ]
            refine wpAnyH_take (i := 17) (v := ?ve17) rfl (by kernel_rfl) (by kernel_rfl) (by kernel_rfl) (fun _ _ _ h => h) (Or.inl ⟨by rfl, ?ye17⟩) hHeld ?re17
            case ye17 => (intro W hW; obtain ⟨hA, hB⟩ := hW; go_simp; first | done | with_reducible rfl)
            try simp only [List.getElem_toArray, List.getElem_cons_succ, List.getElem_cons_zero, Act.put, List.setIfInBounds_toArray, List.set_cons_zero, List.set_cons_succ]
            refine wpAnyH_take (i := 18) (v := ?ve18) rfl (by kernel_rfl) (by kernel_rfl) (by kernel_rfl) (fun _ _ _ h => h) (Or.inl ⟨by rfl, ?ye18⟩) hHeld ?re18
            case ye18 => (intro W hW; obtain ⟨hA, hB⟩ := hW; go_simp; first | done | with_reducible rfl)
            try simp only [List.getElem_toArray, List.getElem_cons_succ, List.getElem_cons_zero, Act.put, List.setIfInBounds_toArray, List.set_cons_zero, List.set_cons_succ]
            refine wpAnyH_take (i := 19) (v := undef) rfl (by kernel_rfl) (by kernel_rfl) (by kernel_rfl) (fun _ _ _ h => h) (Or.inr ⟨by rfl, rfl⟩) hHeld ?re19
            try simp only [List.getElem_toArray, List.getElem_cons_succ, List.getElem_cons_zero, Act.put, List.setIfInBounds_toArray, List.set_cons_zero, List.set_cons_succ]
            refine wpAnyH_take (i := 20) (v := undef) rfl (by kernel_rfl) (by kernel_rfl) (by kernel_rfl) (fun _ _ _ h => h) (Or.inr ⟨by rfl, rfl⟩) hHeld ?re20
            try simp only [List.getElem_toArray, List.getElem_cons_succ, List.getElem_cons_zero, Act.put, List.setIfInBounds_toArray, List.set_cons_zero, List.set_cons_succ]
            refine wpAnyH_take (i := 21) (v := undef) rfl (by kernel_rfl) (by kernel_rfl) (by kernel_rfl) (fun _ _ _ h => h) (Or.inr ⟨by rfl, rfl⟩) hHeld ?re21
            try simp only [List.getElem_toArray, List.getElem_cons_succ, List.getElem_cons_zero, Act.put, List.setIfInBounds_toArray, List.set_cons_zero, List.set_cons_succ]
            refine wpAnyH_take (i := 22) (v := undef) rfl (by kernel_rfl) (by kernel_rfl) (by kernel_rfl) (fun _ _ _ h => h) (Or.inr ⟨by rfl, rfl⟩) hHeld ?re22
            try simp only [List.getElem_toArray, List.getElem_cons_succ, List.getElem_cons_zero, Act.put, List.setIfInBounds_toArray, List.set_cons_zero, List.set_cons_succ]
            refine wpAnyH_take (i := 23) (v := undef) rfl (by kernel_rfl) (by kernel_rfl) (by kernel_rfl) (fun _ _ _ h => h) (Or.inr ⟨by rfl, rfl⟩) hHeld ?re23
            try simp only [List.getElem_toArray, List.getElem_cons_succ, List.getElem_cons_zero, Act.put, List.setIfInBounds_toArray, List.set_cons_zero, List.set_cons_succ]
            refine wpAnyH_take (i := 24) (v := undef) rfl (by kernel_rfl) (by kernel_rfl) (by kernel_rfl) (fun _ _ _ h => h) (Or.inr ⟨by rfl, rfl⟩) hHeld ?re24
            try simp only [List.getElem_toArray, List.getElem_cons_succ, List.getElem_cons_zero, Act.put, List.setIfInBounds_toArray, List.set_cons_zero, List.set_cons_succ]
            refine wpAnyH_take (i := 25) (v := undef) rfl (by kernel_rfl) (by kernel_rfl) (by kernel_rfl) (fun _ _ _ h => h) (Or.inr ⟨by rfl, rfl⟩) hHeld ?re25
            try simp only [List.getElem_toArray, List.getElem_cons_succ, List.getElem_cons_zero, Act.put, List.setIfInBounds_toArray, List.set_cons_zero, List.set_cons_succ]
            refine wpAnyH_take (i := 26) (v := undef) rfl (by kernel_rfl) (by kernel_rfl) (by kernel_rfl) (fun _ _ _ h => h) (Or.inr ⟨by rfl, rfl⟩) hHeld ?re26
            try simp only [List.getElem_toArray, List.getElem_cons_succ, List.getElem_cons_zero, Act.put, List.setIfInBounds_toArray, List.set_cons_zero, List.set_cons_succ]
            refine wpAnyH_take (i := 27) (v := ?ve27) rfl (by kernel_rfl) (by kernel_rfl) (by kernel_rfl) (fun _ _ _ h => h) (Or.inl ⟨by rfl, ?ye27⟩) hHeld ?re27
            case ye27 => (intro W hW; obtain ⟨hA, hB⟩ := hW; go_simp; first | done | with_reducible rfl)
            try simp only [List.getElem_toArray, List.getElem_cons_succ, List.getElem_cons_zero, Act.put, List.setIfInBounds_toArray, List.set_cons_zero, List.set_cons_succ]
            refine wpAnyH_done (by kernel_rfl) ?_ _
            go_wp2
            go_ret
            exact ⟨by rw [HFF.out]; rfl, HB.out.drew⟩
        · have d1 : (((r.length : Nat) : Int) != (m0 : Int)) = true := by rw [bne_iff_ne]; omega
          have hok : okR n m0 r = false := by unfold okR; rw [decide_eq_false k1]; simp
          have HFF := Lib.hid (HF.out hok)
          clear hok k1
          go_wp2
          refine wp_region_held_drew (S := fun W => W.cell? (ad.add i) = some (.slice B r.length cr) ∧ W.cell? ad = some (.slice B0 m0 c0)) (by kernel_rfl) HCC.out (fun hHeld => ?_)
          refine wpAnyH_take (i := 0) (v := ?vf0) rfl (by kernel_rfl) (by kernel_rfl) (by kernel_rfl) (fun _ _ _ h => h) (Or.inl ⟨by rfl, ?yf0⟩) hHeld ?rf0
          case yf0 => (intro W hW; obtain ⟨hA, hB⟩ := hW; go_simp; first | done | with_reducible rfl)
          try simp only [List.getElem_toArray, List.getElem_cons_zero, Act.put, List.setIfInBounds_toArray, List.set_cons_zero, List.set_cons_succ]
          refine wpAnyH_take (i := 1) (v := ?vf1) rfl (by kernel_rfl) (by kernel_rfl) (by kernel_rfl) (fun _ _ _ h => h) (Or.inl ⟨by rfl, ?yf1⟩) hHeld ?rf1
          case yf1 => (intro W hW; obtain ⟨hA, hB⟩ := hW; go_simp; first | done | with_reducible rfl)
          try simp only [List.getElem_toArray, List.getElem_cons_succ, List.getElem_cons_zero, Act.put, List.setIfInBounds_toArray, List.set_cons_zero, List.set_cons_succ]
          refine wpAnyH_take (i := 2) (v := ?vf2) rfl (by kernel_rfl) (by kernel_rfl) (by kernel_rfl) (fun _ _ _ h => h) (Or.inl ⟨by rfl, ?yf2⟩) hHeld ?rf2
          case yf2 => (intro W hW; obtain ⟨hA, hB⟩ := hW; go_simp; first | done | with_reducible rfl)
          try simp only [List.getElem_toArray, List.getElem_cons_succ, List.getElem_cons_zero, Act.put, List.setIfInBounds_toArray, List.set_cons_zero, List.set_cons_succ]
          refine wpAnyH_take (i := 3) (v := ?vf3) rfl (by kernel_rfl) (by kernel_rfl) (by kernel_rfl) (fun _ _ _ h => h) (Or.inl ⟨by rfl, ?yf3⟩) hHeld ?rf3
          case yf3 => (intro W hW; obtain ⟨hA, hB⟩ := hW; go_simp; first | done | with_reducible rfl)
          try simp only [List.getElem_toArray, List.getElem_cons_succ, List.getElem_cons_zero, Act.put, List.setIfInBounds_toArray, List.set_cons_zero, List.set_cons_succ]
          refine wpAnyH_take (i := 4) (v := ?vf4) rfl (by kernel_rfl) (by kernel_rfl) (by kernel_rfl) (fun _ _ _ h => h) (Or.inl ⟨by rfl, ?yf4⟩) hHeld ?rf4
          case yf4 => (intro W hW; obtain ⟨hA, hB⟩ := hW; go_simp; first | done | with_reducible rfl)
          try simp only [List.getElem_toArray, List.getElem_cons_succ, List.getElem_cons_zero, Act.put, List.setIfInBounds_toArray, List.set_cons_zero, List.set_cons_succ]
          refine wpAnyH_take (i := 5) (v := ?vf5) rfl (by kernel_rfl) (by kernel_rfl) (by kernel_rfl) (fun _ _ _ h => h) (Or.inl ⟨by rfl, ?yf5⟩) hHeld ?rf5
          case yf5 => (intro W hW; obtain ⟨hA, hB⟩ := hW; go_simp; first | done | with_reducible rfl)
          try simp only [List.getElem_toArray, List.getElem_cons_succ, List.getElem_cons_zero, Act.put, List.setIfInBounds_toArray, List.set_cons_zero, List.set_cons_succ]
          refine wpAnyH_take (i := 6) (v := ?vf6) rfl (by kernel_rfl) (by kernel_rfl) (by kernel_rfl) (fun _ _ _ h => h) (Or.inl ⟨by rfl, ?yf6⟩) hHeld ?rf6
          case yf6 => (intro W hW; obtain ⟨hA, hB⟩ := hW; go_simp; first | done | with_reducible rfl)
          try simp only [List.getElem_toArray, List.getElem_cons_succ, List.getElem_cons_zero, Act.put, List.setIfInBounds_toArray, List.set_cons_zero, List.set_cons_succ]
          refine wpAnyH_take (i := 7) (v := ?vf7) rfl (by kernel_rfl) (by kernel_rfl) (by kernel_rfl) (fun _ _ _ h => h) (Or.inl ⟨by rfl, ?yf7⟩) hHeld ?rf7
          case yf7 => (intro W hW; obtain ⟨hA, hB⟩ := hW; go_simp; first | done | with_reducible rfl)
          try simp only [List.getElem_toArray, List.getElem_cons_succ, List.getElem_cons_zero, Act.put, List.setIfInBounds_toArray, List.set_cons_zero, List.set_cons_succ]
          refine wpAnyH_take (i := 8) (v := ?vf8) rfl (by kernel_rfl) (by kernel_rfl) (by kernel_rfl) (fun _ _ _ h => h) (Or.inl ⟨by rfl, ?yf8⟩) hHeld ?rf8
          case yf8 => (intro W hW; obtain ⟨hA, hB⟩ := hW; go_simp; first | done | with_reducible rfl)
          try simp only [List.getElem_toArray, List.getElem_cons_succ, List.getElem_cons_zero, Act.put, List.setIfInBounds_toArray, List.set_cons_zero, List.set_cons_succ]
          refine wpAnyH_take (i := 9) (v := ?vf9) rfl (by kernel_rfl) (by kernel_rfl) (by kernel_rfl) (fun _ _ _ h => h) (Or.inl ⟨by rfl, ?yf9⟩) hHeld ?rf9
          case yf9 => (intro W hW; obtain ⟨hA, hB⟩ := hW; go_simp; first | done | with_reducible rfl)
          try simp only [List.getElem_toArray, List.getElem_cons_succ, List.getElem_cons_zero, Act.put, List.setIfInBounds_toArray, List.set_cons_zero, List.set_cons_succ]
          refine wpAnyH_take (i := 10) (v := ?vf10) rfl (by kernel_rfl) (by kernel_rfl) (by kernel_rfl) (fun _ _ _ h => h) (Or.inl ⟨by rfl, ?yf10⟩) hHeld ?rf10
          case yf10 => (intro W hW; obtain ⟨hA, hB⟩ := hW; go_simp; first | done | with_reducible rfl)
          try simp only [List.getElem_toArray, List.getElem_cons_succ, List.getElem_cons_zero, Act.put, List.setIfInBounds_toArray, List.set_cons_zero, List.set_cons_succ]
          refine wpAnyH_take (i := 11) (v := undef) rfl (by kernel_rfl) (by kernel_rfl) (by kernel_rfl) (fun _ _ _ h => h) (Or.inr ⟨by rfl, rfl⟩) hHeld ?rf11
          try simp only [List.getElem_toArray, List.getElem_cons_succ, List.getElem_cons_zero, Act.put, List.setIfInBounds_toArray, List.set_cons_zero, List.set_cons_succ]
          refine wpAnyH_take (i := 12) (v := undef) rfl (by kernel_rfl) (by kernel_rfl) (by kernel_rfl) (fun _ _ _ h => h) (Or.inr ⟨by rfl, rfl⟩) hHeld ?rf12
          try simp only [List.getElem_toArray, List.getElem_cons_succ, List.getElem_cons_zero, Act.put, List.setIfInBounds_toArray, List.set_cons_zero, List.set_cons_succ]
          refine wpAnyH_take (i := 13) (v := undef) rfl (by kernel_rfl) (by kernel_rfl) (by kernel_rfl) (fun _ _ _ h => h) (Or.inr ⟨by rfl, rfl⟩) hHeld ?rf13
          try simp only [List.getElem_toArray, List.getElem_cons_succ, List.getElem_cons_zero, Act.put, List.setIfInBounds_toArray, List.set_cons_zero, List.set_cons_succ]
          refine wpAnyH_take (i := 14) (v := undef) rfl (by kernel_rfl) (by kernel_rfl) (by kernel_rfl) (fun _ _ _ h => h) (Or.inr ⟨by rfl, rfl⟩) hHeld ?rf14
          try simp only [List.getElem_toArray, List.getElem_cons_succ, List.getElem_cons_zero, Act.put, List.setIfInBounds_toArray, List.set_cons_zero, List.set_cons_succ]
          refine wpAnyH_take (i := 15) (v := undef) rfl (by kernel_rfl) (by kernel_rfl) (by kernel_rfl) (fun _ _ _ h => h) (Or.inr ⟨by rfl, rfl⟩) hHeld ?rf15
          try simp only [List.getElem_toArray, List.getElem_cons_succ, List.getElem_cons_zero, Act.put, List.setIfInBounds_toArray, List.set_cons_zero, List.set_cons_succ]
          refine wpAnyH_take (i := 16) (v := undef) rfl (by kernel_rfl) (by kernel_rfl) (by kernel_rfl) (fun _ _ _ h => h) (Or.inr ⟨by rfl, rfl⟩) hHeld ?rf16
          try simp only [List.getElem_toArray, List.getElem_cons_succ, List.getElem_cons_zero, Act.put, List.setIfInBounds_toArray, List.set_cons_zero, List.set_cons_succ]
          refine wpAnyH_take (i := 17) (v := ?vf17) rfl (by kernel_rfl) (by kernel_rfl) (by kernel_rfl) (fun _ _ _ h => h) (Or.inl ⟨by rfl, ?yf17⟩) hHeld ?rf17
          case yf17 => (intro W hW; obtain ⟨hA, hB⟩ := hW; go_simp; first | done | with_reducible rfl)
          try simp only [List.getElem_toArray, List.getElem_cons_succ, List.getElem_cons_zero, Act.put, List.setIfInBounds_toArray, List.set_cons_zero, List.set_cons_succ]
          refine wpAnyH_take (i := 18) (v := ?vf18) rfl (by kernel_rfl) (by kernel_rfl) (by kernel_rfl) (fun _ _ _ h => h) (Or.inl ⟨by rfl, ?yf18⟩) hHeld ?rf18
          case yf18 => (intro W hW; obtain ⟨hA, hB⟩ := hW; go_simp; first | done | with_reducible rfl)
          try simp only [List.getElem_toArray, List.getElem_cons_succ, List.getElem_cons_zero, Act.put, List.setIfInBounds_toArray, List.set_cons_zero, List.set_cons_succ]
          refine wpAnyH_take (i := 19) (v := undef) rfl (by kernel_rfl) (by kernel_rfl) (by kernel_rfl) (fun _ _ _ h => h) (Or.inr ⟨by rfl, rfl⟩) hHeld ?rf19
          try simp only [List.getElem_toArray, List.getElem_cons_succ, List.getElem_cons_zero, Act.put, List.setIfInBounds_toArray, List.set_cons_zero, List.set_cons_succ]
          refine wpAnyH_take (i := 20) (v := undef) rfl (by kernel_rfl) (by kernel_rfl) (by kernel_rfl) (fun _ _ _ h => h) (Or.inr ⟨by rfl, rfl⟩) hHeld ?rf20
          try simp only [List.getElem_toArray, List.getElem_cons_succ, List.getElem_cons_zero, Act.put, List.setIfInBounds_toArray, List.set_cons_zero, List.set_cons_succ]
          refine wpAnyH_take (i := 21) (v := undef) rfl (by kernel_rfl) (by kernel_rfl) (by kernel_rfl) (fun _ _ _ h => h) (Or.inr ⟨by rfl, rfl⟩) hHeld ?rf21
          try simp only [List.getElem_toArray, List.getElem_cons_succ, List.getElem_cons_zero, Act.put, List.setIfInBounds_toArray, List.set_cons_zero, List.set_cons_succ]
          refine wpAnyH_take (i := 22) (v := undef) rfl (by kernel_rfl) (by kernel_rfl) (by kernel_rfl) (fun _ _ _ h => h) (Or.inr ⟨by rfl, rfl⟩) hHeld ?rf22
          try simp only [List.getElem_toArray, List.getElem_cons_succ, List.getElem_cons_zero, Act.put, List.setIfInBounds_toArray, List.set_cons_zero, List.set_cons_succ]
          refine wpAnyH_take (i := 23) (v := undef) rfl (by kernel_rfl) (by kernel_rfl) (by kernel_rfl) (fun _ _ _ h => h) (Or.inr ⟨by rfl, rfl⟩) hHeld ?rf23
          try simp only [List.getElem_toArray, List.getElem_cons_succ, List.getElem_cons_zero, Act.put, List.setIfInBounds_toArray, List.set_cons_zero, List.set_cons_succ]
          refine wpAnyH_take (i := 24) (v := undef) rfl (by kernel_rfl) (by kernel_rfl) (by kernel_rfl) (fun _ _ _ h => h) (Or.inr ⟨by rfl, rfl⟩) hHeld ?rf24
          try simp only [List.getElem_toArray, List.getElem_cons_succ, List.getElem_cons_zero, Act.put, List.setIfInBounds_toArray, List.set_cons_zero, List.set_cons_succ]
          refine wpAnyH_take (i := 25) (v := undef) rfl (by kernel_rfl) (by kernel_rfl) (by kernel_rfl) (fun _ _ _ h => h) (Or.inr ⟨by rfl, rfl⟩) hHeld ?rf25
          try simp only [List.getElem_toArray, List.getElem_cons_succ, List.getElem_cons_zero, Act.put, List.setIfInBounds_toArray, List.set_cons_zero, List.set_cons_succ]
          refine wpAnyH_take (i := 26) (v := undef) rfl (by kernel_rfl) (by kernel_rfl) (by kernel_rfl) (fun _ _ _ h => h) (Or.inr ⟨by rfl, rfl⟩) hHeld ?rf26
          try simp only [List.getElem_toArray, List.getElem_cons_succ, List.getElem_cons_zero, Act.put, List.setIfInBounds_toArray, List.set_cons_zero, List.set_cons_succ]
          refine wpAnyH_take (i := 27) (v := ?vf27) rfl (by kernel_rfl) (by kernel_rfl) (by kernel_rfl) (fun _ _ _ h => h) (Or.inl ⟨by rfl, ?yf27⟩) hHeld ?rf27
          case yf27 => (intro W hW; obtain ⟨hA, hB⟩ := hW; go_simp; first | done | with_reducible rfl)
          try simp only [List.getElem_toArray, List.getElem_cons_succ, List.getElem_cons_zero, Act.put, List.setIfInBounds_toArray, List.set_cons_zero, List.set_cons_succ]
          refine wpAnyH_done (by kernel_rfl) ?_ _
          go_wp2
          go_ret
          exact ⟨by rw [HFF.out]; rfl, HB.out.drew⟩
      · obtain rfl : i = n := by omega
        have h := HALL.out
        rw [List.take_of_length_le (Nat.le_of_eq HLEN.out)] at h
        have HH := Lib.hid h
        clear h
        go_wp2
        go_ret
        exact ⟨by rw [HH.out]; rfl, HB.out⟩
  · have hok := okM_len (M := M) (by rw [hM.1]; exact h12)
    rw [hok]
    have d12 : decide ((12 : Int) < (n : Int)) = true := decide_eq_true (by omega)
    clear hM hrb hok
    go_enter Tryz.func74, Tryz.ntmps74
    go_wp2
    go_ret
    exact ⟨rfl, Below.refl _ _⟩
end Go.Proofs.YtjllmladhjbnaaaGreatDoor
/- The reference's ahead: of each row, of each set of taken columns, what is left. -/
namespace Go.Proofs.YtjllmladhjbnaaaGreatDoor
open Go.RowKit Go.Shelf
attribute [local go_sem] Oper.semAt_some
theorem infoS : (Tryz.prog.info? 22).map (fun i => (i.zero, i.size, i.bytes)) = some (some (.slice none 0 0), 1, 24) := by kernel_rfl
theorem make_slices {P : Program} (t e : TypeId) (i : TypeInfo) (ht : P.underlying t = some (.slice e)) (hi : P.info? e = some i) (hz : i.zero = some (.slice none 0 0)) (hs : i.size = 1) (hb : i.bytes = 24) (n : Nat) (hn : n ≤ 100000) (w : World) :
    (Instr.makeSlice t (.int .i64 (n : Int)) (.int .i64 (n : Int))).run P w = .ok (.slice (some ⟨w.heap.size, 0, none⟩) n n) (w.alloc (.cells (madeCells #[.slice none 0 0] n) e)) := by
  have hr := run_make (P := P) w t e i (.slice none 0 0) ht hi hz .i64 .i64 n n (by omega) (by omega) (by rw [hb]; omega) (by omega)
  simpa [hs, Value.cells] using hr
theorem made_slices (w : World) (T : TypeId) (n : Nat) : Own T (w.alloc (.cells (madeCells #[.slice none 0 0] n) T)) w.heap.size (List.replicate n (.slice none 0 0)) := by
  unfold Own
  rw [heap_alloc_new]
  congr 2
  apply Array.ext'
  rw [toList_madeCells_one, List.toList_toArray]
/-- Whether a column is taken, as the reference asks. -/
theorem shr_bit (s k : Nat) (hs : s < 1000000) : (bits .and .i64 ((s : Int) / 2 ^ k) 1 == 1) = s.testBit k := by
  have e : ((s : Int) / 2 ^ k) = ((s / 2 ^ k : Nat) : Int) := by push_cast; rfl
  have hle : s / 2 ^ k ≤ s := Nat.div_le_self _ _
  have h1 := and_nat (s / 2 ^ k) 1 (by omega) (by omega)
  rw [e, show ((1 : Int)) = ((1 : Nat) : Int) from rfl, h1, Nat.and_one_is_mod, Nat.testBit_eq_decide_div_mod_eq, Bool.eq_iff_iff]
  simp only [beq_iff_eq, decide_eq_true_eq]
  omega
theorem restT_in : ∀ (M : List (List Int)) (s : Nat), (∀ r ∈ M, ∀ x ∈ r, 0 ≤ x ∧ x ≤ 1000000) → -1 ≤ restT M s ∧ restT M s ≤ 1000000 * M.length
  | [], _, _ => by simp [restT]
  | row :: rows, s, h => by
    unfold restT
    have key : ∀ m, m ≤ row.length → -1 ≤ (List.range m).foldl (stepT row (restT rows) s) (-1) ∧ (List.range m).foldl (stepT row (restT rows) s) (-1) ≤ 1000000 * (row :: rows).length := by
      intro m
      induction m with
      | zero => intro _; simp only [List.range_zero, List.foldl_nil, List.length_cons]; omega
      | succ m ih =>
        intro hm
        have ih := ih (by omega)
        rw [List.range_succ, List.foldl_append]
        show -1 ≤ stepT row (restT rows) s _ m ∧ stepT row (restT rows) s _ m ≤ _
        have a := restT_in rows (s ||| 2 ^ m) (fun r hr => h r (List.mem_cons_of_mem _ hr))
        have b := h row (List.mem_cons_self ..) _ (cst_mem (row := row) (k := m) (by omega))
        unfold stepT
        simp only [List.length_cons] at ih ⊢
        split
        · exact ih
        · split
          · rename_i h2
            constructor <;> omega
          · exact ih
    exact key _ (Nat.le_refl _)
/-- One row of the table, the first t of it. -/
def rowT (M : List (List Int)) (N t : Nat) : List Int := (List.range N).map fun s => if s < t then restT M s else 0
theorem rowT_zero (M : List (List Int)) (N : Nat) : rowT M N 0 = List.replicate N 0 := by
  apply List.ext_getElem
  · simp [rowT]
  · intro i h1 h2
    simp [rowT]
theorem rowT_at (M : List (List Int)) {N s : Nat} (h : s < N) : (rowT M N N)[s]? = some (restT M s) := by
  unfold rowT
  rw [List.getElem?_map, List.getElem?_range h]
  simp [h]
theorem rowT_un (M : List (List Int)) {N s : Nat} (h : s < N) : (rowT M N s)[s]? = some 0 := by
  unfold rowT
  rw [List.getElem?_map, List.getElem?_range h]
  simp
theorem rowT_set (M : List (List Int)) {N s : Nat} : (rowT M N s).set s (restT M s) = rowT M N (s + 1) := by
  apply List.ext_getElem
  · simp [rowT]
  · intro i h1 h2
    simp only [rowT, List.getElem_set, List.getElem_map, List.getElem_range]
    by_cases h : s = i
    · subst h; simp
    · by_cases h3 : i < s
      · rw [if_neg h, if_pos h3, if_pos (by omega)]
      · rw [if_neg h, if_neg h3, if_neg (by omega)]
theorem rowT_nil (N : Nat) : rowT [] N N = List.replicate N 0 := by
  apply List.ext_getElem
  · simp [rowT]
  · intro i h1 h2
    simp [rowT, restT]
/-- The table from row i on. -/
structure TblO (w W : World) (gt n N i : Nat) (M : List (List Int)) (vs : List Value) : Prop where
  own : Own 22 W gt vs
  len : vs.length = n + 1
  row : ∀ j, i ≤ j → j ≤ n → ∃ g, vs[j]? = some (.slice (some ⟨g, 0, none⟩) N N) ∧ Arr .i64 3 W g (rowT (M.drop j) N N) ∧ w.heap.size ≤ g
  below : Below w.heap.size w W
theorem Arr.ne_own {W : World} {g gt : Nat} {xs : List Int} {vs : List Value} (h : Arr .i64 3 W g xs) (h' : Own 22 W gt vs) : g ≠ gt := by
  rintro rfl
  unfold Arr at h
  unfold Own at h'
  rw [h] at h'
  injection h' with h'
  injection h' with _ h2 _
  exact absurd h2 (by decide)
/-- The table from row i + 1 on, and the first s of row i. -/
structure TblI (w W : World) (gt n N i : Nat) (M : List (List Int)) (vs : List Value) (g s : Nat) : Prop where
  own : Own 22 W gt vs
  len : vs.length = n + 1
  row : ∀ j, i + 1 ≤ j → j ≤ n → ∃ g', vs[j]? = some (.slice (some ⟨g', 0, none⟩) N N) ∧ Arr .i64 3 W g' (rowT (M.drop j) N N) ∧ w.heap.size ≤ g' ∧ g' ≠ g
  at_ : vs[i]? = some (.slice (some ⟨g, 0, none⟩) N N)
  arr : Arr .i64 3 W g (rowT (M.drop i) N s)
  lo : w.heap.size ≤ g
  glo : w.heap.size ≤ gt
  below : Below w.heap.size w W
theorem Arr.other {kd : IntKind} {T : TypeId} {W : World} {g g' : Nat} {xs : List Int} (h : Arr kd T W g xs) (hne : g ≠ g') (i : Nat) (u : Value) : Arr kd T (W.setCell ⟨g', i, none⟩ u) g xs := (Below.heap_setCell _ _ _ _ hne).trans h
theorem Own.other' {T : TypeId} {W : World} {g g' : Nat} {vs : List Value} (h : Own T W g vs) (hne : g ≠ g') (i : Nat) (u : Value) : Own T (W.setCell ⟨g', i, none⟩ u) g vs := (Below.heap_setCell _ _ _ _ hne).trans h
theorem TblO.new {w W : World} {gt n N i : Nat} {M : List (List Int)} {vs : List Value} (h : TblO w W gt n N (i + 1) M vs) (hi : i ≤ n) (hg : w.heap.size ≤ gt) :
    TblI w ((W.setCell ⟨gt, i, none⟩ (.slice (some ⟨W.heap.size, 0, none⟩) N N)).alloc (.cells (madeCells #[.int .i64 0] N) 3)) gt n N i M (vs.set i (.slice (some ⟨W.heap.size, 0, none⟩) N N)) W.heap.size 0 := by
  have hz : (W.setCell ⟨gt, i, none⟩ (.slice (some ⟨W.heap.size, 0, none⟩) N N)).heap.size = W.heap.size := by simp [World.setCell]
  refine ⟨(h.own.set_ _ _).alloc _, by rw [List.length_set, h.len], fun j hj hjn => ?_, ?_, ?_, h.below.size, hg, ?_⟩
  · obtain ⟨g', a, b, c⟩ := h.row j hj hjn
    refine ⟨g', ?_, (b.other (b.ne_own h.own) _ _).alloc _, c, by have := b.lt; omega⟩
    rw [List.getElem?_set_ne (by omega)]
    exact a
  · rw [List.getElem?_set_self (by rw [h.len]; omega)]
  · have := Arr.made (W.setCell ⟨gt, i, none⟩ (.slice (some ⟨W.heap.size, 0, none⟩) N N)) 3 N
    rw [hz] at this
    rw [rowT_zero]
    exact this
  · exact (h.below.setCell (p := ⟨gt, i, none⟩) hg _).alloc (by rw [hz]; exact h.below.size) _
theorem TblI.step {w W : World} {gt n N i g s : Nat} {M : List (List Int)} {vs : List Value} (h : TblI w W gt n N i M vs g s) : TblI w (W.setCell ⟨g, s, none⟩ (.int .i64 (restT (M.drop i) s))) gt n N i M vs g (s + 1) :=
  ⟨h.own.other' (Ne.symm (h.arr.ne_own h.own)) _ _, h.len, fun j hj hjn => by obtain ⟨g', a, b, c, d⟩ := h.row j hj hjn; exact ⟨g', a, b.other d _ _, c, d⟩, h.at_, by rw [← rowT_set]; exact h.arr.set_ _ _, h.lo, h.glo, h.below.setCell (p := ⟨g, s, none⟩) h.lo _⟩
theorem TblI.whole {w W : World} {gt n N i g : Nat} {M : List (List Int)} {vs : List Value} (h : TblI w W gt n N i M vs g N) : TblO w W gt n N i M vs :=
  ⟨h.own, h.len, fun j hj hjn => by
    rcases Nat.eq_or_lt_of_le hj with rfl | hj
    · exact ⟨g, h.at_, h.arr, h.lo⟩
    · obtain ⟨g', a, b, c, -⟩ := h.row j hj hjn; exact ⟨g', a, b, c⟩, h.below⟩
set_option maxRecDepth 100000 in
set_option maxHeartbeats 8000000 in
theorem rAhead_any (A : Option Addr) (n c : Nat) (M : List (List Int)) (w : World) (hM : Mat w A n M) (hok : okM M = true) (h0 : 0 < n) :
    Calls Tryz.prog 75 #[.slice A n c] w fun e w' => ∃ gt vs, e = .returned (.slice (some ⟨gt, 0, none⟩) (n + 1) (n + 1)) ∧ TblO w w' gt n (2 ^ wid M) 0 M vs := by
  obtain ⟨k1, k2, k3⟩ := okM_spec hok
  have hlen := hM.1
  obtain ⟨ad, r0, B0, c0, rfl, hr0, hc0, -⟩ := hM.at_ h0
  rw [show ad.add 0 = ad from by simp [Addr.add]] at hc0
  have hl0 : r0.length = wid M := by unfold wid; rw [hr0]; rfl
  rw [hl0] at hc0
  obtain ⟨m, hm⟩ : ∃ m, m = wid M := ⟨_, rfl⟩
  rw [← hm] at k1 k2 k3 hc0 ⊢
  rw [hlen] at k2
  obtain ⟨N, hN⟩ : ∃ N, N = 2 ^ m := ⟨_, rfl⟩
  have n1 : 1 ≤ N := by rw [hN]; exact Nat.one_le_two_pow
  have n2 : N ≤ 4096 := by
    rw [hN]
    have : 2 ^ m ≤ 2 ^ 12 := Nat.pow_le_pow_right (by omega) k1
    omega
  have hsh : wrap64 (2 ^ m) = (N : Int) := by rw [pow_wrap m (by omega), hN]
  have hum := u64_small m (by omega)
  rw [← hN]
  obtain ⟨i0, hi, hz0, hz1, hz2⟩ := info_parts infoI
  have hmk := fun W => make_ints (P := Tryz.prog) 22 3 i0 Tryz.underlying22 hi hz0 hz1 hz2 N (by omega) W
  obtain ⟨i1, hi', hz0', hz1', hz2'⟩ := info_parts infoS
  have hms := make_slices (P := Tryz.prog) 35 22 i1 Tryz.underlying35 hi' hz0' hz1' hz2' (n + 1) (by omega) w
  have HMK := Lib.hid hmk
  have hown := made_slices w 22 (n + 1)
  have hb1 : Below w.heap.size w (w.alloc (.cells (madeCells #[.slice none 0 0] (n + 1)) 22)) := (Below.refl _ w).alloc (Nat.le_refl _) _
  have hz1s : (w.alloc (.cells (madeCells #[.slice none 0 0] (n + 1)) 22)).heap.size = w.heap.size + 1 := by simp
  obtain ⟨w1, hw1⟩ : ∃ w1, w1 = w.alloc (.cells (madeCells #[.slice none 0 0] (n + 1)) 22) := ⟨_, rfl⟩
  rw [← hw1] at hms hown hb1 hz1s
  obtain ⟨gt, hgt⟩ : ∃ gt, gt = w.heap.size := ⟨_, rfl⟩
  rw [← hgt] at hms hown
  have hmk1 := HMK.out w1
  have HK := Lib.hid k3
  have HM := Lib.hid hM
  have HL := Lib.hid hlen
  have HOWN := Lib.hid hown
  have hcn : w1.cell? ⟨gt, n, none⟩ = some (.slice none 0 0) := hown.cell (by rw [List.getElem?_replicate, if_pos (by omega)])
  have hfn := hown.frozen n
  have hnz : (0 : Int) ≤ (n : Int) := by omega
  have hgtl : gt < w1.heap.size := hown.lt
  have hnn : (n : Int) < (n : Int) + 1 := by omega
  have HB1 := Lib.hid hb1
  have hng : decide ((n : Int) + 1 < 0) = false := by simp; omega
  have hn0 : ((n + 1 : Nat) : Int) = (n : Int) + 1 := by omega
  rw [hn0] at hms
  have HGT := Lib.hid hgt
  have HZ1 := Lib.hid hz1s
  clear hz1s
  have HNp := Lib.hid hN
  clear hw1 hgt hown hb1 hM hlen k3 hr0 hl0 hm hN i0 hi hz0 hz1 hz2 i1 hi' hz0' hz1' hz2' hok hmk hn0
  go_enter Tryz.func75, Tryz.ntmps75
  go_wp2
  rw [hsh]
  have hst : TblO w ((w1.setCell ⟨gt, n, none⟩ (.slice (some ⟨w1.heap.size, 0, none⟩) N N)).alloc (.cells (madeCells #[.int .i64 0] N) 3)) gt n N n M ((List.replicate (n + 1) (.slice none 0 0)).set n (.slice (some ⟨w1.heap.size, 0, none⟩) N N)) := by
    have h := TblO.new (w := w) (W := w1) (gt := gt) (n := n) (N := N) (i := n) (M := M) (vs := List.replicate (n + 1) (.slice none 0 0)) ⟨HOWN.out, by simp, fun j h1 h2 => by omega, HB1.out⟩ (Nat.le_refl _) (by rw [HGT.out]; exact Nat.le_refl _)
    refine TblI.whole (g := w1.heap.size) ⟨h.own, h.len, h.row, h.at_, ?_, h.lo, h.glo, h.below⟩
    have ha := h.arr
    rw [List.drop_eq_nil_of_le (Nat.le_of_eq HL.out)] at ha ⊢
    rw [rowT_nil, ← rowT_zero []]
    exact ha
  have HST := Lib.hid hst
  have hgw : w.heap.size ≤ gt := by rw [HGT.out]; exact Nat.le_refl _
  clear hst hcn hfn hgtl hms hmk1 hc0
  go_loopw [6] (fun p wr => ∃ (t : Nat) (vs : List Value), p = .int .i64 ((t : Int) - 1) ∧ t ≤ n ∧ TblO w wr gt n N t M vs) (fun p _ => (intOf p + 1).toNat)
  case atStart => exact ⟨n, _, rfl, Nat.le_refl _, HST.out⟩
  case round =>
    obtain ⟨t, vs, rfl, ht, htb⟩ := hrel
    rename World => wr
    have HT := Lib.hid htb
    clear htb HST
    cases t with
    | zero =>
      have hneg : ¬ (0 ≤ (((0 : Nat) : Int) - 1)) := by omega
      go_wp2
      go_ret
      exact ⟨gt, rfl, vs, HT.out⟩
    | succ i =>
      rw [show (((i + 1 : Nat) : Int) - 1) = (i : Int) by omega]
      have hi0 : (0 : Int) ≤ (i : Int) := by omega
      have hin : (i : Int) < (n : Int) + 1 := by omega
      have hmkr := HMK.out wr
      obtain ⟨v0, hv0⟩ : ∃ v0, vs[i]? = some v0 := ⟨_, List.getElem?_eq_getElem (by have := HT.out.len; omega)⟩
      have hci := HT.out.own.cell hv0
      have hfi := HT.out.own.frozen i
      have hgl := HT.out.own.lt
      have HNEW := Lib.hid (HT.out.new (i := i) (by omega) hgw)
      clear hv0
      go_wp2
      rw [hsh]
      obtain ⟨g, hg⟩ : ∃ g, g = wr.heap.size := ⟨_, rfl⟩
      rw [← hg] at HNEW hmkr ⊢
      obtain ⟨vs', hvs'⟩ : ∃ vs', vs' = vs.set i (.slice (some ⟨g, 0, none⟩) N N) := ⟨_, rfl⟩
      rw [← hvs'] at HNEW
      clear hg hvs' hci hfi hgl hmkr hin
      go_loopw [7] (fun p wq => ∃ s : Nat, p = .int .i64 s ∧ s ≤ N ∧ TblI w wq gt n N i M vs' g s) (fun p _ => N - (intOf p).toNat)
      case atStart => exact ⟨0, rfl, Nat.zero_le _, HNEW.out⟩
      case round =>
        obtain ⟨s, rfl, hs, hti⟩ := hrel
        rename World => wq
        have HI := Lib.hid hti
        clear hti HNEW
        by_cases hlt : s < N
        · have hltz : (s : Int) < (N : Int) := by omega
          obtain ⟨ad2, r, B, cr, e2, hr, hcr, hnr⟩ := (HM.out.keep (Keeps.of_below HI.out.below)).at_ (show i < n by omega)
          obtain rfl : ad = ad2 := Option.some.inj e2
          obtain ⟨rl, rb⟩ := HK.out r (List.mem_of_getElem? hr)
          rw [rl] at hcr hnr
          obtain ⟨g1, q1, q2, q3, q4⟩ := HI.out.row (i + 1) (Nat.le_refl _) (by omega)
          have hc1 := HI.out.own.cell q1
          have hdrop : M.drop i = r :: M.drop (i + 1) := by
            obtain ⟨h1, rfl⟩ := List.getElem?_eq_some_iff.1 hr
            exact List.drop_eq_getElem_cons h1
          have hfin : (List.range m).foldl (stepT r (restT (M.drop (i + 1))) s) (-1) = restT (M.drop i) s := by rw [hdrop, restT, rl]
          have HFIN := Lib.hid hfin
          have hi1 : (0 : Int) ≤ (i : Int) + 1 := by omega
          have hi2 : (i : Int) + 1 < (n : Int) + 1 := by omega
          have hi3 : (i : Int) < (n : Int) := by omega
          have hi4 : ((i : Int) + 1).toNat = i + 1 := by omega
          have HC1 := Lib.hid hc1
          have HQ2 := Lib.hid q2
          have HRB := Lib.hid rb
          have HNR := Lib.hid hnr
          have HCR := Lib.hid hcr
          obtain ⟨X, hX⟩ : ∃ X : Nat → Int, X = restT (M.drop (i + 1)) := ⟨_, rfl⟩
          have HXB := Lib.hid (fun s => restT_in (M.drop (i + 1)) s (fun r hr => (HK.out r (List.mem_of_mem_drop hr)).2))
          have hdl : (M.drop (i + 1)).length ≤ 12 := by rw [List.length_drop, HL.out]; omega
          have HX := Lib.hid hX
          rw [← hX] at HFIN HXB
          clear e2 hr rl rb q1 q2 q3 q4 hdrop hfin hX hc1 hnr hcr
          go_wp2
          go_loop [8, 9] (fun b p => ∃ k : Nat, p = .int .i64 k ∧ k ≤ m ∧ b = .int .i64 ((List.range k).foldl (stepT r X s) (-1))) (fun _ p => m - (intOf p).toNat)
          case atStart => exact ⟨0, rfl, Nat.zero_le _, rfl⟩
          case round =>
            obtain ⟨k, rfl, hk, rfl⟩ := hrel
            have hfs : (List.range (k + 1)).foldl (stepT r X s) (-1) = stepT r X s ((List.range k).foldl (stepT r X s) (-1)) k := by rw [List.range_succ, List.foldl_append]; rfl
            obtain ⟨b, hb⟩ : ∃ b, b = (List.range k).foldl (stepT r X s) (-1) := ⟨_, rfl⟩
            have HBE := Lib.hid hb
            rw [← hb] at hfs ⊢
            have HFS := Lib.hid hfs
            clear hb hfs
            by_cases hkm : k < m
            · have hkz : (k : Int) < (m : Int) := by omega
              have hk0 : (0 : Int) ≤ (k : Int) := by omega
              have huk := u64_small k (by omega)
              have hsb := shr_bit s k (by omega)
              cases htb : s.testBit k with
              | true =>
                rw [htb] at hsb
                have hst : stepT r X s b k = b := by unfold stepT; rw [if_pos htb]
                have HST := Lib.hid (HFS.out.trans hst)
                clear htb hst
                go_wp2
                go_round
                case rel => exact ⟨k + 1, by go_num, by omega, by rw [HST.out]⟩
                case measure => simp [intOf]; omega
              | false =>
                rw [htb] at hsb
                obtain ⟨q, hq⟩ : ∃ q, q = s ||| 2 ^ k := ⟨_, rfl⟩
                have hqN : q < N := by
                  rw [hq, HNp.out]
                  exact Nat.or_lt_two_pow (by rw [← HNp.out]; exact hlt) (Nat.pow_lt_pow_right (by omega) hkm)
                have hqz : (q : Int) < (N : Int) := by omega
                have hq0 : (0 : Int) ≤ (q : Int) := by omega
                have hp8 := pow_le12 k (by omega)
                have hor : bits .or .i64 (s : Int) (wrap64 (2 ^ k)) = (q : Int) := by rw [pow_wrap k (by omega), or_nat s (2 ^ k) (by omega) (by omega), hq]
                have hc1 := HC1.out
                have hcx := HQ2.out.cell (rowT_at (M.drop (i + 1)) hqN)
                rw [← HX.out] at hcx
                have hxb := HXB.out q
                obtain ⟨rd, y, rfl, hy, -, hcy⟩ := HNR.out.at_ hkm
                have hcr := HCR.out
                have hyc : cst r k = y := by unfold cst; rw [hy]; rfl
                have hyb := HRB.out y (List.mem_of_getElem? hy)
                have hst := fun (p : Prop) (hp : p ↔ (0 ≤ X q ∧ (b < 0 ∨ X q + y < b))) => show stepT r X s b k = if (0 ≤ X q ∧ (b < 0 ∨ X q + y < b)) then X q + y else b from by unfold stepT; rw [if_neg (by rw [htb]; simp), ← hq, hyc]
                have hst := hst _ Iff.rfl
                obtain ⟨xv, hxv⟩ : ∃ xv, xv = X q := ⟨_, rfl⟩
                rw [← hxv] at hcx hxb hst
                have hS := HFS.out.trans hst
                have HSS := Lib.hid hS
                clear hst htb hyc hy hxv hq hS
                by_cases x0 : 0 ≤ xv
                · have e0 : decide (0 ≤ xv) = true := by simpa using x0
                  by_cases b0 : b < 0
                  · have e1 : decide (b < 0) = true := by simpa using b0
                    have HST := Lib.hid (HSS.out.trans (if_pos ⟨x0, .inl b0⟩))
                    clear b0
                    go_wp2
                    go_round
                    case rel => exact ⟨k + 1, by go_num, by omega, by rw [HST.out]⟩
                    case measure => simp [intOf]; omega
                  · have e1 : decide (b < 0) = false := by simpa using b0
                    by_cases b1 : xv + y < b
                    · have e2 : decide (xv + y < b) = true := by simpa using b1
                      have HST := Lib.hid (HSS.out.trans (if_pos ⟨x0, .inr b1⟩))
                      clear b0 b1
                      go_wp2
                      go_round
                      case rel => exact ⟨k + 1, by go_num, by omega, by rw [HST.out]⟩
                      case measure => simp [intOf]; omega
                    · have e2 : decide (xv + y < b) = false := by simpa using b1
                      have HST := Lib.hid (HSS.out.trans (if_neg (fun hh => by rcases hh.2 with h | h; exact b0 h; exact b1 h)))
                      clear b0 b1
                      go_wp2
                      go_round
                      case rel => exact ⟨k + 1, by go_num, by omega, by rw [HST.out]⟩
                      case measure => simp [intOf]; omega
                · have e0 : decide (0 ≤ xv) = false := by simpa using x0
                  have HST := Lib.hid (HSS.out.trans (if_neg (fun hh => x0 hh.1)))
                  clear x0
                  go_wp2
                  go_round
                  case rel => exact ⟨k + 1, by go_num, by omega, by rw [HST.out]⟩
                  case measure => simp [intOf]; omega
            · obtain rfl : k = m := by omega
              have hbe := HBE.out.trans HFIN.out
              have HBF := Lib.hid hbe
              have hcg := HI.out.own.cell HI.out.at_
              have hca := HI.out.arr.cell (rowT_un (M.drop i) hlt)
              have hfa := HI.out.arr.frozen s
              clear hbe
              go_wp2
              go_roundw
              case rel => exact ⟨s + 1, by go_num, by omega, by rw [HBF.out]; exact HI.out.step⟩
              case measure => simp [intOf]; omega
        · obtain rfl : s = N := by omega
          have hsN : decide ((s : Int) < (s : Int)) = false := by simp
          go_wp2
          go_roundw
          case rel => exact ⟨i, vs', by go_num, by omega, HI.out.whole⟩
          case measure => simp [intOf]
end Go.Proofs.YtjllmladhjbnaaaGreatDoor
/- The reference's Assign. -/
namespace Go.Proofs.YtjllmladhjbnaaaGreatDoor
open Go.RowKit Go.Shelf
attribute [local go_sem] Oper.semAt_some
theorem oi_append9 {B : Nat} {wr : World} {v : Value} {xs : List Int} (x : Int) (h : OI B wr v xs) (hx : inK .i64 x) (hn : xs.length ≤ 1000000) (hB : B ≤ wr.heap.size) :
    ∃ v' w', (Builtin.append_ #[22, 22] 22 #[v, .slice (some ⟨wr.heap.size, 0, none⟩) 1 1]).run Tryz.prog (wr.alloc (.cells #[.int .i64 x] 3)) = .ok v' w' ∧ OI B w' v' (xs ++ [x]) ∧ Below B wr w' := by
  obtain ⟨v', w', hrun, ho, hgr⟩ := append_intC wr B v xs x h.1 hn hB
  refine ⟨v', w', hrun, ⟨by simpa using ho, fun y hy => ?_⟩, ((Below.refl B wr).alloc hB _).grown hgr (by simp; omega) (fun k e => (h.1.lt k e).1)⟩
  rcases List.mem_append.1 hy with g | g
  · exact h.2 y g
  · rw [List.mem_singleton.1 g]; exact hx
theorem TblO.keep {w W W' : World} {gt n N i : Nat} {M : List (List Int)} {vs : List Value} (h : TblO w W gt n N i M vs) (hb : Below W.heap.size W W') : TblO w W' gt n N i M vs :=
  ⟨h.own.below hb h.own.lt, h.len, fun j h1 h2 => by obtain ⟨g, a, b, c⟩ := h.row j h1 h2; exact ⟨g, a, b.below hb b.lt, c⟩, h.below.trans (hb.mono h.below.size)⟩
theorem restR_nil (s : Nat) : restR [] s = 0 := rfl
set_option maxRecDepth 100000 in
set_option maxHeartbeats 8000000 in
theorem rAssign_any (A : Option Addr) (n c : Nat) (M : List (List Int)) (w : World) (hM : Mat w A n M) (hnn : n ≤ 1000000) (hrb : ∀ r ∈ M, r.length ≤ 1000000) :
    Calls Tryz.prog 46 #[.slice A n c] w fun e w' => ∃ v, e = .returned (.tuple #[v, .int .i64 (totL M), .bool (okM M)]) ∧ OI w.heap.size w' v (toL M) ∧ Below w.heap.size w w' := by
  have HP := Lib.hid (rRight_any A n c M w hM hnn hrb)
  have HM := Lib.hid hM
  have hlen := hM.1
  unfold toL totL
  clear hM hrb
  cases hok : okM M with
  | false =>
    rw [hok] at HP
    clear hok hlen
    go_enter Tryz.func46, Tryz.ntmps46
    go_wp2_with fail
    refine HP.out.mono ?_
    rintro e w' ⟨rfl, hb⟩
    have HB := Lib.hid hb
    clear hb
    go_wp2
    exact bodyPost_ret (v := .tuple #[.slice none 0 0, .int .i64 0, .bool false]) (by simp [results, Tryz.results46, go_sem]) rfl ⟨_, rfl, OI.nil _ _, HB.out⟩
  | true =>
    have HOK := Lib.hid hok
    rw [hok] at HP
    by_cases h0 : 0 < n
    · obtain ⟨k1, k2, k3⟩ := okM_spec hok
      have HK := Lib.hid k3
      have HL := Lib.hid hlen
      have HA := Lib.hid (fun W hW => rAhead_any A n c M W hW hok h0)
      obtain ⟨m, hm⟩ : ∃ m, m = wid M := ⟨_, rfl⟩
      rw [← hm] at k1 k2 HK HA
      rw [hlen] at k2
      obtain ⟨N, hN⟩ : ∃ N, N = 2 ^ m := ⟨_, rfl⟩
      rw [← hN] at HA
      have n1 : 1 ≤ N := by rw [hN]; exact Nat.one_le_two_pow
      have n2 : N ≤ 4096 := by
        rw [hN]
        have : 2 ^ m ≤ 2 ^ 12 := Nat.pow_le_pow_right (by omega) k1
        omega
      have HNp := Lib.hid hN
      have hroom0 : Room M m 0 := ⟨fun r hr => (HK.out r hr).1, by
        have e : (free m 0).length = m := by unfold free; rw [List.filter_eq_self.2 (by simp)]; simp
        rw [e, HL.out]; exact k2⟩
      have HR0 := Lib.hid hroom0
      have hne : ((n : Int) == 0) = false := by simp; omega
      have HT0 := Lib.hid (restT_eq M m 0 hroom0 (fun r hr x hx => ((HK.out r hr).2 x hx).1)).1
      clear hok hlen hm hN k3 hroom0
      go_enter Tryz.func46, Tryz.ntmps46
      go_wp2_with fail
      refine HP.out.mono ?_
      rintro e w1 ⟨rfl, hb1⟩
      have HB1 := Lib.hid hb1
      have hz1 := hb1.size
      clear hb1
      go_wp2_with fail
      refine (HA.out w1 (HM.out.keep (Keeps.of_below HB1.out))).mono ?_
      rintro e w2 ⟨gt, vs, rfl, htb⟩
      have HTB := Lib.hid htb
      have HB2 := Lib.hid (HB1.out.trans (htb.below.mono hz1))
      have hz2 := htb.below.size
      clear htb
      go_wp2
      go_loopw [6, 7, 8] (fun v sv p wr => ∃ (i s : Nat) (T : List Nat), p = .int .i64 i ∧ sv = .int .i64 s ∧ i ≤ n ∧ s < N ∧ T.length = i ∧ T ++ fst1 (M.drop i) s = fst1 M 0 ∧ Room (M.drop i) m s ∧ OI w2.heap.size wr v (T.map fun (k : Nat) => (k : Int)) ∧ Below w2.heap.size w2 wr) (fun _ _ p _ => n - (intOf p).toNat)
      case atStart => exact ⟨0, 0, [], rfl, rfl, Nat.zero_le _, by omega, rfl, rfl, HR0.out, OI.nil _ _, Below.refl _ _⟩
      case round =>
        obtain ⟨i, s, T, rfl, rfl, hi, hs, hTl, hTf, hroom, ho, hb⟩ := hrel
        rename World => wr
        have HRM := Lib.hid hroom
        have HTL := Lib.hid hTl
        have HTF := Lib.hid hTf
        have HO := Lib.hid ho
        have HB := Lib.hid hb
        clear hroom hTl hTf ho hb
        by_cases hlt : i < n
        · have hltz : (i : Int) < (n : Int) := by omega
          have i0 : (0 : Int) ≤ (i : Int) := by omega
          have hMw := HM.out.keep (Keeps.of_below (HB2.out.trans (HB.out.mono HB2.out.size)))
          obtain ⟨ad, r, B, cr, rfl, hr, hcr, hnr⟩ := hMw.at_ hlt
          obtain ⟨rl, rb⟩ := HK.out r (List.mem_of_getElem? hr)
          rw [rl] at hcr hnr
          have hdrop : M.drop i = r :: M.drop (i + 1) := by
            obtain ⟨h1, rfl⟩ := List.getElem?_eq_some_iff.1 hr
            exact List.drop_eq_getElem_cons h1
          have hR := HRM.out
          rw [hdrop] at hR
          obtain ⟨x0, hx0, e0, hfirst, hfst⟩ := fst1_cons hR
          obtain ⟨f1, f2⟩ := mem_free.1 hx0
          have HRR := Lib.hid hR
          have HE0 := Lib.hid e0
          have HFI := Lib.hid hfirst
          have HFST := Lib.hid hfst
          have HDROP := Lib.hid hdrop
          have HRB := Lib.hid rb
          have HNR := Lib.hid hnr
          have HCR := Lib.hid hcr
          have HNN := Lib.hid (fun k (hk : k ∈ free m s) => restT_eq (M.drop (i + 1)) m (s ||| 2 ^ k) (hR.step hk) (fun r hr x hx => ((HK.out r (List.mem_of_mem_drop hr)).2 x hx).1))
          have HTV := Lib.hid (restT_eq (M.drop i) m s HRM.out (fun r hr x hx => ((HK.out r (List.mem_of_mem_drop hr)).2 x hx).1)).1
          have HTW := Lib.hid (HTB.out.keep HB.out)
          have HRI := Lib.hid (fun s => restR_in (M.drop (i + 1)) s (fun r hr => (HK.out r (List.mem_of_mem_drop hr)).2))
          have hdl : (M.drop (i + 1)).length ≤ 12 := by rw [List.length_drop, HL.out]; omega
          obtain ⟨g1, q1, q2, -⟩ := HTW.out.row (i + 1) (by omega) (by omega)
          obtain ⟨g0, p1, p2, -⟩ := HTW.out.row i (by omega) (by omega)
          have HQ1 := Lib.hid (HTW.out.own.cell q1)
          have HQ2 := Lib.hid q2
          have HP1 := Lib.hid (HTW.out.own.cell p1)
          have HP2 := Lib.hid p2
          clear hMw hr rl rb hdrop hR e0 hfirst hfst hnr hcr q1 q2 p1 p2 hx0
          go_wp2
          go_loopw [9] (fun p wq => ∃ k : Nat, p = .int .i64 k ∧ k ≤ x0 ∧ Below wr.heap.size wr wq) (fun p _ => x0 - (intOf p).toNat)
          case atStart => exact ⟨0, rfl, Nat.zero_le _, Below.refl _ _⟩
          case round =>
            obtain ⟨k, rfl, hk, hbq⟩ := hrel
            rename World => wq
            have HBQ := Lib.hid hbq
            have kq := Keeps.of_below hbq
            have KQ := Lib.hid kq
            have huk := u64_small k (by omega)
            have hsb := shr_bit s k (by omega)
            have k0 : (0 : Int) ≤ (k : Int) := by omega
            clear hbq kq
            cases htb : s.testBit k with
            | true =>
              have hklt : k < x0 := by
                rcases Nat.eq_or_lt_of_le hk with h | h
                · rw [h, f2] at htb; cases htb
                · exact h
              rw [htb] at hsb
              clear htb
              go_wp2
              refine wp_region_held_drew (S := fun _ => True) (by kernel_rfl) trivial (fun hHeld => ?_)
              refine wpAnyH_take (i := 0) (v := ?va0) rfl (by kernel_rfl) (by kernel_rfl) (by kernel_rfl) (fun _ _ _ h => h) (Or.inl ⟨by rfl, ?ya0⟩) hHeld ?ra0
              case ya0 => (intro W hW; go_simp; first | done | with_reducible rfl)
              try simp only [List.getElem_toArray, List.getElem_cons_zero, Act.put, List.setIfInBounds_toArray, List.set_cons_zero, List.set_cons_succ]
              refine wpAnyH_take (i := 1) (v := ?va1) rfl (by kernel_rfl) (by kernel_rfl) (by kernel_rfl) (fun _ _ _ h => h) (Or.inl ⟨by rfl, ?ya1⟩) hHeld ?ra1
              case ya1 => (intro W hW; go_simp; first | done | with_reducible rfl)
              try simp only [List.getElem_toArray, List.getElem_cons_succ, List.getElem_cons_zero, Act.put, List.setIfInBounds_toArray, List.set_cons_zero, List.set_cons_succ]
              refine wpAnyH_take (i := 2) (v := ?va2) rfl (by kernel_rfl) (by kernel_rfl) (by kernel_rfl) (fun _ _ _ h => h) (Or.inl ⟨by rfl, ?ya2⟩) hHeld ?ra2
              case ya2 => (intro W hW; go_simp; first | done | with_reducible rfl)
              try simp only [List.getElem_toArray, List.getElem_cons_succ, List.getElem_cons_zero, Act.put, List.setIfInBounds_toArray, List.set_cons_zero, List.set_cons_succ]
              refine wpAnyH_take (i := 3) (v := ?va3) rfl (by kernel_rfl) (by kernel_rfl) (by kernel_rfl) (fun _ _ _ h => h) (Or.inl ⟨by rfl, ?ya3⟩) hHeld ?ra3
              case ya3 => (intro W hW; go_simp; first | done | with_reducible rfl)
              try simp only [List.getElem_toArray, List.getElem_cons_succ, List.getElem_cons_zero, Act.put, List.setIfInBounds_toArray, List.set_cons_zero, List.set_cons_succ]
              refine wpAnyH_take (i := 4) (v := ?va4) rfl (by kernel_rfl) (by kernel_rfl) (by kernel_rfl) (fun _ _ _ h => h) (Or.inl ⟨by rfl, ?ya4⟩) hHeld ?ra4
              case ya4 => (intro W hW; go_simp; first | done | with_reducible rfl)
              try simp only [List.getElem_toArray, List.getElem_cons_succ, List.getElem_cons_zero, Act.put, List.setIfInBounds_toArray, List.set_cons_zero, List.set_cons_succ]
              refine wpAnyH_take (i := 5) (v := ?va5) rfl (by kernel_rfl) (by kernel_rfl) (by kernel_rfl) (fun _ _ _ h => h) (Or.inl ⟨by rfl, ?ya5⟩) hHeld ?ra5
              case ya5 => (intro W hW; go_simp; first | done | with_reducible rfl)
              try simp only [List.getElem_toArray, List.getElem_cons_succ, List.getElem_cons_zero, Act.put, List.setIfInBounds_toArray, List.set_cons_zero, List.set_cons_succ]
              refine wpAnyH_take (i := 6) (v := ?va6) rfl (by kernel_rfl) (by kernel_rfl) (by kernel_rfl) (fun _ _ _ h => h) (Or.inl ⟨by rfl, ?ya6⟩) hHeld ?ra6
              case ya6 => (intro W hW; go_simp; first | done | with_reducible rfl)
              try simp only [List.getElem_toArray, List.getElem_cons_succ, List.getElem_cons_zero, Act.put, List.setIfInBounds_toArray, List.set_cons_zero, List.set_cons_succ]
              refine wpAnyH_take (i := 7) (v := undef) rfl (by kernel_rfl) (by kernel_rfl) (by kernel_rfl) (fun _ _ _ h => h) (Or.inr ⟨by rfl, rfl⟩) hHeld ?ra7
              try simp only [List.getElem_toArray, List.getElem_cons_succ, List.getElem_cons_zero, Act.put, List.setIfInBounds_toArray, List.set_cons_zero, List.set_cons_succ]
              refine wpAnyH_take (i := 8) (v := undef) rfl (by kernel_rfl) (by kernel_rfl) (by kernel_rfl) (fun _ _ _ h => h) (Or.inr ⟨by rfl, rfl⟩) hHeld ?ra8
              try simp only [List.getElem_toArray, List.getElem_cons_succ, List.getElem_cons_zero, Act.put, List.setIfInBounds_toArray, List.set_cons_zero, List.set_cons_succ]
              refine wpAnyH_take (i := 9) (v := undef) rfl (by kernel_rfl) (by kernel_rfl) (by kernel_rfl) (fun _ _ _ h => h) (Or.inr ⟨by rfl, rfl⟩) hHeld ?ra9
              try simp only [List.getElem_toArray, List.getElem_cons_succ, List.getElem_cons_zero, Act.put, List.setIfInBounds_toArray, List.set_cons_zero, List.set_cons_succ]
              refine wpAnyH_take (i := 10) (v := undef) rfl (by kernel_rfl) (by kernel_rfl) (by kernel_rfl) (fun _ _ _ h => h) (Or.inr ⟨by rfl, rfl⟩) hHeld ?ra10
              try simp only [List.getElem_toArray, List.getElem_cons_succ, List.getElem_cons_zero, Act.put, List.setIfInBounds_toArray, List.set_cons_zero, List.set_cons_succ]
              refine wpAnyH_take (i := 11) (v := undef) rfl (by kernel_rfl) (by kernel_rfl) (by kernel_rfl) (fun _ _ _ h => h) (Or.inr ⟨by rfl, rfl⟩) hHeld ?ra11
              try simp only [List.getElem_toArray, List.getElem_cons_succ, List.getElem_cons_zero, Act.put, List.setIfInBounds_toArray, List.set_cons_zero, List.set_cons_succ]
              refine wpAnyH_take (i := 12) (v := undef) rfl (by kernel_rfl) (by kernel_rfl) (by kernel_rfl) (fun _ _ _ h => h) (Or.inr ⟨by rfl, rfl⟩) hHeld ?ra12
              try simp only [List.getElem_toArray, List.getElem_cons_succ, List.getElem_cons_zero, Act.put, List.setIfInBounds_toArray, List.set_cons_zero, List.set_cons_succ]
              refine wpAnyH_take (i := 13) (v := undef) rfl (by kernel_rfl) (by kernel_rfl) (by kernel_rfl) (fun _ _ _ h => h) (Or.inr ⟨by rfl, rfl⟩) hHeld ?ra13
              try simp only [List.getElem_toArray, List.getElem_cons_succ, List.getElem_cons_zero, Act.put, List.setIfInBounds_toArray, List.set_cons_zero, List.set_cons_succ]
              refine wpAnyH_take (i := 14) (v := undef) rfl (by kernel_rfl) (by kernel_rfl) (by kernel_rfl) (fun _ _ _ h => h) (Or.inr ⟨by rfl, rfl⟩) hHeld ?ra14
              try simp only [List.getElem_toArray, List.getElem_cons_succ, List.getElem_cons_zero, Act.put, List.setIfInBounds_toArray, List.set_cons_zero, List.set_cons_succ]
              refine wpAnyH_take (i := 15) (v := undef) rfl (by kernel_rfl) (by kernel_rfl) (by kernel_rfl) (fun _ _ _ h => h) (Or.inr ⟨by rfl, rfl⟩) hHeld ?ra15
              try simp only [List.getElem_toArray, List.getElem_cons_succ, List.getElem_cons_zero, Act.put, List.setIfInBounds_toArray, List.set_cons_zero, List.set_cons_succ]
              refine wpAnyH_take (i := 16) (v := undef) rfl (by kernel_rfl) (by kernel_rfl) (by kernel_rfl) (fun _ _ _ h => h) (Or.inr ⟨by rfl, rfl⟩) hHeld ?ra16
              try simp only [List.getElem_toArray, List.getElem_cons_succ, List.getElem_cons_zero, Act.put, List.setIfInBounds_toArray, List.set_cons_zero, List.set_cons_succ]
              refine wpAnyH_take (i := 17) (v := undef) rfl (by kernel_rfl) (by kernel_rfl) (by kernel_rfl) (fun _ _ _ h => h) (Or.inr ⟨by rfl, rfl⟩) hHeld ?ra17
              try simp only [List.getElem_toArray, List.getElem_cons_succ, List.getElem_cons_zero, Act.put, List.setIfInBounds_toArray, List.set_cons_zero, List.set_cons_succ]
              refine wpAnyH_take (i := 18) (v := undef) rfl (by kernel_rfl) (by kernel_rfl) (by kernel_rfl) (fun _ _ _ h => h) (Or.inr ⟨by rfl, rfl⟩) hHeld ?ra18
              try simp only [List.getElem_toArray, List.getElem_cons_succ, List.getElem_cons_zero, Act.put, List.setIfInBounds_toArray, List.set_cons_zero, List.set_cons_succ]
              refine wpAnyH_take (i := 19) (v := undef) rfl (by kernel_rfl) (by kernel_rfl) (by kernel_rfl) (fun _ _ _ h => h) (Or.inr ⟨by rfl, rfl⟩) hHeld ?ra19
              try simp only [List.getElem_toArray, List.getElem_cons_succ, List.getElem_cons_zero, Act.put, List.setIfInBounds_toArray, List.set_cons_zero, List.set_cons_succ]
              refine wpAnyH_take (i := 20) (v := ?va20) rfl (by kernel_rfl) (by kernel_rfl) (by kernel_rfl) (fun _ _ _ h => h) (Or.inl ⟨by rfl, ?ya20⟩) hHeld ?ra20
              case ya20 => (intro W hW; go_simp; first | done | with_reducible rfl)
              try simp only [List.getElem_toArray, List.getElem_cons_succ, List.getElem_cons_zero, Act.put, List.setIfInBounds_toArray, List.set_cons_zero, List.set_cons_succ]
              refine wpAnyH_take (i := 21) (v := ?va21) rfl (by kernel_rfl) (by kernel_rfl) (by kernel_rfl) (fun _ _ _ h => h) (Or.inl ⟨by rfl, ?ya21⟩) hHeld ?ra21
              case ya21 => (intro W hW; go_simp; first | done | with_reducible rfl)
              try simp only [List.getElem_toArray, List.getElem_cons_succ, List.getElem_cons_zero, Act.put, List.setIfInBounds_toArray, List.set_cons_zero, List.set_cons_succ]
              refine wpAnyH_take (i := 22) (v := undef) rfl (by kernel_rfl) (by kernel_rfl) (by kernel_rfl) (fun _ _ _ h => h) (Or.inr ⟨by rfl, rfl⟩) hHeld ?ra22
              try simp only [List.getElem_toArray, List.getElem_cons_succ, List.getElem_cons_zero, Act.put, List.setIfInBounds_toArray, List.set_cons_zero, List.set_cons_succ]
              refine wpAnyH_take (i := 23) (v := undef) rfl (by kernel_rfl) (by kernel_rfl) (by kernel_rfl) (fun _ _ _ h => h) (Or.inr ⟨by rfl, rfl⟩) hHeld ?ra23
              try simp only [List.getElem_toArray, List.getElem_cons_succ, List.getElem_cons_zero, Act.put, List.setIfInBounds_toArray, List.set_cons_zero, List.set_cons_succ]
              refine wpAnyH_take (i := 24) (v := undef) rfl (by kernel_rfl) (by kernel_rfl) (by kernel_rfl) (fun _ _ _ h => h) (Or.inr ⟨by rfl, rfl⟩) hHeld ?ra24
              try simp only [List.getElem_toArray, List.getElem_cons_succ, List.getElem_cons_zero, Act.put, List.setIfInBounds_toArray, List.set_cons_zero, List.set_cons_succ]
              refine wpAnyH_take (i := 25) (v := undef) rfl (by kernel_rfl) (by kernel_rfl) (by kernel_rfl) (fun _ _ _ h => h) (Or.inr ⟨by rfl, rfl⟩) hHeld ?ra25
              try simp only [List.getElem_toArray, List.getElem_cons_succ, List.getElem_cons_zero, Act.put, List.setIfInBounds_toArray, List.set_cons_zero, List.set_cons_succ]
              refine wpAnyH_take (i := 26) (v := undef) rfl (by kernel_rfl) (by kernel_rfl) (by kernel_rfl) (fun _ _ _ h => h) (Or.inr ⟨by rfl, rfl⟩) hHeld ?ra26
              try simp only [List.getElem_toArray, List.getElem_cons_succ, List.getElem_cons_zero, Act.put, List.setIfInBounds_toArray, List.set_cons_zero, List.set_cons_succ]
              refine wpAnyH_take (i := 27) (v := undef) rfl (by kernel_rfl) (by kernel_rfl) (by kernel_rfl) (fun _ _ _ h => h) (Or.inr ⟨by rfl, rfl⟩) hHeld ?ra27
              try simp only [List.getElem_toArray, List.getElem_cons_succ, List.getElem_cons_zero, Act.put, List.setIfInBounds_toArray, List.set_cons_zero, List.set_cons_succ]
              refine wpAnyH_take (i := 28) (v := undef) rfl (by kernel_rfl) (by kernel_rfl) (by kernel_rfl) (fun _ _ _ h => h) (Or.inr ⟨by rfl, rfl⟩) hHeld ?ra28
              try simp only [List.getElem_toArray, List.getElem_cons_succ, List.getElem_cons_zero, Act.put, List.setIfInBounds_toArray, List.set_cons_zero, List.set_cons_succ]
              refine wpAnyH_take (i := 29) (v := undef) rfl (by kernel_rfl) (by kernel_rfl) (by kernel_rfl) (fun _ _ _ h => h) (Or.inr ⟨by rfl, rfl⟩) hHeld ?ra29
              try simp only [List.getElem_toArray, List.getElem_cons_succ, List.getElem_cons_zero, Act.put, List.setIfInBounds_toArray, List.set_cons_zero, List.set_cons_succ]
              refine wpAnyH_take (i := 30) (v := undef) rfl (by kernel_rfl) (by kernel_rfl) (by kernel_rfl) (fun _ _ _ h => h) (Or.inr ⟨by rfl, rfl⟩) hHeld ?ra30
              try simp only [List.getElem_toArray, List.getElem_cons_succ, List.getElem_cons_zero, Act.put, List.setIfInBounds_toArray, List.set_cons_zero, List.set_cons_succ]
              refine wpAnyH_take (i := 31) (v := undef) rfl (by kernel_rfl) (by kernel_rfl) (by kernel_rfl) (fun _ _ _ h => h) (Or.inr ⟨by rfl, rfl⟩) hHeld ?ra31
              try simp only [List.getElem_toArray, List.getElem_cons_succ, List.getElem_cons_zero, Act.put, List.setIfInBounds_toArray, List.set_cons_zero, List.set_cons_succ]
              refine wpAnyH_take (i := 32) (v := undef) rfl (by kernel_rfl) (by kernel_rfl) (by kernel_rfl) (fun _ _ _ h => h) (Or.inr ⟨by rfl, rfl⟩) hHeld ?ra32
              try simp only [List.getElem_toArray, List.getElem_cons_succ, List.getElem_cons_zero, Act.put, List.setIfInBounds_toArray, List.set_cons_zero, List.set_cons_succ]
              refine wpAnyH_take (i := 33) (v := undef) rfl (by kernel_rfl) (by kernel_rfl) (by kernel_rfl) (fun _ _ _ h => h) (Or.inr ⟨by rfl, rfl⟩) hHeld ?ra33
              try simp only [List.getElem_toArray, List.getElem_cons_succ, List.getElem_cons_zero, Act.put, List.setIfInBounds_toArray, List.set_cons_zero, List.set_cons_succ]
              refine wpAnyH_take (i := 34) (v := undef) rfl (by kernel_rfl) (by kernel_rfl) (by kernel_rfl) (fun _ _ _ h => h) (Or.inr ⟨by rfl, rfl⟩) hHeld ?ra34
              try simp only [List.getElem_toArray, List.getElem_cons_succ, List.getElem_cons_zero, Act.put, List.setIfInBounds_toArray, List.set_cons_zero, List.set_cons_succ]
              refine wpAnyH_take (i := 35) (v := undef) rfl (by kernel_rfl) (by kernel_rfl) (by kernel_rfl) (fun _ _ _ h => h) (Or.inr ⟨by rfl, rfl⟩) hHeld ?ra35
              try simp only [List.getElem_toArray, List.getElem_cons_succ, List.getElem_cons_zero, Act.put, List.setIfInBounds_toArray, List.set_cons_zero, List.set_cons_succ]
              refine wpAnyH_take (i := 36) (v := undef) rfl (by kernel_rfl) (by kernel_rfl) (by kernel_rfl) (fun _ _ _ h => h) (Or.inr ⟨by rfl, rfl⟩) hHeld ?ra36
              try simp only [List.getElem_toArray, List.getElem_cons_succ, List.getElem_cons_zero, Act.put, List.setIfInBounds_toArray, List.set_cons_zero, List.set_cons_succ]
              refine wpAnyH_take (i := 37) (v := undef) rfl (by kernel_rfl) (by kernel_rfl) (by kernel_rfl) (fun _ _ _ h => h) (Or.inr ⟨by rfl, rfl⟩) hHeld ?ra37
              try simp only [List.getElem_toArray, List.getElem_cons_succ, List.getElem_cons_zero, Act.put, List.setIfInBounds_toArray, List.set_cons_zero, List.set_cons_succ]
              refine wpAnyH_take (i := 38) (v := undef) rfl (by kernel_rfl) (by kernel_rfl) (by kernel_rfl) (fun _ _ _ h => h) (Or.inr ⟨by rfl, rfl⟩) hHeld ?ra38
              try simp only [List.getElem_toArray, List.getElem_cons_succ, List.getElem_cons_zero, Act.put, List.setIfInBounds_toArray, List.set_cons_zero, List.set_cons_succ]
              refine wpAnyH_take (i := 39) (v := undef) rfl (by kernel_rfl) (by kernel_rfl) (by kernel_rfl) (fun _ _ _ h => h) (Or.inr ⟨by rfl, rfl⟩) hHeld ?ra39
              try simp only [List.getElem_toArray, List.getElem_cons_succ, List.getElem_cons_zero, Act.put, List.setIfInBounds_toArray, List.set_cons_zero, List.set_cons_succ]
              refine wpAnyH_take (i := 40) (v := undef) rfl (by kernel_rfl) (by kernel_rfl) (by kernel_rfl) (fun _ _ _ h => h) (Or.inr ⟨by rfl, rfl⟩) hHeld ?ra40
              try simp only [List.getElem_toArray, List.getElem_cons_succ, List.getElem_cons_zero, Act.put, List.setIfInBounds_toArray, List.set_cons_zero, List.set_cons_succ]
              refine wpAnyH_take (i := 41) (v := undef) rfl (by kernel_rfl) (by kernel_rfl) (by kernel_rfl) (fun _ _ _ h => h) (Or.inr ⟨by rfl, rfl⟩) hHeld ?ra41
              try simp only [List.getElem_toArray, List.getElem_cons_succ, List.getElem_cons_zero, Act.put, List.setIfInBounds_toArray, List.set_cons_zero, List.set_cons_succ]
              refine wpAnyH_take (i := 42) (v := undef) rfl (by kernel_rfl) (by kernel_rfl) (by kernel_rfl) (fun _ _ _ h => h) (Or.inr ⟨by rfl, rfl⟩) hHeld ?ra42
              try simp only [List.getElem_toArray, List.getElem_cons_succ, List.getElem_cons_zero, Act.put, List.setIfInBounds_toArray, List.set_cons_zero, List.set_cons_succ]
              refine wpAnyH_take (i := 43) (v := undef) rfl (by kernel_rfl) (by kernel_rfl) (by kernel_rfl) (fun _ _ _ h => h) (Or.inr ⟨by rfl, rfl⟩) hHeld ?ra43
              try simp only [List.getElem_toArray, List.getElem_cons_succ, List.getElem_cons_zero, Act.put, List.setIfInBounds_toArray, List.set_cons_zero, List.set_cons_succ]
              refine wpAnyH_take (i := 44) (v := undef) rfl (by kernel_rfl) (by kernel_rfl) (by kernel_rfl) (fun _ _ _ h => h) (Or.inr ⟨by rfl, rfl⟩) hHeld ?ra44
              try simp only [List.getElem_toArray, List.getElem_cons_succ, List.getElem_cons_zero, Act.put, List.setIfInBounds_toArray, List.set_cons_zero, List.set_cons_succ]
              refine wpAnyH_take (i := 45) (v := undef) rfl (by kernel_rfl) (by kernel_rfl) (by kernel_rfl) (fun _ _ _ h => h) (Or.inr ⟨by rfl, rfl⟩) hHeld ?ra45
              try simp only [List.getElem_toArray, List.getElem_cons_succ, List.getElem_cons_zero, Act.put, List.setIfInBounds_toArray, List.set_cons_zero, List.set_cons_succ]
              refine wpAnyH_take (i := 46) (v := undef) rfl (by kernel_rfl) (by kernel_rfl) (by kernel_rfl) (fun _ _ _ h => h) (Or.inr ⟨by rfl, rfl⟩) hHeld ?ra46
              try simp only [List.getElem_toArray, List.getElem_cons_succ, List.getElem_cons_zero, Act.put, List.setIfInBounds_toArray, List.set_cons_zero, List.set_cons_succ]
              refine wpAnyH_take (i := 47) (v := undef) rfl (by kernel_rfl) (by kernel_rfl) (by kernel_rfl) (fun _ _ _ h => h) (Or.inr ⟨by rfl, rfl⟩) hHeld ?ra47
              try simp only [List.getElem_toArray, List.getElem_cons_succ, List.getElem_cons_zero, Act.put, List.setIfInBounds_toArray, List.set_cons_zero, List.set_cons_succ]
              refine wpAnyH_take (i := 48) (v := undef) rfl (by kernel_rfl) (by kernel_rfl) (by kernel_rfl) (fun _ _ _ h => h) (Or.inr ⟨by rfl, rfl⟩) hHeld ?ra48
              try simp only [List.getElem_toArray, List.getElem_cons_succ, List.getElem_cons_zero, Act.put, List.setIfInBounds_toArray, List.set_cons_zero, List.set_cons_succ]
              refine wpAnyH_take (i := 49) (v := undef) rfl (by kernel_rfl) (by kernel_rfl) (by kernel_rfl) (fun _ _ _ h => h) (Or.inr ⟨by rfl, rfl⟩) hHeld ?ra49
              try simp only [List.getElem_toArray, List.getElem_cons_succ, List.getElem_cons_zero, Act.put, List.setIfInBounds_toArray, List.set_cons_zero, List.set_cons_succ]
              refine wpAnyH_take (i := 50) (v := ?va50) rfl (by kernel_rfl) (by kernel_rfl) (by kernel_rfl) (fun _ _ _ h => h) (Or.inl ⟨by rfl, ?ya50⟩) hHeld ?ra50
              case ya50 => (intro W hW; go_simp; first | done | with_reducible rfl)
              try simp only [List.getElem_toArray, List.getElem_cons_succ, List.getElem_cons_zero, Act.put, List.setIfInBounds_toArray, List.set_cons_zero, List.set_cons_succ]
              refine wpAnyH_done (by kernel_rfl) ?_ _
              go_wp2
              go_roundw
              case rel => exact ⟨k + 1, by go_num, by omega, HBQ.out.drew⟩
              case measure => simp [intOf]; omega
            | false =>
              rw [htb] at hsb
              have hkm : k < m := by omega
              have hkmz : (k : Int) < (m : Int) := by omega
              have hkf : k ∈ free m s := mem_free.2 ⟨by omega, htb⟩
              obtain ⟨y0, y1⟩ := HNN.out k hkf
              obtain ⟨q, hq⟩ : ∃ q, q = s ||| 2 ^ k := ⟨_, rfl⟩
              have hqN : q < N := by
                rw [hq, HNp.out]
                exact Nat.or_lt_two_pow (by rw [← HNp.out]; exact hs) (Nat.pow_lt_pow_right (by omega) (by omega))
              have hqz : (q : Int) < (N : Int) := by omega
              have hq0 : (0 : Int) ≤ (q : Int) := by omega
              have sN : (s : Int) < (N : Int) := by omega
              have s0 : (0 : Int) ≤ (s : Int) := by omega
              have hor : bits .or .i64 (s : Int) (wrap64 (2 ^ k)) = (q : Int) := by rw [pow_wrap k (by omega), or_nat s (2 ^ k) (by omega) (by have := pow_le12 k (by omega); omega), hq]
              have hor2 : bits .or .i64 (s : Int) (IntKind.i64.wrap (2 ^ k)) = (q : Int) := by rw [IntWalk.i64_left]; exact hor
              have hri := HRI.out q
              rw [← hq] at y0 y1
              have hcx := HQ2.out.cell (rowT_at (M.drop (i + 1)) hqN)
              rw [y0] at hcx
              obtain ⟨xv, hxv⟩ : ∃ xv, xv = restR (M.drop (i + 1)) q := ⟨_, rfl⟩
              rw [← hxv] at hcx y1 hri
              have hct := HP2.out.cell (rowT_at (M.drop i) hs)
              rw [HTV.out, HDROP.out] at hct
              obtain ⟨tv, htv⟩ : ∃ tv, tv = restR (r :: M.drop (i + 1)) s := ⟨_, rfl⟩
              rw [← htv] at hct
              obtain ⟨rd, y, rfl, hy, -, hcy⟩ := HNR.out.at_ (show k < m by omega)
              have hyc : cst r k = y := by unfold cst; rw [hy]; rfl
              have hyb := HRB.out y (List.mem_of_getElem? hy)
              obtain ⟨bb, hbb⟩ : ∃ bb, (xv + y != tv) = bb := ⟨_, rfl⟩
              have HBB := Lib.hid hbb
              have HCC : Hid (wq.drew.cell? ⟨gt, i + 1, none⟩ = some (.slice (some ⟨g1, 0, none⟩) N N) ∧ wq.drew.cell? ⟨g1, q, none⟩ = some (.int .i64 xv) ∧ wq.drew.cell? (ad.add i) = some (.slice (some rd) m cr) ∧ wq.drew.cell? (rd.add k) = some (.int .i64 y) ∧ wq.drew.cell? ⟨gt, i, none⟩ = some (.slice (some ⟨g0, 0, none⟩) N N) ∧ wq.drew.cell? ⟨g0, s, none⟩ = some (.int .i64 tv)) :=
                Lib.hid ⟨KQ.out _ _ HQ1.out, KQ.out _ _ hcx, KQ.out _ _ HCR.out, KQ.out _ _ hcy, KQ.out _ _ HP1.out, KQ.out _ _ hct⟩
              have hw1 : IntKind.i64.wrap ((i : Int) + 1) = (i : Int) + 1 := IntWalk.i64_in _ (by omega)
              have hi1 : (0 : Int) ≤ (i : Int) + 1 := by omega
              have hi2 : (i : Int) + 1 < (n : Int) + 1 := by omega
              have hi3 : (i : Int) < (n : Int) + 1 := by omega
              have hi4 : ((i : Int) + 1).toNat = i + 1 := by omega
              have hw2 : IntKind.i64.wrap (xv + y) = xv + y := IntWalk.i64_in _ (by omega)
              have hx0 : decide (xv < 0) = false := by simp; omega
              have HEQ := Lib.hid (show (cst r k + restR (M.drop (i + 1)) (s ||| 2 ^ k) = restR (r :: M.drop (i + 1)) s) ↔ bb = false from by
                rw [← hq, ← hxv, ← htv, hyc, ← hbb, Int.add_comm]
                simp)
              have HKF := Lib.hid hkf
              have HQE := Lib.hid hq
              clear htb hkf y0 y1 hq hxv htv hcx hct hy hcy hyc hyb hri
              go_wp2
              refine wp_region_held_drew (S := fun W => W.cell? ⟨gt, i + 1, none⟩ = some (.slice (some ⟨g1, 0, none⟩) N N) ∧ W.cell? ⟨g1, q, none⟩ = some (.int .i64 xv) ∧ W.cell? (ad.add i) = some (.slice (some rd) m cr) ∧ W.cell? (rd.add k) = some (.int .i64 y) ∧ W.cell? ⟨gt, i, none⟩ = some (.slice (some ⟨g0, 0, none⟩) N N) ∧ W.cell? ⟨g0, s, none⟩ = some (.int .i64 tv)) (by kernel_rfl) HCC.out (fun hHeld => ?_)
              refine wpAnyH_take (i := 0) (v := ?vb0) rfl (by kernel_rfl) (by kernel_rfl) (by kernel_rfl) (fun _ _ _ h => h) (Or.inl ⟨by rfl, ?yb0⟩) hHeld ?rb0
              case yb0 => (intro W hW; obtain ⟨hA, hB, hC, hD, hE, hF⟩ := hW; go_simp; first | done | with_reducible rfl)
              try simp only [List.getElem_toArray, List.getElem_cons_zero, Act.put, List.setIfInBounds_toArray, List.set_cons_zero, List.set_cons_succ]
              refine wpAnyH_take (i := 1) (v := ?vb1) rfl (by kernel_rfl) (by kernel_rfl) (by kernel_rfl) (fun _ _ _ h => h) (Or.inl ⟨by rfl, ?yb1⟩) hHeld ?rb1
              case yb1 => (intro W hW; obtain ⟨hA, hB, hC, hD, hE, hF⟩ := hW; go_simp; first | done | with_reducible rfl)
              try simp only [List.getElem_toArray, List.getElem_cons_succ, List.getElem_cons_zero, Act.put, List.setIfInBounds_toArray, List.set_cons_zero, List.set_cons_succ]
              refine wpAnyH_take (i := 2) (v := ?vb2) rfl (by kernel_rfl) (by kernel_rfl) (by kernel_rfl) (fun _ _ _ h => h) (Or.inl ⟨by rfl, ?yb2⟩) hHeld ?rb2
              case yb2 => (intro W hW; obtain ⟨hA, hB, hC, hD, hE, hF⟩ := hW; go_simp; first | done | with_reducible rfl)
              try simp only [List.getElem_toArray, List.getElem_cons_succ, List.getElem_cons_zero, Act.put, List.setIfInBounds_toArray, List.set_cons_zero, List.set_cons_succ]
              refine wpAnyH_take (i := 3) (v := ?vb3) rfl (by kernel_rfl) (by kernel_rfl) (by kernel_rfl) (fun _ _ _ h => h) (Or.inl ⟨by rfl, ?yb3⟩) hHeld ?rb3
              case yb3 => (intro W hW; obtain ⟨hA, hB, hC, hD, hE, hF⟩ := hW; go_simp; first | done | with_reducible rfl)
              try simp only [List.getElem_toArray, List.getElem_cons_succ, List.getElem_cons_zero, Act.put, List.setIfInBounds_toArray, List.set_cons_zero, List.set_cons_succ]
              refine wpAnyH_take (i := 4) (v := ?vb4) rfl (by kernel_rfl) (by kernel_rfl) (by kernel_rfl) (fun _ _ _ h => h) (Or.inl ⟨by rfl, ?yb4⟩) hHeld ?rb4
              case yb4 => (intro W hW; obtain ⟨hA, hB, hC, hD, hE, hF⟩ := hW; go_simp; first | done | with_reducible rfl)
              try simp only [List.getElem_toArray, List.getElem_cons_succ, List.getElem_cons_zero, Act.put, List.setIfInBounds_toArray, List.set_cons_zero, List.set_cons_succ]
              refine wpAnyH_take (i := 5) (v := ?vb5) rfl (by kernel_rfl) (by kernel_rfl) (by kernel_rfl) (fun _ _ _ h => h) (Or.inl ⟨by rfl, ?yb5⟩) hHeld ?rb5
              case yb5 => (intro W hW; obtain ⟨hA, hB, hC, hD, hE, hF⟩ := hW; go_simp; first | done | with_reducible rfl)
              try simp only [List.getElem_toArray, List.getElem_cons_succ, List.getElem_cons_zero, Act.put, List.setIfInBounds_toArray, List.set_cons_zero, List.set_cons_succ]
              refine wpAnyH_take (i := 6) (v := ?vb6) rfl (by kernel_rfl) (by kernel_rfl) (by kernel_rfl) (fun _ _ _ h => h) (Or.inl ⟨by rfl, ?yb6⟩) hHeld ?rb6
              case yb6 => (intro W hW; obtain ⟨hA, hB, hC, hD, hE, hF⟩ := hW; go_simp; first | done | with_reducible rfl)
              try simp only [List.getElem_toArray, List.getElem_cons_succ, List.getElem_cons_zero, Act.put, List.setIfInBounds_toArray, List.set_cons_zero, List.set_cons_succ]
              refine wpAnyH_take (i := 7) (v := ?vb7) rfl (by kernel_rfl) (by kernel_rfl) (by kernel_rfl) (fun _ _ _ h => h) (Or.inl ⟨by rfl, ?yb7⟩) hHeld ?rb7
              case yb7 => (intro W hW; obtain ⟨hA, hB, hC, hD, hE, hF⟩ := hW; go_simp; first | done | with_reducible rfl)
              try simp only [List.getElem_toArray, List.getElem_cons_succ, List.getElem_cons_zero, Act.put, List.setIfInBounds_toArray, List.set_cons_zero, List.set_cons_succ]
              refine wpAnyH_take (i := 8) (v := ?vb8) rfl (by kernel_rfl) (by kernel_rfl) (by kernel_rfl) (fun _ _ _ h => h) (Or.inl ⟨by rfl, ?yb8⟩) hHeld ?rb8
              case yb8 => (intro W hW; obtain ⟨hA, hB, hC, hD, hE, hF⟩ := hW; go_simp; first | done | with_reducible rfl)
              try simp only [List.getElem_toArray, List.getElem_cons_succ, List.getElem_cons_zero, Act.put, List.setIfInBounds_toArray, List.set_cons_zero, List.set_cons_succ]
              refine wpAnyH_take (i := 9) (v := ?vb9) rfl (by kernel_rfl) (by kernel_rfl) (by kernel_rfl) (fun _ _ _ h => h) (Or.inl ⟨by rfl, ?yb9⟩) hHeld ?rb9
              case yb9 => (intro W hW; obtain ⟨hA, hB, hC, hD, hE, hF⟩ := hW; go_simp; first | done | with_reducible rfl)
              try simp only [List.getElem_toArray, List.getElem_cons_succ, List.getElem_cons_zero, Act.put, List.setIfInBounds_toArray, List.set_cons_zero, List.set_cons_succ]
              refine wpAnyH_take (i := 10) (v := ?vb10) rfl (by kernel_rfl) (by kernel_rfl) (by kernel_rfl) (fun _ _ _ h => h) (Or.inl ⟨by rfl, ?yb10⟩) hHeld ?rb10
              case yb10 => (intro W hW; obtain ⟨hA, hB, hC, hD, hE, hF⟩ := hW; go_simp; first | done | with_reducible rfl)
              try simp only [List.getElem_toArray, List.getElem_cons_succ, List.getElem_cons_zero, Act.put, List.setIfInBounds_toArray, List.set_cons_zero, List.set_cons_succ]
              refine wpAnyH_take (i := 11) (v := ?vb11) rfl (by kernel_rfl) (by kernel_rfl) (by kernel_rfl) (fun _ _ _ h => h) (Or.inl ⟨by rfl, ?yb11⟩) hHeld ?rb11
              case yb11 => (intro W hW; obtain ⟨hA, hB, hC, hD, hE, hF⟩ := hW; go_simp; first | done | with_reducible rfl)
              try simp only [List.getElem_toArray, List.getElem_cons_succ, List.getElem_cons_zero, Act.put, List.setIfInBounds_toArray, List.set_cons_zero, List.set_cons_succ]
              refine wpAnyH_take (i := 12) (v := ?vb12) rfl (by kernel_rfl) (by kernel_rfl) (by kernel_rfl) (fun _ _ _ h => h) (Or.inl ⟨by rfl, ?yb12⟩) hHeld ?rb12
              case yb12 => (intro W hW; obtain ⟨hA, hB, hC, hD, hE, hF⟩ := hW; go_simp; first | done | with_reducible rfl)
              try simp only [List.getElem_toArray, List.getElem_cons_succ, List.getElem_cons_zero, Act.put, List.setIfInBounds_toArray, List.set_cons_zero, List.set_cons_succ]
              refine wpAnyH_take (i := 13) (v := ?vb13) rfl (by kernel_rfl) (by kernel_rfl) (by kernel_rfl) (fun _ _ _ h => h) (Or.inl ⟨by rfl, ?yb13⟩) hHeld ?rb13
              case yb13 => (intro W hW; obtain ⟨hA, hB, hC, hD, hE, hF⟩ := hW; go_simp; first | done | with_reducible rfl)
              try simp only [List.getElem_toArray, List.getElem_cons_succ, List.getElem_cons_zero, Act.put, List.setIfInBounds_toArray, List.set_cons_zero, List.set_cons_succ]
              refine wpAnyH_take (i := 14) (v := ?vb14) rfl (by kernel_rfl) (by kernel_rfl) (by kernel_rfl) (fun _ _ _ h => h) (Or.inl ⟨by rfl, ?yb14⟩) hHeld ?rb14
              case yb14 => (intro W hW; obtain ⟨hA, hB, hC, hD, hE, hF⟩ := hW; go_simp; first | done | with_reducible rfl)
              try simp only [List.getElem_toArray, List.getElem_cons_succ, List.getElem_cons_zero, Act.put, List.setIfInBounds_toArray, List.set_cons_zero, List.set_cons_succ]
              refine wpAnyH_take (i := 15) (v := ?vb15) rfl (by kernel_rfl) (by kernel_rfl) (by kernel_rfl) (fun _ _ _ h => h) (Or.inl ⟨by rfl, ?yb15⟩) hHeld ?rb15
              case yb15 => (intro W hW; obtain ⟨hA, hB, hC, hD, hE, hF⟩ := hW; go_simp; first | done | with_reducible rfl)
              try simp only [List.getElem_toArray, List.getElem_cons_succ, List.getElem_cons_zero, Act.put, List.setIfInBounds_toArray, List.set_cons_zero, List.set_cons_succ]
              refine wpAnyH_take (i := 16) (v := ?vb16) rfl (by kernel_rfl) (by kernel_rfl) (by kernel_rfl) (fun _ _ _ h => h) (Or.inl ⟨by rfl, ?yb16⟩) hHeld ?rb16
              case yb16 => (intro W hW; obtain ⟨hA, hB, hC, hD, hE, hF⟩ := hW; go_simp; first | done | with_reducible rfl)
              try simp only [List.getElem_toArray, List.getElem_cons_succ, List.getElem_cons_zero, Act.put, List.setIfInBounds_toArray, List.set_cons_zero, List.set_cons_succ]
              refine wpAnyH_take (i := 17) (v := ?vb17) rfl (by kernel_rfl) (by kernel_rfl) (by kernel_rfl) (fun _ _ _ h => h) (Or.inl ⟨by rfl, ?yb17⟩) hHeld ?rb17
              case yb17 => (intro W hW; obtain ⟨hA, hB, hC, hD, hE, hF⟩ := hW; go_simp; first | done | with_reducible rfl)
              try simp only [List.getElem_toArray, List.getElem_cons_succ, List.getElem_cons_zero, Act.put, List.setIfInBounds_toArray, List.set_cons_zero, List.set_cons_succ]
              refine wpAnyH_take (i := 18) (v := ?vb18) rfl (by kernel_rfl) (by kernel_rfl) (by kernel_rfl) (fun _ _ _ h => h) (Or.inl ⟨by rfl, ?yb18⟩) hHeld ?rb18
              case yb18 => (intro W hW; obtain ⟨hA, hB, hC, hD, hE, hF⟩ := hW; go_simp; first | done | with_reducible rfl)
              try simp only [List.getElem_toArray, List.getElem_cons_succ, List.getElem_cons_zero, Act.put, List.setIfInBounds_toArray, List.set_cons_zero, List.set_cons_succ]
              refine wpAnyH_take (i := 19) (v := ?vb19) rfl (by kernel_rfl) (by kernel_rfl) (by kernel_rfl) (fun _ _ _ h => h) (Or.inl ⟨by rfl, ?yb19⟩) hHeld ?rb19
              case yb19 => (intro W hW; obtain ⟨hA, hB, hC, hD, hE, hF⟩ := hW; go_simp; first | done | with_reducible rfl)
              try simp only [List.getElem_toArray, List.getElem_cons_succ, List.getElem_cons_zero, Act.put, List.setIfInBounds_toArray, List.set_cons_zero, List.set_cons_succ]
              refine wpAnyH_take (i := 20) (v := ?vb20) rfl (by kernel_rfl) (by kernel_rfl) (by kernel_rfl) (fun _ _ _ h => h) (Or.inl ⟨by rfl, ?yb20⟩) hHeld ?rb20
              case yb20 => (intro W hW; obtain ⟨hA, hB, hC, hD, hE, hF⟩ := hW; go_simp; first | done | with_reducible rfl)
              try simp only [List.getElem_toArray, List.getElem_cons_succ, List.getElem_cons_zero, Act.put, List.setIfInBounds_toArray, List.set_cons_zero, List.set_cons_succ]
              refine wpAnyH_take (i := 21) (v := ?vb21) rfl (by kernel_rfl) (by kernel_rfl) (by kernel_rfl) (fun _ _ _ h => h) (Or.inl ⟨by rfl, ?yb21⟩) hHeld ?rb21
              case yb21 => (intro W hW; obtain ⟨hA, hB, hC, hD, hE, hF⟩ := hW; go_simp; first | done | with_reducible rfl)
              try simp only [List.getElem_toArray, List.getElem_cons_succ, List.getElem_cons_zero, Act.put, List.setIfInBounds_toArray, List.set_cons_zero, List.set_cons_succ]
              refine wpAnyH_take (i := 22) (v := ?vb22) rfl (by kernel_rfl) (by kernel_rfl) (by kernel_rfl) (fun _ _ _ h => h) (Or.inl ⟨by rfl, ?yb22⟩) hHeld ?rb22
              case yb22 => (intro W hW; obtain ⟨hA, hB, hC, hD, hE, hF⟩ := hW; go_simp; first | done | with_reducible rfl)
              try simp only [List.getElem_toArray, List.getElem_cons_succ, List.getElem_cons_zero, Act.put, List.setIfInBounds_toArray, List.set_cons_zero, List.set_cons_succ]
              refine wpAnyH_take (i := 23) (v := ?vb23) rfl (by kernel_rfl) (by kernel_rfl) (by kernel_rfl) (fun _ _ _ h => h) (Or.inl ⟨by rfl, ?yb23⟩) hHeld ?rb23
              case yb23 => (intro W hW; obtain ⟨hA, hB, hC, hD, hE, hF⟩ := hW; go_simp; first | done | with_reducible rfl)
              try simp only [List.getElem_toArray, List.getElem_cons_succ, List.getElem_cons_zero, Act.put, List.setIfInBounds_toArray, List.set_cons_zero, List.set_cons_succ]
              refine wpAnyH_take (i := 24) (v := ?vb24) rfl (by kernel_rfl) (by kernel_rfl) (by kernel_rfl) (fun _ _ _ h => h) (Or.inl ⟨by rfl, ?yb24⟩) hHeld ?rb24
              case yb24 => (intro W hW; obtain ⟨hA, hB, hC, hD, hE, hF⟩ := hW; go_simp; first | done | with_reducible rfl)
              try simp only [List.getElem_toArray, List.getElem_cons_succ, List.getElem_cons_zero, Act.put, List.setIfInBounds_toArray, List.set_cons_zero, List.set_cons_succ]
              refine wpAnyH_take (i := 25) (v := ?vb25) rfl (by kernel_rfl) (by kernel_rfl) (by kernel_rfl) (fun _ _ _ h => h) (Or.inl ⟨by rfl, ?yb25⟩) hHeld ?rb25
              case yb25 => (intro W hW; obtain ⟨hA, hB, hC, hD, hE, hF⟩ := hW; go_simp; first | done | with_reducible rfl)
              try simp only [List.getElem_toArray, List.getElem_cons_succ, List.getElem_cons_zero, Act.put, List.setIfInBounds_toArray, List.set_cons_zero, List.set_cons_succ]
              refine wpAnyH_take (i := 26) (v := ?vb26) rfl (by kernel_rfl) (by kernel_rfl) (by kernel_rfl) (fun _ _ _ h => h) (Or.inl ⟨by rfl, ?yb26⟩) hHeld ?rb26
              case yb26 => (intro W hW; obtain ⟨hA, hB, hC, hD, hE, hF⟩ := hW; go_simp; first | done | with_reducible rfl)
              try simp only [List.getElem_toArray, List.getElem_cons_succ, List.getElem_cons_zero, Act.put, List.setIfInBounds_toArray, List.set_cons_zero, List.set_cons_succ]
              refine wpAnyH_take (i := 27) (v := ?vb27) rfl (by kernel_rfl) (by kernel_rfl) (by kernel_rfl) (fun _ _ _ h => h) (Or.inl ⟨by rfl, ?yb27⟩) hHeld ?rb27
              case yb27 => (intro W hW; obtain ⟨hA, hB, hC, hD, hE, hF⟩ := hW; go_simp; first | done | with_reducible rfl)
              try simp only [List.getElem_toArray, List.getElem_cons_succ, List.getElem_cons_zero, Act.put, List.setIfInBounds_toArray, List.set_cons_zero, List.set_cons_succ]
              refine wpAnyH_take (i := 28) (v := ?vb28) rfl (by kernel_rfl) (by kernel_rfl) (by kernel_rfl) (fun _ _ _ h => h) (Or.inl ⟨by rfl, ?yb28⟩) hHeld ?rb28
              case yb28 => (intro W hW; obtain ⟨hA, hB, hC, hD, hE, hF⟩ := hW; go_simp; first | done | with_reducible rfl)
              try simp only [List.getElem_toArray, List.getElem_cons_succ, List.getElem_cons_zero, Act.put, List.setIfInBounds_toArray, List.set_cons_zero, List.set_cons_succ]
              refine wpAnyH_take (i := 29) (v := ?vb29) rfl (by kernel_rfl) (by kernel_rfl) (by kernel_rfl) (fun _ _ _ h => h) (Or.inl ⟨by rfl, ?yb29⟩) hHeld ?rb29
              case yb29 => (intro W hW; obtain ⟨hA, hB, hC, hD, hE, hF⟩ := hW; go_simp; first | done | with_reducible rfl)
              try simp only [List.getElem_toArray, List.getElem_cons_succ, List.getElem_cons_zero, Act.put, List.setIfInBounds_toArray, List.set_cons_zero, List.set_cons_succ]
              refine wpAnyH_take (i := 30) (v := ?vb30) rfl (by kernel_rfl) (by kernel_rfl) (by kernel_rfl) (fun _ _ _ h => h) (Or.inl ⟨by rfl, ?yb30⟩) hHeld ?rb30
              case yb30 => (intro W hW; obtain ⟨hA, hB, hC, hD, hE, hF⟩ := hW; go_simp; first | done | with_reducible rfl)
              try simp only [List.getElem_toArray, List.getElem_cons_succ, List.getElem_cons_zero, Act.put, List.setIfInBounds_toArray, List.set_cons_zero, List.set_cons_succ]
              refine wpAnyH_take (i := 31) (v := ?vb31) rfl (by kernel_rfl) (by kernel_rfl) (by kernel_rfl) (fun _ _ _ h => h) (Or.inl ⟨by rfl, ?yb31⟩) hHeld ?rb31
              case yb31 => (intro W hW; obtain ⟨hA, hB, hC, hD, hE, hF⟩ := hW; go_simp; first | done | with_reducible rfl)
              try simp only [List.getElem_toArray, List.getElem_cons_succ, List.getElem_cons_zero, Act.put, List.setIfInBounds_toArray, List.set_cons_zero, List.set_cons_succ]
              refine wpAnyH_take (i := 32) (v := ?vb32) rfl (by kernel_rfl) (by kernel_rfl) (by kernel_rfl) (fun _ _ _ h => h) (Or.inl ⟨by rfl, ?yb32⟩) hHeld ?rb32
              case yb32 => (intro W hW; obtain ⟨hA, hB, hC, hD, hE, hF⟩ := hW; go_simp; first | done | with_reducible rfl)
              try simp only [List.getElem_toArray, List.getElem_cons_succ, List.getElem_cons_zero, Act.put, List.setIfInBounds_toArray, List.set_cons_zero, List.set_cons_succ]
              refine wpAnyH_take (i := 33) (v := ?vb33) rfl (by kernel_rfl) (by kernel_rfl) (by kernel_rfl) (fun _ _ _ h => h) (Or.inl ⟨by rfl, ?yb33⟩) hHeld ?rb33
              case yb33 => (intro W hW; obtain ⟨hA, hB, hC, hD, hE, hF⟩ := hW; go_simp; first | done | with_reducible rfl)
              try simp only [List.getElem_toArray, List.getElem_cons_succ, List.getElem_cons_zero, Act.put, List.setIfInBounds_toArray, List.set_cons_zero, List.set_cons_succ]
              refine wpAnyH_take (i := 34) (v := ?vb34) rfl (by kernel_rfl) (by kernel_rfl) (by kernel_rfl) (fun _ _ _ h => h) (Or.inl ⟨by rfl, ?yb34⟩) hHeld ?rb34
              case yb34 => (intro W hW; obtain ⟨hA, hB, hC, hD, hE, hF⟩ := hW; go_simp; first | done | with_reducible rfl)
              try simp only [List.getElem_toArray, List.getElem_cons_succ, List.getElem_cons_zero, Act.put, List.setIfInBounds_toArray, List.set_cons_zero, List.set_cons_succ]
              refine wpAnyH_take (i := 35) (v := ?vb35) rfl (by kernel_rfl) (by kernel_rfl) (by kernel_rfl) (fun _ _ _ h => h) (Or.inl ⟨by rfl, ?yb35⟩) hHeld ?rb35
              case yb35 => (intro W hW; obtain ⟨hA, hB, hC, hD, hE, hF⟩ := hW; go_simp; first | done | with_reducible rfl)
              try simp only [List.getElem_toArray, List.getElem_cons_succ, List.getElem_cons_zero, Act.put, List.setIfInBounds_toArray, List.set_cons_zero, List.set_cons_succ]
              refine wpAnyH_take (i := 36) (v := ?vb36) rfl (by kernel_rfl) (by kernel_rfl) (by kernel_rfl) (fun _ _ _ h => h) (Or.inl ⟨by rfl, ?yb36⟩) hHeld ?rb36
              case yb36 => (intro W hW; obtain ⟨hA, hB, hC, hD, hE, hF⟩ := hW; go_simp; first | done | with_reducible rfl)
              try simp only [List.getElem_toArray, List.getElem_cons_succ, List.getElem_cons_zero, Act.put, List.setIfInBounds_toArray, List.set_cons_zero, List.set_cons_succ]
              refine wpAnyH_take (i := 37) (v := ?vb37) rfl (by kernel_rfl) (by kernel_rfl) (by kernel_rfl) (fun _ _ _ h => h) (Or.inl ⟨by rfl, ?yb37⟩) hHeld ?rb37
              case yb37 => (intro W hW; obtain ⟨hA, hB, hC, hD, hE, hF⟩ := hW; go_simp; first | done | with_reducible rfl)
              try simp only [List.getElem_toArray, List.getElem_cons_succ, List.getElem_cons_zero, Act.put, List.setIfInBounds_toArray, List.set_cons_zero, List.set_cons_succ]
              refine wpAnyH_take (i := 38) (v := ?vb38) rfl (by kernel_rfl) (by kernel_rfl) (by kernel_rfl) (fun _ _ _ h => h) (Or.inl ⟨by rfl, ?yb38⟩) hHeld ?rb38
              case yb38 => (intro W hW; obtain ⟨hA, hB, hC, hD, hE, hF⟩ := hW; go_simp; first | done | with_reducible rfl)
              try simp only [List.getElem_toArray, List.getElem_cons_succ, List.getElem_cons_zero, Act.put, List.setIfInBounds_toArray, List.set_cons_zero, List.set_cons_succ]
              refine wpAnyH_take (i := 39) (v := ?vb39) rfl (by kernel_rfl) (by kernel_rfl) (by kernel_rfl) (fun _ _ _ h => h) (Or.inl ⟨by rfl, ?yb39⟩) hHeld ?rb39
              case yb39 => (intro W hW; obtain ⟨hA, hB, hC, hD, hE, hF⟩ := hW; go_simp; first | done | with_reducible rfl)
              try simp only [List.getElem_toArray, List.getElem_cons_succ, List.getElem_cons_zero, Act.put, List.setIfInBounds_toArray, List.set_cons_zero, List.set_cons_succ]
              refine wpAnyH_take (i := 40) (v := ?vb40) rfl (by kernel_rfl) (by kernel_rfl) (by kernel_rfl) (fun _ _ _ h => h) (Or.inl ⟨by rfl, ?yb40⟩) hHeld ?rb40
              case yb40 => (intro W hW; obtain ⟨hA, hB, hC, hD, hE, hF⟩ := hW; go_simp; first | done | with_reducible rfl)
              try simp only [List.getElem_toArray, List.getElem_cons_succ, List.getElem_cons_zero, Act.put, List.setIfInBounds_toArray, List.set_cons_zero, List.set_cons_succ]
              refine wpAnyH_take (i := 41) (v := ?vb41) rfl (by kernel_rfl) (by kernel_rfl) (by kernel_rfl) (fun _ _ _ h => h) (Or.inl ⟨by rfl, ?yb41⟩) hHeld ?rb41
              case yb41 => (intro W hW; obtain ⟨hA, hB, hC, hD, hE, hF⟩ := hW; go_simp; first | done | with_reducible rfl)
              try simp only [List.getElem_toArray, List.getElem_cons_succ, List.getElem_cons_zero, Act.put, List.setIfInBounds_toArray, List.set_cons_zero, List.set_cons_succ]
              refine wpAnyH_take (i := 42) (v := ?vb42) rfl (by kernel_rfl) (by kernel_rfl) (by kernel_rfl) (fun _ _ _ h => h) (Or.inl ⟨by rfl, ?yb42⟩) hHeld ?rb42
              case yb42 => (intro W hW; obtain ⟨hA, hB, hC, hD, hE, hF⟩ := hW; go_simp; first | done | with_reducible rfl)
              try simp only [List.getElem_toArray, List.getElem_cons_succ, List.getElem_cons_zero, Act.put, List.setIfInBounds_toArray, List.set_cons_zero, List.set_cons_succ]
              refine wpAnyH_take (i := 43) (v := ?vb43) rfl (by kernel_rfl) (by kernel_rfl) (by kernel_rfl) (fun _ _ _ h => h) (Or.inl ⟨by rfl, ?yb43⟩) hHeld ?rb43
              case yb43 => (intro W hW; obtain ⟨hA, hB, hC, hD, hE, hF⟩ := hW; go_simp; first | done | with_reducible rfl)
              try simp only [List.getElem_toArray, List.getElem_cons_succ, List.getElem_cons_zero, Act.put, List.setIfInBounds_toArray, List.set_cons_zero, List.set_cons_succ]
              refine wpAnyH_take (i := 44) (v := ?vb44) rfl (by kernel_rfl) (by kernel_rfl) (by kernel_rfl) (fun _ _ _ h => h) (Or.inl ⟨by rfl, ?yb44⟩) hHeld ?rb44
              case yb44 => (intro W hW; obtain ⟨hA, hB, hC, hD, hE, hF⟩ := hW; go_simp; first | done | with_reducible rfl)
              try simp only [List.getElem_toArray, List.getElem_cons_succ, List.getElem_cons_zero, Act.put, List.setIfInBounds_toArray, List.set_cons_zero, List.set_cons_succ]
              refine wpAnyH_take (i := 45) (v := ?vb45) rfl (by kernel_rfl) (by kernel_rfl) (by kernel_rfl) (fun _ _ _ h => h) (Or.inl ⟨by rfl, ?yb45⟩) hHeld ?rb45
              case yb45 => (intro W hW; obtain ⟨hA, hB, hC, hD, hE, hF⟩ := hW; go_simp; first | done | with_reducible rfl)
              try simp only [List.getElem_toArray, List.getElem_cons_succ, List.getElem_cons_zero, Act.put, List.setIfInBounds_toArray, List.set_cons_zero, List.set_cons_succ]
              refine wpAnyH_take (i := 46) (v := ?vb46) rfl (by kernel_rfl) (by kernel_rfl) (by kernel_rfl) (fun _ _ _ h => h) (Or.inl ⟨by rfl, ?yb46⟩) hHeld ?rb46
              case yb46 => (intro W hW; obtain ⟨hA, hB, hC, hD, hE, hF⟩ := hW; go_simp; first | done | with_reducible rfl)
              try simp only [List.getElem_toArray, List.getElem_cons_succ, List.getElem_cons_zero, Act.put, List.setIfInBounds_toArray, List.set_cons_zero, List.set_cons_succ]
              refine wpAnyH_take (i := 47) (v := ?vb47) rfl (by kernel_rfl) (by kernel_rfl) (by kernel_rfl) (fun _ _ _ h => h) (Or.inl ⟨by rfl, ?yb47⟩) hHeld ?rb47
              case yb47 => (intro W hW; obtain ⟨hA, hB, hC, hD, hE, hF⟩ := hW; go_simp; first | done | with_reducible rfl)
              try simp only [List.getElem_toArray, List.getElem_cons_succ, List.getElem_cons_zero, Act.put, List.setIfInBounds_toArray, List.set_cons_zero, List.set_cons_succ]
              refine wpAnyH_take (i := 48) (v := ?vb48) rfl (by kernel_rfl) (by kernel_rfl) (by kernel_rfl) (fun _ _ _ h => h) (Or.inl ⟨by rfl, ?yb48⟩) hHeld ?rb48
              case yb48 => (intro W hW; obtain ⟨hA, hB, hC, hD, hE, hF⟩ := hW; go_simp; first | done | with_reducible rfl)
              try simp only [List.getElem_toArray, List.getElem_cons_succ, List.getElem_cons_zero, Act.put, List.setIfInBounds_toArray, List.set_cons_zero, List.set_cons_succ]
              refine wpAnyH_take (i := 49) (v := ?vb49) rfl (by kernel_rfl) (by kernel_rfl) (by kernel_rfl) (fun _ _ _ h => h) (Or.inl ⟨by rfl, ?yb49⟩) hHeld ?rb49
              case yb49 => (intro W hW; obtain ⟨hA, hB, hC, hD, hE, hF⟩ := hW; go_simp; first | done | with_reducible rfl)
              try simp only [List.getElem_toArray, List.getElem_cons_succ, List.getElem_cons_zero, Act.put, List.setIfInBounds_toArray, List.set_cons_zero, List.set_cons_succ]
              refine wpAnyH_take (i := 50) (v := ?vb50) rfl (by kernel_rfl) (by kernel_rfl) (by kernel_rfl) (fun _ _ _ h => h) (Or.inl ⟨by rfl, ?yb50⟩) hHeld ?rb50
              case yb50 => (intro W hW; obtain ⟨hA, hB, hC, hD, hE, hF⟩ := hW; go_simp; first | done | with_reducible rfl)
              try simp only [List.getElem_toArray, List.getElem_cons_succ, List.getElem_cons_zero, Act.put, List.setIfInBounds_toArray, List.set_cons_zero, List.set_cons_succ]
              refine wpAnyH_done (by kernel_rfl) ?_ _
              cases bb with
              | true =>
                have hklt : k < x0 := by
                  rcases Nat.eq_or_lt_of_le hk with h | h
                  · subst h
                    have := HEQ.out.1 HE0.out
                    cases this
                  · exact h
                go_wp2
                go_roundw
                case rel => exact ⟨k + 1, by go_num, by omega, HBQ.out.drew⟩
                case measure => simp [intOf]; omega
              | false =>
                have hkx : k = x0 := by
                  rcases Nat.eq_or_lt_of_le hk with h | h
                  · exact h
                  · exact absurd (HEQ.out.2 rfl) (HFI.out k HKF.out h)
                obtain ⟨v', w', hrun, ho', hb'⟩ := oi_append9 (wr := wq.drew) (k : Int) ((HO.out.below HBQ.out.drew)) (by constructor <;> omega) (by rw [List.length_map, HTL.out]; omega) (by have h1 := HB.out.size; have h2 := HBQ.out.size; show w2.heap.size ≤ wq.heap.size; omega)
                have Hrun := Lib.hid hrun
                have HO' := Lib.hid ho'
                have HB' := Lib.hid (HB.out.trans ((HBQ.out.drew.mono HB.out.size).trans hb'))
                have HKX := Lib.hid hkx
                clear hrun ho' hb' hkx hbb
                go_wp2_with (at_builtin; have _t := Hrun; refine wpList_append_eq rfl (.tmp 77) (.tmp 79) 22 rfl _ _ _ _ rfl rfl Hrun.out ?_; clear _t Hrun)
                go_roundw
                case rel => exact ⟨i + 1, q, T ++ [k], by go_num, by rfl, by omega, hqN, by rw [List.length_append, HTL.out]; rfl, by
                  rw [← HTF.out, HDROP.out, HFST.out, HQE.out, ← HKX.out, List.append_assoc]; rfl, by rw [HQE.out]; exact HRR.out.step HKF.out, by rw [cast_map]; exact HO'.out, HB'.out⟩
                case measure => simp [intOf]; omega
        · obtain rfl : i = n := by omega
          have hTe : T = fst1 M 0 := by
            have := HTF.out
            rw [List.drop_eq_nil_of_le (Nat.le_of_eq HL.out)] at this
            simpa [fst1] using this
          have HTW := Lib.hid (HTB.out.keep HB.out)
          obtain ⟨g0, p1, p2, -⟩ := HTW.out.row 0 (by omega) (by omega)
          have hc0 := p2.cell (rowT_at (M.drop 0) (s := 0) (show 0 < N by omega))
          rw [List.drop_zero, HT0.out] at hc0
          have hct := HTW.out.own.cell p1
          have HCC : Hid (wr.drew.cell? ⟨gt, 0, none⟩ = some (.slice (some ⟨g0, 0, none⟩) N N) ∧ wr.drew.cell? ⟨g0, 0, none⟩ = some (.int .i64 (restR M 0))) := Lib.hid ⟨hct, hc0⟩
          have HTE := Lib.hid hTe
          have n0 : 0 < N := by omega
          have hn0 : 0 < i + 1 := by omega
          have hn1 : (0 : Int) < (i : Int) + 1 := by omega
          clear hTe p1 p2 hc0 hct
          go_wp2
          refine wp_region_held_drew (S := fun W => W.cell? ⟨gt, 0, none⟩ = some (.slice (some ⟨g0, 0, none⟩) N N) ∧ W.cell? ⟨g0, 0, none⟩ = some (.int .i64 (restR M 0))) (by kernel_rfl) HCC.out (fun hHeld => ?_)
          refine wpAnyH_take (i := 0) (v := ?vc0) rfl (by kernel_rfl) (by kernel_rfl) (by kernel_rfl) (fun _ _ _ h => h) (Or.inl ⟨by rfl, ?yc0⟩) hHeld ?rc0
          case yc0 => (intro W hW; obtain ⟨hA, hB⟩ := hW; go_simp; first | done | with_reducible rfl)
          try simp only [List.getElem_toArray, List.getElem_cons_zero, Act.put, List.setIfInBounds_toArray, List.set_cons_zero, List.set_cons_succ]
          refine wpAnyH_take (i := 1) (v := ?vc1) rfl (by kernel_rfl) (by kernel_rfl) (by kernel_rfl) (fun _ _ _ h => h) (Or.inl ⟨by rfl, ?yc1⟩) hHeld ?rc1
          case yc1 => (intro W hW; obtain ⟨hA, hB⟩ := hW; go_simp; first | done | with_reducible rfl)
          try simp only [List.getElem_toArray, List.getElem_cons_succ, List.getElem_cons_zero, Act.put, List.setIfInBounds_toArray, List.set_cons_zero, List.set_cons_succ]
          refine wpAnyH_take (i := 2) (v := ?vc2) rfl (by kernel_rfl) (by kernel_rfl) (by kernel_rfl) (fun _ _ _ h => h) (Or.inl ⟨by rfl, ?yc2⟩) hHeld ?rc2
          case yc2 => (intro W hW; obtain ⟨hA, hB⟩ := hW; go_simp; first | done | with_reducible rfl)
          try simp only [List.getElem_toArray, List.getElem_cons_succ, List.getElem_cons_zero, Act.put, List.setIfInBounds_toArray, List.set_cons_zero, List.set_cons_succ]
          refine wpAnyH_take (i := 3) (v := ?vc3) rfl (by kernel_rfl) (by kernel_rfl) (by kernel_rfl) (fun _ _ _ h => h) (Or.inl ⟨by rfl, ?yc3⟩) hHeld ?rc3
          case yc3 => (intro W hW; obtain ⟨hA, hB⟩ := hW; go_simp; first | done | with_reducible rfl)
          try simp only [List.getElem_toArray, List.getElem_cons_succ, List.getElem_cons_zero, Act.put, List.setIfInBounds_toArray, List.set_cons_zero, List.set_cons_succ]
          refine wpAnyH_take (i := 4) (v := ?vc4) rfl (by kernel_rfl) (by kernel_rfl) (by kernel_rfl) (fun _ _ _ h => h) (Or.inl ⟨by rfl, ?yc4⟩) hHeld ?rc4
          case yc4 => (intro W hW; obtain ⟨hA, hB⟩ := hW; go_simp; first | done | with_reducible rfl)
          try simp only [List.getElem_toArray, List.getElem_cons_succ, List.getElem_cons_zero, Act.put, List.setIfInBounds_toArray, List.set_cons_zero, List.set_cons_succ]
          refine wpAnyH_take (i := 5) (v := ?vc5) rfl (by kernel_rfl) (by kernel_rfl) (by kernel_rfl) (fun _ _ _ h => h) (Or.inl ⟨by rfl, ?yc5⟩) hHeld ?rc5
          case yc5 => (intro W hW; obtain ⟨hA, hB⟩ := hW; go_simp; first | done | with_reducible rfl)
          try simp only [List.getElem_toArray, List.getElem_cons_succ, List.getElem_cons_zero, Act.put, List.setIfInBounds_toArray, List.set_cons_zero, List.set_cons_succ]
          refine wpAnyH_take (i := 6) (v := ?vc6) rfl (by kernel_rfl) (by kernel_rfl) (by kernel_rfl) (fun _ _ _ h => h) (Or.inl ⟨by rfl, ?yc6⟩) hHeld ?rc6
          case yc6 => (intro W hW; obtain ⟨hA, hB⟩ := hW; go_simp; first | done | with_reducible rfl)
          try simp only [List.getElem_toArray, List.getElem_cons_succ, List.getElem_cons_zero, Act.put, List.setIfInBounds_toArray, List.set_cons_zero, List.set_cons_succ]
          refine wpAnyH_take (i := 7) (v := ?vc7) rfl (by kernel_rfl) (by kernel_rfl) (by kernel_rfl) (fun _ _ _ h => h) (Or.inl ⟨by rfl, ?yc7⟩) hHeld ?rc7
          case yc7 => (intro W hW; obtain ⟨hA, hB⟩ := hW; go_simp; first | done | with_reducible rfl)
          try simp only [List.getElem_toArray, List.getElem_cons_succ, List.getElem_cons_zero, Act.put, List.setIfInBounds_toArray, List.set_cons_zero, List.set_cons_succ]
          refine wpAnyH_take (i := 8) (v := ?vc8) rfl (by kernel_rfl) (by kernel_rfl) (by kernel_rfl) (fun _ _ _ h => h) (Or.inl ⟨by rfl, ?yc8⟩) hHeld ?rc8
          case yc8 => (intro W hW; obtain ⟨hA, hB⟩ := hW; go_simp; first | done | with_reducible rfl)
          try simp only [List.getElem_toArray, List.getElem_cons_succ, List.getElem_cons_zero, Act.put, List.setIfInBounds_toArray, List.set_cons_zero, List.set_cons_succ]
          refine wpAnyH_done (by kernel_rfl) ?_ _
          go_wp2
          exact bodyPost_ret (v := .tuple #[u6, .int .i64 (restR M 0), .bool true]) (by simp [results, Tryz.results46, go_sem]) rfl ⟨_, rfl, by rw [← HTE.out]; exact HO.out.mono (by have := HB2.out.size; omega), (HB2.out.trans (HB.out.mono HB2.out.size)).drew⟩
    · obtain rfl : n = 0 := by omega
      obtain rfl : M = [] := List.length_eq_zero_iff.1 hlen
      clear hok hlen h0
      go_enter Tryz.func46, Tryz.ntmps46
      go_wp2_with fail
      refine HP.out.mono ?_
      rintro e w' ⟨rfl, hb⟩
      have HB := Lib.hid hb
      clear hb
      go_wp2
      exact bodyPost_ret (v := .tuple #[.slice none 0 0, .int .i64 0, .bool true]) (by simp [results, Tryz.results46, go_sem]) rfl ⟨_, rfl, OI.nil _ _, HB.out⟩
end Go.Proofs.YtjllmladhjbnaaaGreatDoor
