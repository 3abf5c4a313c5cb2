/- The laws' Costs. -/
import Derived.Test.YtimffjonhoplpaaMatM
namespace Go.Proofs.Ytimffjonhoplpaa
open Go.RowKit Go.Shelf
attribute [local go_sem] Oper.semAt_some
/-- Which number stands in row i, column k. -/
def entC (zs : List Int) (sp : Int) (m i k : Nat) : Int := ((zs[i * m + k]?).getD ((i * 3 + k : Nat) : Int)) % (1 + sp % 50)
def rowC (zs : List Int) (sp : Int) (m i k : Nat) : List Int := (List.range k).map (entC zs sp m i)
def matC (zs : List Int) (sp : Int) (m n : Nat) : List (List Int) := (List.range n).map fun i => rowC zs sp m i m
theorem rowC_len (zs : List Int) (sp : Int) (m i k : Nat) : (rowC zs sp m i k).length = k := by simp [rowC]
theorem matC_len (zs : List Int) (sp : Int) (m n : Nat) : (matC zs sp m n).length = n := by simp [matC]
theorem rowC_succ (zs : List Int) (sp : Int) (m i k : Nat) : rowC zs sp m i (k + 1) = rowC zs sp m i k ++ [entC zs sp m i k] := by simp [rowC, List.range_succ]
theorem matC_succ (zs : List Int) (sp : Int) (m n : Nat) : matC zs sp m (n + 1) = matC zs sp m n ++ [rowC zs sp m n m] := by simp [matC, List.range_succ]
theorem entC_in (zs : List Int) (sp : Int) (m i k : Nat) : 0 ≤ entC zs sp m i k ∧ entC zs sp m i k ≤ 49 := by
  unfold entC
  have h1 := Int.emod_nonneg sp (show (50 : Int) ≠ 0 by omega)
  have h2 := Int.emod_lt_of_pos sp (show (0 : Int) < 50 by omega)
  have h3 := Int.emod_nonneg ((zs[i * m + k]?).getD ((i * 3 + k : Nat) : Int)) (show 1 + sp % 50 ≠ 0 by omega)
  have h4 := Int.emod_lt_of_pos ((zs[i * m + k]?).getD ((i * 3 + k : Nat) : Int)) (show 0 < 1 + sp % 50 by omega)
  omega
theorem matC_row {zs : List Int} {sp : Int} {m n : Nat} : ∀ r ∈ matC zs sp m n, r.length = m ∧ ∀ x ∈ r, 0 ≤ x ∧ x ≤ 49 := by
  intro r hr
  unfold matC at hr
  obtain ⟨i, -, rfl⟩ := List.mem_map.1 hr
  refine ⟨rowC_len _ _ _ _ _, fun x hx => ?_⟩
  unfold rowC at hx
  obtain ⟨k, -, rfl⟩ := List.mem_map.1 hx
  exact entC_in _ _ _ _ _
theorem matC_ok {zs : List Int} {sp : Int} {m n : Nat} (hm : m ≤ 12) (hn : n ≤ m) : okM (matC zs sp m n) = true :=
  okM_of hm (by rw [matC_len]; exact hn) (fun r hr => ⟨(matC_row r hr).1, fun x hx => by have := (matC_row r hr).2 x hx; omega⟩)
set_option maxRecDepth 100000 in
set_option maxHeartbeats 8000000 in
theorem costs_any (a b sp : Int) (A : Option Addr) (ln cp : Nat) (zs : List Int) (w : World) (ha : inK .i64 a) (hb : inK .i64 b) (hsp : inK .i64 sp) (hz : Nums .i64 w A ln zs) :
    Calls Try.prog 14 #[.int .i64 a, .int .i64 b, .slice A ln cp, .int .i64 sp] w fun e w' => ∃ v us, e = .returned v ∧ OM w.heap.size w' v (matC zs sp ((a % 6).toNat + (b % 5).toNat) (a % 6).toNat) us ∧ Below w.heap.size w w' := by
  have HW1 := Lib.hid (fun W => mwithin a 6 W ha (by omega) (by omega))
  have HW2 := Lib.hid (fun W => mwithin b 5 W hb (by omega) (by omega))
  have HW3 := Lib.hid (fun W => mwithin sp 50 W hsp (by omega) (by omega))
  have HZ := Lib.hid hz
  have hzl := hz.len
  obtain ⟨n, hn⟩ : ∃ n : Nat, n = (a % 6).toNat := ⟨_, rfl⟩
  obtain ⟨m5, hm5⟩ : ∃ m5 : Nat, m5 = (b % 5).toNat := ⟨_, rfl⟩
  have hn' : a % 6 = (n : Int) := by omega
  have hm' : b % 5 = (m5 : Int) := by omega
  obtain ⟨m, hm⟩ : ∃ m, m = n + m5 := ⟨_, rfl⟩
  rw [← hn, ← hm5, ← hm]
  rw [hn'] at HW1
  rw [hm'] at HW2
  have n5 : n ≤ 5 := by omega
  have m9 : m ≤ 9 := by omega
  have hmz : (n : Int) + (m5 : Int) = (m : Int) := by omega
  obtain ⟨s50, hs50⟩ : ∃ s50, s50 = sp % 50 := ⟨_, rfl⟩
  rw [← hs50] at HW3
  have hs1 : 0 ≤ s50 := by omega
  have hs2 : s50 < 50 := by omega
  have HS := Lib.hid hs50
  have HL := Lib.hid hzl
  clear hn hm5 hn' hm' hm hs50 hz hzl
  go_enter Try.func14, Try.ntmps14
  go_wp2_with fail
  refine (HW1.out w).mono ?_
  rintro e w' ⟨rfl, rfl⟩
  go_wp2_with fail
  refine (HW2.out w).mono ?_
  rintro e w' ⟨rfl, rfl⟩
  go_wp2
  go_loopw [11, 12] (fun v p wr => ∃ (i : Nat) (us : List Value), p = .int .i64 i ∧ i ≤ n ∧ OM w.heap.size wr v (matC zs sp m i) us ∧ Below w.heap.size w wr) (fun _ p _ => n - (intOf p).toNat)
  case atStart => exact ⟨0, [], rfl, Nat.zero_le _, OM.nil _ _, Below.refl _ _⟩
  case round =>
    obtain ⟨i, us, rfl, hi, hom, hb⟩ := hrel
    rename World => wr
    have HO := Lib.hid hom
    have HB := Lib.hid hb
    clear hom hb
    by_cases hlt : i < n
    · have hltz : (i : Int) < (n : Int) := by omega
      obtain ⟨pm, hpm⟩ : ∃ pm : Nat, pm = i * m := ⟨_, rfl⟩
      have hp1 : pm ≤ 45 := by rw [hpm]; exact Nat.le_trans (Nat.mul_le_mul (show i ≤ 5 by omega) m9) (by omega)
      have hp2 : (i : Int) * (m : Int) = (pm : Int) := by rw [hpm]; push_cast; rfl
      have HPM := Lib.hid hpm
      clear hpm
      go_wp2
      go_loopw [13, 14] (fun u p wq => ∃ k : Nat, p = .int .i64 k ∧ k ≤ m ∧ OI wr.heap.size wq u (rowC zs sp m i k) ∧ Below wr.heap.size wr wq) (fun _ p _ => m - (intOf p).toNat)
      case atStart => exact ⟨0, rfl, Nat.zero_le _, OI.nil _ _, Below.refl _ _⟩
      case round =>
        obtain ⟨k, rfl, hk, ho, hbq⟩ := hrel
        rename World => wq
        have HOq := Lib.hid ho
        have HBq := Lib.hid hbq
        clear ho hbq
        by_cases hkm : k < m
        · have hkz : (k : Int) < (m : Int) := by omega
          by_cases hin : pm + k < ln
          · have hinz : decide ((pm : Int) + (k : Int) < (ln : Int)) = true := decide_eq_true (by omega)
            have h0 : (0 : Int) ≤ (pm : Int) + (k : Int) := by omega
            have h1 : (pm : Int) + (k : Int) < (ln : Int) := by omega
            have h2 : ((pm : Int) + (k : Int)).toNat = pm + k := by omega
            obtain ⟨ad, x, rfl, hx, hxi, hcx⟩ := (HZ.out.keep (Keeps.of_below (HB.out.trans (HBq.out.mono HB.out.size)))).at_ hin
            have hent : entC zs sp m i k = x % (1 + s50) := by unfold entC; rw [← HPM.out, hx, HS.out]; rfl
            have HWX := Lib.hid (fun W => mwithin x (1 + s50) W hxi (by omega) (by omega))
            rw [← hent] at HWX
            have hei := entC_in zs sp m i k
            obtain ⟨v', w', hrun, ho', hb'⟩ := oi_push (entC zs sp m i k) HOq.out (by constructor <;> omega) (by rw [rowC_len]; omega) HBq.out.size
            rw [← rowC_succ] at ho'
            have Hrun := Lib.hid hrun
            have HO' := Lib.hid ho'
            have HB' := Lib.hid (HBq.out.trans hb')
            clear hx hxi hent hrun ho' hb'
            go_wp2_with fail
            refine (HW3.out wq).mono ?_
            rintro e w'' ⟨rfl, rfl⟩
            go_wp2_with fail
            refine (HWX.out wq).mono ?_
            rintro e w'' ⟨rfl, rfl⟩
            go_wp2_with (at_builtin; have _t := Hrun; refine wpList_append_eq rfl (.tmp 52) (.tmp 58) 22 rfl _ _ _ _ rfl rfl Hrun.out ?_; clear _t Hrun)
            go_roundw
            case rel => exact ⟨k + 1, by go_num, by omega, HO'.out, HB'.out⟩
            case measure => simp [intOf]; omega
          · have hinz : decide ((pm : Int) + (k : Int) < (ln : Int)) = false := decide_eq_false (by omega)
            have hent : entC zs sp m i k = ((i : Int) * 3 + (k : Int)) % (1 + s50) := by
              unfold entC
              rw [← HPM.out, List.getElem?_eq_none (by rw [HL.out]; omega), HS.out]
              simp
            have HWX := Lib.hid (fun W => mwithin ((i : Int) * 3 + (k : Int)) (1 + s50) W (by constructor <;> omega) (by omega) (by omega))
            rw [← hent] at HWX
            have hei := entC_in zs sp m i k
            obtain ⟨v', w', hrun, ho', hb'⟩ := oi_push (entC zs sp m i k) HOq.out (by constructor <;> omega) (by rw [rowC_len]; omega) HBq.out.size
            rw [← rowC_succ] at ho'
            have Hrun := Lib.hid hrun
            have HO' := Lib.hid ho'
            have HB' := Lib.hid (HBq.out.trans hb')
            clear hent hrun ho' hb'
            go_wp2_with fail
            refine (HW3.out wq).mono ?_
            rintro e w'' ⟨rfl, rfl⟩
            go_wp2_with fail
            refine (HWX.out wq).mono ?_
            rintro e w'' ⟨rfl, rfl⟩
            go_wp2_with (at_builtin; have _t := Hrun; refine wpList_append_eq rfl (.tmp 52) (.tmp 58) 22 rfl _ _ _ _ rfl rfl Hrun.out ?_; clear _t Hrun)
            go_roundw
            case rel => exact ⟨k + 1, by go_num, by omega, HO'.out, HB'.out⟩
            case measure => simp [intOf]; omega
        · obtain rfl : k = m := by omega
          obtain ⟨P, cu, rfl, -⟩ := HOq.out.form
          obtain ⟨v', w', hrun, ho', hb'⟩ := om_append (HO.out.below HBq.out) (HOq.out.mono HB.out.size) (OM.apart_new HO.out HOq.out (Nat.le_refl _)) (by rw [matC_len]; omega) (by have := HB.out.size; have := HBq.out.size; omega)
          rw [← matC_succ] at ho'
          have Hrun := Lib.hid hrun
          have HO' := Lib.hid ho'
          have HB' := Lib.hid ((HB.out.trans (HBq.out.mono HB.out.size)).trans hb')
          clear hrun ho' hb'
          go_wp2_with (at_builtin; have _t := Hrun; refine wpList_append_eq rfl (.tmp 60) (.tmp 62) 24 rfl _ _ _ _ rfl rfl Hrun.out ?_; clear _t Hrun)
          go_roundw
          case rel => exact ⟨i + 1, _, by go_num, by omega, HO'.out, HB'.out⟩
          case measure => simp [intOf]; omega
    · obtain rfl : i = n := by omega
      go_wp2
      go_ret
      exact ⟨_, us, rfl, HO.out, HB.out⟩
end Go.Proofs.Ytimffjonhoplpaa
