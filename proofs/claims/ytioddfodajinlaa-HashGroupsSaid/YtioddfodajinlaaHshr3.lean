/- The reference's table: find. -/
import Derived.IntWalk
import Derived.Test.YtioddfodajinlaaHshr1
import Derived.Test.YtioddfodajinlaaCelg
namespace Go.Proofs.Ytioddfodajinlaa
open Go.RowKit
attribute [local go_sem] Oper.semAt_some
/-- A slot, or that there is none, as find tells it. -/
def atS : Option Nat → Int
  | some k => k
  | none => -1
set_option maxRecDepth 100000 in
set_option maxHeartbeats 2000000 in
theorem rtfind_any (B T gC gI : Nat) (vs : List (Option V5)) (ts : List (Option Cel)) (P : Option Addr) (c K : Nat) (key : List Int) (w : World) (hR : RT B w T gC gI vs ts) (hx : Nums .i64 w P K key) (hok : okK key = true) (hK : K ≤ 1000) (hn1 : 1 ≤ ts.length) (hn2 : ts.length ≤ 10000) (hev : ∀ (i : Nat) (y : Cel), ts[i]? = some (some y) → y.key.length ≤ 1000) :
    Calls Try.prog 34 #[.pointer (some ⟨T, 0, none⟩), .slice P K c] w fun e w' => e = .returned (.int .i64 (atS (seekT ts key))) ∧ ∃ q, w' = w.drewN q := by
  have hst := seek_start ts key (by omega)
  have hstep := seek_step ts key
  have y0 := hR.bx.cell (i := 0) rfl
  have y1 := hR.bx.cell (i := 1) rfl
  obtain ⟨n, hn⟩ : ∃ n, n = ts.length := ⟨_, rfl⟩
  rw [← hn] at y0 y1 hn1 hn2 hst hstep
  obtain ⟨PL, hPL⟩ : ∃ PL, PL = plcN key n := ⟨_, rfl⟩
  have HP := rPlace_any P c K n key w hx hok hK hn1 hn2
  rw [← hPL] at HP hst hstep
  obtain ⟨SK, hSK⟩ : ∃ SK, SK = seekT ts key := ⟨_, rfl⟩
  rw [← hSK] at hst ⊢
  have HST := Lib.hid hst
  have HSTEP := Lib.hid hstep
  have hn1z : ¬ n = 0 := by omega
  have hn0 : ((n : Int) == 0) = false := by rw [beq_eq_false_iff_ne]; omega
  have hPLn : PL < n := by rw [hPL]; exact plcN_lt key (by omega)
  have HP := Lib.hid HP
  have HR := Lib.hid hR
  have HX := Lib.hid hx
  have HEV := Lib.hid hev
  have HN := Lib.hid hn
  have HPL := Lib.hid hPL
  clear hR hx hok hev hPL hn hst hstep hSK
  go_enter Try.func34, Try.ntmps34
  go_wp2_with fail
  refine HP.out.mono ?_
  rintro e w' ⟨rfl, hw'⟩
  rw [← hw']
  clear hw'
  clear w' HP
  go_wp2_with fail
  go_loopw [7] (fun i wr => ∃ (j q : Nat), i = .int .i64 j ∧ j ≤ n ∧ seekF ts key ((PL + j) % n) (n - j) = SK ∧ wr = w.drewN q) (fun i _ => n - (intOf i).toNat)
  case atStart => exact ⟨0, 0, rfl, Nat.zero_le _, HST.out, rfl⟩
  case round =>
    obtain ⟨j, q, rfl, hj, hsk, hwr⟩ := hrel
    rename World => wr
    by_cases hjn : j < n
    · have d1 : decide ((j : Int) < (n : Int)) = true := decide_eq_true (by omega)
      obtain ⟨t, ht, hs⟩ := HSTEP.out j hjn
      rw [hsk] at hs
      obtain ⟨S, hS⟩ : ∃ S, S = PL + j := ⟨_, rfl⟩
      obtain ⟨KX, hKX⟩ : ∃ KX, KX = (PL + j) % n := ⟨_, rfl⟩
      have hw1 : IntKind.i64.wrap ((PL : Int) + (j : Int)) = (S : Int) := by rw [IntWalk.i64_in _ (by omega), hS]; push_cast; rfl
      have hmd : (S : Int).tmod (n : Int) = (KX : Int) := by rw [Int.tmod_eq_emod_of_nonneg (by omega), hKX, hS]; push_cast; rfl
      rw [← hKX] at ht hs
      have hKXn : KX < n := by rw [hKX]; exact Nat.mod_lt _ (by omega)
      have k0 : (0 : Int) ≤ (KX : Int) := by omega
      have k1 : (KX : Int) < (n : Int) := by omega
      have hRr : RT B wr T gC gI vs ts := by rw [hwr]; exact HR.out.below (below_drewN (Below.refl _ w) q)
      obtain ⟨v, hv, hso, hc, hfl⟩ := hRr.slot ht
      have y0' := hRr.bx.cell (i := 0) rfl
      have y1' := hRr.bx.cell (i := 1) rfl
      rw [← HN.out] at y0' y1'
      have HWR := Lib.hid hwr
      clear y0 y1
      cases t with
      | none =>
        obtain rfl : v = none := by
          cases v with
          | none => rfl
          | some _ => exact hso.elim
        have hs2 : SK = some KX := hs
        have HE : Hid (atS SK = (KX : Int)) := Lib.hid (by rw [hs2]; rfl)
        clear hs2
        clear hc hso hv ht hs hRr hsk hS hKX hwr
        go_wp2
        go_ret
        exact ⟨by rw [HE.out]; rfl, q, HWR.out⟩
      | some x =>
        obtain ⟨vv, rfl⟩ : ∃ vv, v = some vv := by
          cases v with
          | none => exact hso.elim
          | some vv => exact ⟨vv, rfl⟩
        have hco : OwnC B wr vv x := hso
        obtain ⟨-, hco, -⟩ := hco
        obtain ⟨Pk, ck, hk, -, -, nk, -⟩ := hco.key.form
        have hkc : wr.cell? ⟨gC, KX * 5, none⟩ = some (.slice Pk x.key.length ck) := by
          rw [← hk]; exact hc 0 (by omega) _ rfl
        have hxl := HEV.out KX x ht
        obtain ⟨m, hm⟩ : ∃ m, m = x.key.length := ⟨_, rfl⟩
        rw [← hm] at hkc nk hxl
        have hLS := Lib.hid (rLess Pk P m ck K c x.key key wr nk (HX.out.keep (by rw [hwr]; exact (Keeps.refl w).drewN q)) (by omega) (by omega))
        have HS := Lib.hid hs
        clear hc hso hv ht hs hRr hsk hS hKX hwr hk nk hco hm
        go_wp2_with fail
        refine hLS.out.mono ?_
        rintro e w' ⟨rfl, qn, hw'⟩
        have HW' : Hid (∃ q', w' = w.drewN q') := Lib.hid ⟨_, by rw [hw', HWR.out]; exact World.drewN_drewN _ _ _⟩
        clear hw'
        by_cases he : x.key = key
        · have e0 : (cmpL x.key key == 0) = true := by rw [he, cmpL_self]; rfl
          have hs' : SK = some KX := by rw [HS.out]; simp only [if_pos he]
          have HE : Hid (atS SK = (KX : Int)) := Lib.hid (by rw [hs']; rfl)
          clear hs'
          clear he
          go_wp2
          go_ret
          exact ⟨by rw [HE.out]; rfl, HW'.out⟩
        · have e0 : (cmpL x.key key == 0) = false := by rw [beq_eq_false_iff_ne]; exact fun h => he (cmpL_zero.1 h)
          have HS' : Hid (SK = seekF ts key ((PL + (j + 1)) % n) (n - (j + 1))) := Lib.hid (by rw [HS.out]; simp only [if_neg he])
          clear he
          go_wp2
          go_roundw
          case rel =>
            obtain ⟨q', hq'⟩ := HW'.out
            exact ⟨j + 1, q', by go_num, by omega, HS'.out.symm, hq'⟩
          case measure => simp [intOf]; omega
    · obtain rfl : j = n := by omega
      have d1 : decide ((j : Int) < (j : Int)) = false := by simp
      have hs : SK = none := by rw [← hsk, Nat.sub_self]; unfold seekF; rfl
      have HE : Hid (atS SK = -1) := Lib.hid (by rw [hs]; rfl)
      clear hs
      have HWR := Lib.hid hwr
      clear hsk hwr
      go_wp2
      go_ret
      exact ⟨by rw [HE.out]; rfl, q, HWR.out⟩
end Go.Proofs.Ytioddfodajinlaa
