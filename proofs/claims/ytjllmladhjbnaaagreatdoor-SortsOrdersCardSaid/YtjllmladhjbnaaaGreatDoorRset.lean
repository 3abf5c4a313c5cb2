/- The reference's Parents, Sets. -/
import Derived.IntWalk
import Derived.Test.YtjllmladhjbnaaaGreatDoorRlat
import Derived.Test.YtjllmladhjbnaaaGreatDoorCnt
namespace Go.Proofs.YtjllmladhjbnaaaGreatDoor
open Go.RowKit Go.Shelf
attribute [local go_sem] Oper.semAt_some
theorem oi_append {B : Nat} {wr : World} {v : Value} {xs : List Int} (x : Int) (h : OI B wr v xs) (hx : inK .i64 x) (hn : xs.length ≤ 1000000) (hB : B ≤ wr.heap.size) :
    ∃ v' w', (Builtin.append_ #[22, 22] 22 #[v, .slice (some ⟨wr.heap.size, 0, none⟩) 1 1]).run Tryz.prog (wr.alloc (.cells #[.int .i64 x] 3)) = .ok v' w' ∧ OI B w' v' (xs ++ [x]) ∧ Below B wr w' := by
  obtain ⟨v', w', hrun, ho, hgr⟩ := append_int wr B v xs x _ rfl h.1 hn hB
  exact ⟨v', w', hrun, ⟨ho, fun y hy => by rcases List.mem_append.1 hy with g | g; exact h.2 y g; (simp only [List.mem_singleton] at g; subst g; exact hx)⟩,
    ((Below.refl B wr).alloc hB _).trans (below_grown hgr (h.1.alloc _) (by simp; omega))⟩
/-- The sets below one that a set is within, with one dimension more. -/
def parC (k : Int) (s : Int) : Bool := decide (lvl s = lvl k + 1) && decide (bits .and .i64 s k = k)
def parTo (k : Int) (j : Nat) : List Int := ((List.range j).map fun (s : Nat) => (s : Int)).filter (parC k)
theorem parTo_succ (k : Int) (j : Nat) : parTo k (j + 1) = if parC k (j : Int) then parTo k j ++ [(j : Int)] else parTo k j := by
  unfold parTo
  rw [List.range_succ, List.map_append, List.filter_append, List.map_cons, List.map_nil, List.filter_cons, List.filter_nil]
  split <;> simp
theorem parTo_len (k : Int) (j : Nat) : (parTo k j).length ≤ j := by
  unfold parTo
  exact Nat.le_trans (List.length_filter_le _ _) (by simp)
theorem parTo_all : ∀ k : Fin 16, ∀ d : Fin 5, k.val < 2 ^ d.val → parTo k.val (2 ^ d.val) = parL k.val d.val := by decide +kernel
set_option maxRecDepth 100000 in
set_option maxHeartbeats 4000000 in
theorem rPar_any (k d : Nat) (w : World) (hk : k < 2 ^ d) (hd : d ≤ 4) :
    Calls Tryz.prog 38 #[.int .i64 k, .int .i64 d] w fun e w' => ∃ v, e = .returned v ∧ OI w.heap.size w' v (parL k d) ∧ Below w.heap.size w w' := by
  obtain ⟨N, hN⟩ : ∃ N, N = 2 ^ d := ⟨_, rfl⟩
  obtain ⟨n16, n1⟩ := pow_16 d hd
  rw [← hN] at n16 n1 hk
  have hsh : wrap64 (2 ^ d) = (N : Int) := by rw [shl_wrap d hd, hN, two_pow]
  have hall := parTo_all ⟨k, by omega⟩ ⟨d, by omega⟩ (by rw [← hN]; exact hk)
  dsimp only at hall
  rw [← hN] at hall
  have HALL := Lib.hid hall
  obtain ⟨l0, l4⟩ := lvl_bd (k : Int)
  have HLk := Lib.hid (fun W => rLvl_any (k : Int) W (by omega) (by omega))
  obtain ⟨lk, hlk⟩ : ∃ lk, lk = lvl (k : Int) := ⟨_, rfl⟩
  rw [← hlk] at HLk l0 l4
  have HLK := Lib.hid hlk
  clear hN hall hlk
  go_enter Tryz.func38, Tryz.ntmps38
  go_wp2
  go_loopw [5, 6] (fun v s wr => ∃ j : Nat, s = .int .i64 j ∧ j ≤ N ∧ OI w.heap.size wr v (parTo k j) ∧ Below w.heap.size w wr) (fun _ s _ => N - (intOf s).toNat)
  case atStart => exact ⟨0, rfl, Nat.zero_le _, OI.nil _ _, Below.refl _ _⟩
  case round =>
    obtain ⟨j, rfl, hj, ho, hb⟩ := hrel
    rename World => wr
    have HO := Lib.hid ho
    have HB := Lib.hid hb
    clear ho hb
    by_cases hlt : j < N
    · have hjz : (j : Int) < (N : Int) := by omega
      have HLj := Lib.hid (rLvl_any (j : Int) wr (by omega) (by omega))
      obtain ⟨lj, hlj⟩ : ∃ lj, lj = lvl (j : Int) := ⟨_, rfl⟩
      rw [← hlj] at HLj
      have hs := parTo_succ (k : Int) j
      unfold parC at hs
      rw [← hlj, ← HLK.out] at hs
      have HS := Lib.hid hs
      clear hs hlj
      by_cases hA : lj = lk + 1
      · have dA : (lj == lk + 1) = true := by simp [hA]
        by_cases hBt : bits .and .i64 (j : Int) (k : Int) = (k : Int)
        · have dB : (bits .and .i64 (j : Int) (k : Int) == (k : Int)) = true := by rw [hBt]; simp
          have hs2 : parTo (k : Int) (j + 1) = parTo (k : Int) j ++ [(j : Int)] := by rw [HS.out, if_pos (by simp [hA, hBt])]
          have HS2 := Lib.hid hs2
          obtain ⟨v', w', hrun, ho', hb'⟩ := oi_append (j : Int) HO.out (by constructor <;> omega) (by have := parTo_len (k : Int) j; omega) HB.out.size
          have Hrun := Lib.hid hrun
          have HO' := Lib.hid ho'
          have HB' := Lib.hid (HB.out.trans hb')
          clear hBt hA hs2 hrun ho' hb'
          go_wp2_with fail
          refine HLj.out.mono ?_
          rintro e w' ⟨rfl, rfl⟩
          go_wp2_with fail
          refine (HLk.out wr).mono ?_
          rintro e w' ⟨rfl, rfl⟩
          go_wp2_with (at_builtin; have _t := Hrun; refine wpList_append_eq rfl (.tmp 27) (.tmp 29) 22 rfl _ _ _ _ rfl rfl Hrun.out ?_; clear _t Hrun)
          go_roundw
          case rel => exact ⟨j + 1, by go_num, by omega, by rw [HS2.out]; exact HO'.out, HB'.out⟩
          case measure => simp [intOf]; omega
        · have dB : (bits .and .i64 (j : Int) (k : Int) == (k : Int)) = false := by simpa using hBt
          have hs2 : parTo (k : Int) (j + 1) = parTo (k : Int) j := by rw [HS.out, if_neg (by simp [hBt])]
          have HS2 := Lib.hid hs2
          clear hBt hA hs2
          go_wp2_with fail
          refine HLj.out.mono ?_
          rintro e w' ⟨rfl, rfl⟩
          go_wp2_with fail
          refine (HLk.out wr).mono ?_
          rintro e w' ⟨rfl, rfl⟩
          go_wp2
          go_roundw
          case rel => exact ⟨j + 1, by go_num, by omega, by rw [HS2.out]; exact HO.out, HB.out⟩
          case measure => simp [intOf]; omega
      · have dA : (lj == lk + 1) = false := by simpa using hA
        have hs2 : parTo (k : Int) (j + 1) = parTo (k : Int) j := by rw [HS.out, if_neg (by simp [hA])]
        have HS2 := Lib.hid hs2
        clear hA hs2
        go_wp2_with fail
        refine HLj.out.mono ?_
        rintro e w' ⟨rfl, rfl⟩
        go_wp2_with fail
        refine (HLk.out wr).mono ?_
        rintro e w' ⟨rfl, rfl⟩
        go_wp2
        go_roundw
        case rel => exact ⟨j + 1, by go_num, by omega, by rw [HS2.out]; exact HO.out, HB.out⟩
        case measure => simp [intOf]; omega
    · obtain rfl : j = N := by omega
      have ho := HO.out
      rw [HALL.out] at ho
      have HO2 := Lib.hid ho
      clear ho
      go_wp2
      go_ret
      exact ⟨_, rfl, HO2.out, HB.out⟩
/-- The sets of one level, below one; of the levels from the highest on. -/
def lvlTo (l : Int) (j : Nat) : List Int := ((List.range j).map fun (s : Nat) => (s : Int)).filter fun s => decide (lvl s = l)
theorem lvlTo_succ (l : Int) (j : Nat) : lvlTo l (j + 1) = if lvl (j : Int) = l then lvlTo l j ++ [(j : Int)] else lvlTo l j := by
  unfold lvlTo
  rw [List.range_succ, List.map_append, List.filter_append, List.map_cons, List.map_nil, List.filter_cons, List.filter_nil]
  split <;> simp_all
theorem lvlTo_len (l : Int) (j : Nat) : (lvlTo l j).length ≤ j := by
  unfold lvlTo
  exact Nat.le_trans (List.length_filter_le _ _) (by simp)
def lvlsTo (d N : Nat) (m : Nat) : List Int := (List.range m).flatMap fun (t : Nat) => lvlTo ((d : Int) - (t : Int)) N
theorem lvlsTo_succ (d N m : Nat) : lvlsTo d N (m + 1) = lvlsTo d N m ++ lvlTo ((d : Int) - (m : Int)) N := by simp [lvlsTo, List.range_succ]
theorem lvlsTo_len (d N : Nat) : ∀ m, (lvlsTo d N m).length ≤ m * N
  | 0 => by simp [lvlsTo]
  | m + 1 => by
    rw [lvlsTo_succ, List.length_append, Nat.add_mul, Nat.one_mul]
    have := lvlsTo_len d N m
    have := lvlTo_len ((d : Int) - (m : Int)) N
    omega
theorem lvlsTo_all : ∀ d : Fin 5, 1 ≤ d.val → lvlsTo d.val (2 ^ d.val) (d.val + 1) = setsL d.val := by decide +kernel
set_option maxRecDepth 100000 in
set_option maxHeartbeats 4000000 in
theorem rSets_any (d : Nat) (w : World) (hd1 : 1 ≤ d) (hd : d ≤ 4) :
    Calls Tryz.prog 37 #[.int .i64 d] w fun e w' => ∃ v, e = .returned v ∧ OI w.heap.size w' v (setsL d) ∧ Below w.heap.size w w' := by
  obtain ⟨N, hN⟩ : ∃ N, N = 2 ^ d := ⟨_, rfl⟩
  obtain ⟨n16, n1⟩ := pow_16 d hd
  rw [← hN] at n16 n1
  have hsh : wrap64 (2 ^ d) = (N : Int) := by rw [shl_wrap d hd, hN, two_pow]
  have hall := lvlsTo_all ⟨d, by omega⟩ hd1
  dsimp only at hall
  rw [← hN] at hall
  have HALL := Lib.hid hall
  clear hN hall
  go_enter Tryz.func37, Tryz.ntmps37
  go_wp2
  go_loopw [3, 4] (fun v l wr => ∃ m : Nat, l = .int .i64 ((d : Int) - (m : Int)) ∧ m ≤ d + 1 ∧ OI w.heap.size wr v (lvlsTo d N m) ∧ Below w.heap.size w wr) (fun _ l _ => (intOf l + 1).toNat)
  case atStart => exact ⟨0, by simp, Nat.zero_le _, OI.nil _ _, Below.refl _ _⟩
  case round =>
    obtain ⟨m, rfl, hm, ho, hb⟩ := hrel
    rename World => wr
    have HO := Lib.hid ho
    have HB := Lib.hid hb
    clear ho hb
    by_cases hlt : m ≤ d
    · obtain ⟨l, hl⟩ : ∃ l, l = (d : Int) - (m : Int) := ⟨_, rfl⟩
      have l0 : 0 ≤ l := by omega
      have l1 : l ≤ d := by omega
      have HSn := Lib.hid (lvlsTo_succ d N m)
      rw [← hl] at HSn ⊢
      have HL := Lib.hid hl
      clear hl
      go_wp2
      go_loopw [3, 5] (fun v s wq => ∃ j : Nat, s = .int .i64 j ∧ j ≤ N ∧ OI w.heap.size wq v (lvlsTo d N m ++ lvlTo l j) ∧ Below w.heap.size w wq) (fun _ s _ => N - (intOf s).toNat)
      case atStart => exact ⟨0, rfl, Nat.zero_le _, by simpa [lvlTo] using HO.out, HB.out⟩
      case round =>
        obtain ⟨j, rfl, hj, ho, hb⟩ := hrel
        rename World => wq
        have HOq := Lib.hid ho
        have HBq := Lib.hid hb
        clear ho hb
        by_cases hjt : j < N
        · have hjz : (j : Int) < (N : Int) := by omega
          have HLj := Lib.hid (rLvl_any (j : Int) wq (by omega) (by omega))
          obtain ⟨lj, hlj⟩ : ∃ lj, lj = lvl (j : Int) := ⟨_, rfl⟩
          rw [← hlj] at HLj
          have hs := lvlTo_succ l j
          rw [← hlj] at hs
          have HS := Lib.hid hs
          clear hs hlj
          by_cases hA : lj = l
          · have dA : (lj == l) = true := by simp [hA]
            have hs2 : lvlsTo d N m ++ lvlTo l (j + 1) = (lvlsTo d N m ++ lvlTo l j) ++ [(j : Int)] := by rw [HS.out, if_pos hA, List.append_assoc]
            have HS2 := Lib.hid hs2
            obtain ⟨v', w', hrun, ho', hb'⟩ := oi_append (j : Int) HOq.out (by constructor <;> omega) (by
              have a := lvlTo_len l j
              have b := lvlsTo_len d N m
              have c : m * N ≤ 5 * 16 := Nat.mul_le_mul (by omega) (by omega)
              rw [List.length_append]; omega) HBq.out.size
            have Hrun := Lib.hid hrun
            have HO' := Lib.hid ho'
            have HB' := Lib.hid (HBq.out.trans hb')
            clear hA hs2 hrun ho' hb'
            go_wp2_with fail
            refine HLj.out.mono ?_
            rintro e w' ⟨rfl, rfl⟩
            go_wp2_with (at_builtin; have _t := Hrun; refine wpList_append_eq rfl (.tmp 22) (.tmp 24) 22 rfl _ _ _ _ rfl rfl Hrun.out ?_; clear _t Hrun)
            go_roundw
            case rel => exact ⟨j + 1, by go_num, by omega, by rw [HS2.out]; exact HO'.out, HB'.out⟩
            case measure => simp [intOf]; omega
          · have dA : (lj == l) = false := by simpa using hA
            have hs2 : lvlsTo d N m ++ lvlTo l (j + 1) = lvlsTo d N m ++ lvlTo l j := by rw [HS.out, if_neg hA]
            have HS2 := Lib.hid hs2
            clear hA hs2
            go_wp2_with fail
            refine HLj.out.mono ?_
            rintro e w' ⟨rfl, rfl⟩
            go_wp2
            go_roundw
            case rel => exact ⟨j + 1, by go_num, by omega, by rw [HS2.out]; exact HOq.out, HBq.out⟩
            case measure => simp [intOf]; omega
        · obtain rfl : j = N := by omega
          go_wp2
          go_roundw
          case rel => exact ⟨m + 1, by rw [HL.out]; go_num, by omega, by rw [HSn.out]; exact HOq.out, HBq.out⟩
          case measure => simp [intOf]; omega
    · obtain rfl : m = d + 1 := by omega
      have ho := HO.out
      rw [HALL.out] at ho
      have HO2 := Lib.hid ho
      have hneg : ¬ (0 ≤ (d : Int) - ((d + 1 : Nat) : Int)) := by omega
      clear ho
      go_wp2
      go_ret
      exact ⟨_, rfl, HO2.out, HB.out⟩
end Go.Proofs.YtjllmladhjbnaaaGreatDoor
