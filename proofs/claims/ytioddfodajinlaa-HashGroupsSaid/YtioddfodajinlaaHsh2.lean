/- The hash of a key. -/
import Derived.RowKit
import Derived.IntWalk
import Derived.Test.YtioddfodajinlaaCel3
namespace Go.Proofs.Ytioddfodajinlaa
/-- A key's place among so many slots. -/
def hashI (key : List Int) : Int := key.foldl (fun h v => (31 * h + v + 1) % 1000003) 7
def plcN (key : List Int) (n : Nat) : Nat := (hashI key).toNat % n
theorem plcN_lt (key : List Int) {n : Nat} (h : 0 < n) : plcN key n < n := Nat.mod_lt _ h
theorem hashI_snoc (key : List Int) (v : Int) : hashI (key ++ [v]) = (31 * hashI key + v + 1) % 1000003 := by
  unfold hashI
  rw [List.foldl_append]; rfl
theorem hashI_take {key : List Int} {k : Nat} {v : Int} (h : key[k]? = some v) : hashI (key.take (k + 1)) = (31 * hashI (key.take k) + v + 1) % 1000003 := by
  rw [List.take_add_one, h]; exact hashI_snoc _ v
theorem hashI_in (key : List Int) : 0 ≤ hashI key ∧ hashI key ≤ 1000002 := by
  unfold hashI
  have : ∀ (l : List Int) (h : Int), 0 ≤ h ∧ h ≤ 1000002 → 0 ≤ l.foldl (fun h v => (31 * h + v + 1) % 1000003) h ∧ l.foldl (fun h v => (31 * h + v + 1) % 1000003) h ≤ 1000002 := by
    intro l
    induction l with
    | nil => intro h hh; exact hh
    | cons v l ih => intro h _; exact ih _ (by show 0 ≤ (31 * h + v + 1) % 1000003 ∧ (31 * h + v + 1) % 1000003 ≤ 1000002; omega)
  exact this key 7 (by omega)
theorem plcN_mod (key : List Int) (n : Nat) : (plcN key n : Int) = hashI key % (n : Int) := by
  have := hashI_in key
  unfold plcN
  rw [Int.natCast_emod, Int.toNat_of_nonneg this.1]
end Go.Proofs.Ytioddfodajinlaa
/- Package hash: keys within bounds, their places, whether two are alike. -/
namespace Go.Proofs.Ytioddfodajinlaa
open Go.RowKit
attribute [local go_sem] Oper.semAt_some
theorem hwi_any (n lo hi : Int) (w : World) : Calls Try.prog 29 #[.int .i64 n, .int .i64 lo, .int .i64 hi] w fun e w' => e = .returned (.bool (decide (lo ≤ n ∧ n ≤ hi))) ∧ w = w' := by
  by_cases h1 : lo ≤ n
  · by_cases h2 : n ≤ hi
    · have hh : decide (lo ≤ n ∧ n ≤ hi) = true := decide_eq_true ⟨h1, h2⟩
      have d1 := decide_eq_true h1
      have d2 := decide_eq_true h2
      rw [hh]
      clear hh
      go_enter Try.func29, Try.ntmps29
      go_wp2
      go_ret
      exact ⟨rfl, rfl⟩
    · have hh : decide (lo ≤ n ∧ n ≤ hi) = false := decide_eq_false fun h => h2 h.2
      have d1 := decide_eq_true h1
      have d2 := decide_eq_false h2
      rw [hh]
      clear hh
      go_enter Try.func29, Try.ntmps29
      go_wp2
      go_ret
      exact ⟨rfl, rfl⟩
  · have hh : decide (lo ≤ n ∧ n ≤ hi) = false := decide_eq_false fun h => h1 h.1
    have d1 := decide_eq_false h1
    rw [hh]
    clear hh
    go_enter Try.func29, Try.ntmps29
    go_wp2
    go_ret
    exact ⟨rfl, rfl⟩
def okK (key : List Int) : Bool := key.all fun v => decide (0 ≤ v ∧ v ≤ 15)
set_option maxHeartbeats 1000000 in
theorem inB_any (A : Option Addr) (n c : Nat) (xs : List Int) (w : World) (hx : Nums .i64 w A n xs) (hn : n ≤ 1000000) :
    Calls Try.prog 37 #[.slice A n c] w fun e w' => e = .returned (.bool (okK xs)) ∧ w = w' := by
  have HX := Lib.hid hx
  clear hx
  go_enter Try.func37, Try.ntmps37
  go_wp2
  go_loopw [7] (fun i wr => ∃ k : Nat, i = .int .i64 k ∧ k ≤ n ∧ okK (xs.take k) = true ∧ w = wr) (fun i _ => n - (intOf i).toNat)
  case atStart => exact ⟨0, rfl, Nat.zero_le _, rfl, rfl⟩
  case round =>
    obtain ⟨k, rfl, hk, ht, rfl⟩ := hrel
    have HT := Lib.hid ht
    clear ht
    by_cases hkn : k < n
    · obtain ⟨ad, x, rfl, hxk, hxi, hcx⟩ := HX.out.at_ hkn
      have HW := Lib.hid (hwi_any x 0 15 w)
      have HK := Lib.hid hxk
      have k0 : (0 : Int) ≤ (k : Int) := by omega
      have k1 : (k : Int) < (n : Int) := by omega
      clear hxk hxi
      by_cases ho : 0 ≤ x ∧ x ≤ 15
      · rw [decide_eq_true ho] at HW
        go_wp2_with fail
        refine HW.out.mono ?_
        rintro e w' ⟨rfl, rfl⟩
        go_wp2
        go_roundw
        case rel => exact ⟨k + 1, by go_num, by omega, by rw [List.take_add_one, HK.out]; unfold okK at HT ⊢; rw [Option.toList_some, List.all_append, HT.out]; simp [ho], trivial⟩
        case measure => simp [intOf]; omega
      · rw [decide_eq_false ho] at HW
        go_wp2_with fail
        refine HW.out.mono ?_
        rintro e w' ⟨rfl, rfl⟩
        go_wp2
        go_ret
        refine ⟨?_, rfl⟩
        have : okK xs = false := by
          cases hb : okK xs with
          | false => rfl
          | true =>
            unfold okK at hb
            rw [List.all_eq_true] at hb
            have := hb x (List.mem_of_getElem? HK.out)
            exact absurd (of_decide_eq_true this) ho
        rw [this]; rfl
    · obtain rfl : k = n := by omega
      have ht := HT.out
      rw [List.take_of_length_le (Nat.le_of_eq HX.out.len)] at ht
      have HT2 := Lib.hid ht
      clear ht
      go_wp2
      go_ret
      exact ⟨by rw [HT2.out]; rfl, rfl⟩
set_option maxRecDepth 100000 in
set_option maxHeartbeats 4000000 in
/-- Where a cell is looked for. -/
theorem hplace_any (k s n m : Value) (x : Cel) (w : World) (hx : CR w k s n m x) (hl : x.key.length ≤ 1000) (hok : okK x.key = true) :
    Calls Try.prog 103 #[.agg #[k, .int .i64 x.cnt, s, n, m]] w fun e w' => e = .returned (.int .i64 (hashI x.key)) ∧ Below w.heap.size w w' := by
  obtain ⟨⟨Pk, ck, rfl, hk, -⟩, ⟨Ps, cs, rfl, -⟩, ⟨Pn, cn, rfl, -⟩, ⟨Pm, cm, rfl, -⟩⟩ := hx
  obtain ⟨key, hkey⟩ : ∃ key, key = x.key := ⟨_, rfl⟩
  rw [← hkey] at hk hl hok ⊢
  obtain ⟨K, hK⟩ : ∃ K, K = key.length := ⟨_, rfl⟩
  rw [← hK] at hk hl ⊢
  have HK := Lib.hid hk
  have HO : Hid (∀ v ∈ key, 0 ≤ v ∧ v ≤ 15) := Lib.hid (fun v hv => by
    unfold okK at hok
    rw [List.all_eq_true] at hok
    exact of_decide_eq_true (hok v hv))
  have HKL := Lib.hid hK
  obtain ⟨cnt, hcnt⟩ : ∃ z, z = x.cnt := ⟨_, rfl⟩
  obtain ⟨ls, hls⟩ : ∃ z, z = x.sum.length := ⟨_, rfl⟩
  obtain ⟨ln, hln⟩ : ∃ z, z = x.mn.length := ⟨_, rfl⟩
  obtain ⟨lm, hlm⟩ : ∃ z, z = x.mx.length := ⟨_, rfl⟩
  rw [← hcnt, ← hls, ← hln, ← hlm]
  clear hk hok hkey hK hcnt hls hln hlm
  have hb : Below w.heap.size w (w.alloc (.cells #[.slice Pk K ck, .int .i64 cnt, .slice Ps ls cs, .slice Pn ln cn, .slice Pm lm cm] 67)) := (Below.refl _ w).alloc (Nat.le_refl _) _
  have hz : (w.alloc (.cells #[.slice Pk K ck, .int .i64 cnt, .slice Ps ls cs, .slice Pn ln cn, .slice Pm lm cm] 67)).heap.size = w.heap.size + 1 := by simp
  have hc : (w.alloc (.cells #[.slice Pk K ck, .int .i64 cnt, .slice Ps ls cs, .slice Pn ln cn, .slice Pm lm cm] 67)).cell? ⟨w.heap.size, 0, none⟩ = some (.slice Pk K ck) := cell_of_row _ _ 0 _ _ (0, 0) (heap_alloc_new w _)
  go_enter Try.func103, Try.ntmps103
  go_upto_region 1 with (fail)
  generalize w.alloc (.cells #[.slice Pk K ck, .int .i64 cnt, .slice Ps ls cs, .slice Pn ln cn, .slice Pm lm cm] 67) = w1 at hb hz hc ⊢
  have HN := Lib.hid (HK.out.keep (Keeps.of_below hb))
  have HB := Lib.hid hb
  clear hb HK hz
  go_wp2
  go_loopw [3, 9] (fun h i wr => ∃ j : Nat, i = .int .i64 j ∧ j ≤ K ∧ h = .int .i64 (hashI (key.take j)) ∧ w1 = wr) (fun _ i _ => K - (intOf i).toNat)
  case atStart => exact ⟨0, rfl, Nat.zero_le _, rfl, rfl⟩
  case round =>
    obtain ⟨j, rfl, hj, rfl, rfl⟩ := hrel
    by_cases hjK : j < K
    · obtain ⟨ad, v, rfl, hv, -, hcv⟩ := HN.out.at_ hjK
      obtain ⟨v0, v1⟩ := HO.out v (List.mem_of_getElem? hv)
      obtain ⟨g0, g1⟩ := hashI_in (key.take j)
      have HS := Lib.hid (hashI_take hv)
      obtain ⟨h, hh⟩ : ∃ h, h = hashI (key.take j) := ⟨_, rfl⟩
      rw [← hh] at g0 g1 HS ⊢
      have j0 : (0 : Int) ≤ (j : Int) := by omega
      have j1 : (j : Int) < (K : Int) := by omega
      clear hv hh
      go_wp2
      go_roundw
      case rel => exact ⟨j + 1, by go_num, by omega, by rw [HS.out], trivial⟩
      case measure => simp [intOf]; omega
    · obtain rfl : j = K := by omega
      have ht : key.take j = key := List.take_of_length_le (by rw [← HKL.out]; exact Nat.le_refl _)
      rw [ht]
      go_wp2
      go_ret
      exact ⟨rfl, HB.out⟩
set_option maxRecDepth 100000 in
set_option maxHeartbeats 4000000 in
/-- Whether two cells have one key. -/
theorem like_any (k s n m k' s' n' m' : Value) (x y : Cel) (w : World) (hx : CR w k s n m x) (hy : CR w k' s' n' m' y) (h1 : x.key.length ≤ 1000000) (h2 : y.key.length ≤ 1000000) :
    Calls Try.prog 102 #[.agg #[k, .int .i64 x.cnt, s, n, m], .agg #[k', .int .i64 y.cnt, s', n', m']] w fun e w' => e = .returned (.bool (decide (x.key = y.key))) ∧ Below w.heap.size w w' := by
  have hd : (cmpL x.key y.key == 0) = decide (x.key = y.key) := by
    by_cases h : x.key = y.key
    · rw [decide_eq_true h, h, cmpL_self]; rfl
    · rw [decide_eq_false h, beq_eq_false_iff_ne]; exact fun e => h (cmpL_zero.1 e)
  rw [← hd]
  obtain ⟨rk, ⟨Ps, cs, rfl, -⟩, ⟨Pn, cn, rfl, -⟩, ⟨Pm, cm, rfl, -⟩⟩ := hx
  obtain ⟨rk', ⟨Ps', cs', rfl, -⟩, ⟨Pn', cn', rfl, -⟩, ⟨Pm', cm', rfl, -⟩⟩ := hy
  have hL := fun (W : World) (hk : Keeps w W) => less_any k k' x.key y.key W (rk.keep hk) (rk'.keep hk) h1 h2
  obtain ⟨Pk, ck, rfl, -⟩ := rk
  obtain ⟨Pk', ck', rfl, -⟩ := rk'
  obtain ⟨cq, hcq⟩ : ∃ z, z = cmpL x.key y.key := ⟨_, rfl⟩
  rw [← hcq] at hL ⊢
  obtain ⟨c1, e1⟩ : ∃ z, z = x.cnt := ⟨_, rfl⟩
  obtain ⟨c2, e2⟩ : ∃ z, z = y.cnt := ⟨_, rfl⟩
  obtain ⟨l1, f1⟩ : ∃ z, z = x.key.length := ⟨_, rfl⟩
  obtain ⟨l2, f2⟩ : ∃ z, z = x.sum.length := ⟨_, rfl⟩
  obtain ⟨l3, f3⟩ : ∃ z, z = x.mn.length := ⟨_, rfl⟩
  obtain ⟨l4, f4⟩ : ∃ z, z = x.mx.length := ⟨_, rfl⟩
  obtain ⟨m1, g1⟩ : ∃ z, z = y.key.length := ⟨_, rfl⟩
  obtain ⟨m2, g2⟩ : ∃ z, z = y.sum.length := ⟨_, rfl⟩
  obtain ⟨m3, g3⟩ : ∃ z, z = y.mn.length := ⟨_, rfl⟩
  obtain ⟨m4, g4⟩ : ∃ z, z = y.mx.length := ⟨_, rfl⟩
  rw [← f1, ← g1] at hL
  rw [← e1, ← e2, ← f1, ← f2, ← f3, ← f4, ← g1, ← g2, ← g3, ← g4]
  have HL := Lib.hid hL
  clear hL h1 h2 e1 e2 f1 f2 f3 f4 g1 g2 g3 g4 hd hcq
  obtain ⟨w1, hw1⟩ : ∃ w1, w1 = w.alloc (.cells #[.slice Pk l1 ck, .int .i64 c1, .slice Ps l2 cs, .slice Pn l3 cn, .slice Pm l4 cm] 67) := ⟨_, rfl⟩
  obtain ⟨w2, hw2⟩ : ∃ w2, w2 = w1.alloc (.cells #[.slice Pk' m1 ck', .int .i64 c2, .slice Ps' m2 cs', .slice Pn' m3 cn', .slice Pm' m4 cm'] 67) := ⟨_, rfl⟩
  have z1 : w1.heap.size = w.heap.size + 1 := by rw [hw1]; simp
  have hb1 : Below w.heap.size w w1 := by rw [hw1]; exact (Below.refl _ w).alloc (Nat.le_refl _) _
  have hb2 : Below w1.heap.size w1 w2 := by rw [hw2]; exact (Below.refl _ w1).alloc (Nat.le_refl _) _
  have hc1 : w1.cell? ⟨w.heap.size, 0, none⟩ = some (.slice Pk l1 ck) := by rw [hw1]; exact cell_of_row _ _ 0 _ _ (0, 0) (heap_alloc_new w _)
  have hc2 : w2.cell? ⟨w1.heap.size, 0, none⟩ = some (.slice Pk' m1 ck') := by rw [hw2]; exact cell_of_row _ _ 0 _ _ (0, 0) (heap_alloc_new w1 _)
  have hc1' := Keeps.of_below hb2 _ _ hc1
  have HB := Lib.hid (hb1.trans (hb2.mono hb1.size))
  obtain ⟨b1, hb⟩ : ∃ b, b = w.heap.size := ⟨_, rfl⟩
  rw [← hb] at hc1'
  rw [z1, ← hb] at hc2
  go_enter Try.func102, Try.ntmps102
  go_upto_region 1 with (fail)
  rw [← hw1, ← hw2, ← hb]
  clear hw1 hw2 hc1 hb1 hb2 hb z1
  go_wp2_with fail
  refine (HL.out w2 (Keeps.of_below HB.out)).mono ?_
  rintro e w' ⟨rfl, rfl⟩
  go_wp2
  go_ret
  exact ⟨rfl, HB.out⟩
end Go.Proofs.Ytioddfodajinlaa
/- Package hash: cells that may be kept, their shape. -/
namespace Go.Proofs.Ytioddfodajinlaa
open Go.RowKit
attribute [local go_sem] Oper.semAt_some
set_option maxRecDepth 100000 in
set_option maxHeartbeats 4000000 in
/-- Whether an even cell may be kept. -/
theorem hproper_any (Pk Ps Pn Pm : Option Addr) (K ck me cs cn cm : Nat) (cnt : Int) (key : List Int) (w : World) (hk : Nums .i64 w Pk K key) (hl : K ≤ 1000000) :
    Calls Try.prog 31 #[.agg #[.slice Pk K ck, .int .i64 cnt, .slice Ps me cs, .slice Pn me cn, .slice Pm me cm]] w fun e w' => e = .returned (.bool (okK key)) ∧ Below w.heap.size w w' := by
  have o1 : Own 39 (w.alloc (.cells #[.slice Pk K ck, .int .i64 cnt, .slice Ps me cs, .slice Pn me cn, .slice Pm me cm] 39)) w.heap.size [.slice Pk K ck, .int .i64 cnt, .slice Ps me cs, .slice Pn me cn, .slice Pm me cm] := heap_alloc_new w _
  have hb : Below w.heap.size w (w.alloc (.cells #[.slice Pk K ck, .int .i64 cnt, .slice Ps me cs, .slice Pn me cn, .slice Pm me cm] 39)) := (Below.refl _ w).alloc (Nat.le_refl _) _
  obtain ⟨ok, eok⟩ : ∃ z, z = okK key := ⟨_, rfl⟩
  rw [← eok]
  go_enter Try.func31, Try.ntmps31
  go_upto_region 1 with (fail)
  generalize w.alloc (.cells #[.slice Pk K ck, .int .i64 cnt, .slice Ps me cs, .slice Pn me cn, .slice Pm me cm] 39) = w1 at hb o1 ⊢
  have hi := inB_any Pk K ck key w1 (hk.keep (Keeps.of_below hb)) hl
  rw [← eok] at hi
  have HI := Lib.hid hi
  have HB := Lib.hid hb
  obtain ⟨b, eb⟩ : ∃ b, b = w.heap.size := ⟨_, rfl⟩
  rw [← eb] at o1 ⊢
  obtain ⟨h0, h1, h2, h3, h4⟩ := o1.bx
  have dmm : ((me : Int) == (me : Int)) = true := by simp
  clear hk hb o1 eok eb hi
  cases ok with
  | true =>
    go_wp2_with fail
    refine HI.out.mono ?_
    rintro e w' ⟨rfl, rfl⟩
    go_wp2
    go_ret
    exact ⟨rfl, HB.out⟩
  | false =>
    go_wp2_with fail
    refine HI.out.mono ?_
    rintro e w' ⟨rfl, rfl⟩
    go_wp2
    go_ret
    exact ⟨rfl, HB.out⟩
set_option maxRecDepth 100000 in
set_option maxHeartbeats 4000000 in
/-- A cell's shape. -/
theorem hshape_any (Pk Ps Pn Pm : Option Addr) (K ck l2 cs l3 cn l4 cm : Nat) (cnt : Int) (w : World) :
    Calls Try.prog 30 #[.agg #[.slice Pk K ck, .int .i64 cnt, .slice Ps l2 cs, .slice Pn l3 cn, .slice Pm l4 cm]] w fun e w' => e = .returned (.agg #[.int .i64 K, .int .i64 l2]) ∧ Below w.heap.size w w' := by
  obtain ⟨w1, hw1⟩ : ∃ w1, w1 = w.alloc (.cells #[.slice Pk K ck, .int .i64 cnt, .slice Ps l2 cs, .slice Pn l3 cn, .slice Pm l4 cm] 39) := ⟨_, rfl⟩
  obtain ⟨w2, hw2⟩ : ∃ w2, w2 = w1.alloc (.cells #[.int .i64 0, .int .i64 0] 59) := ⟨_, rfl⟩
  have z1 : w1.heap.size = w.heap.size + 1 := by rw [hw1]; simp
  have hb1 : Below w.heap.size w w1 := by rw [hw1]; exact (Below.refl _ w).alloc (Nat.le_refl _) _
  have hb2 : Below w1.heap.size w1 w2 := by rw [hw2]; exact (Below.refl _ w1).alloc (Nat.le_refl _) _
  have o1 : Own 39 w1 w.heap.size [.slice Pk K ck, .int .i64 cnt, .slice Ps l2 cs, .slice Pn l3 cn, .slice Pm l4 cm] := by rw [hw1]; exact heap_alloc_new w _
  have o2 : Own 59 w2 w1.heap.size [.int .i64 0, .int .i64 0] := by rw [hw2]; exact heap_alloc_new w1 _
  have k2 := Keeps.of_below hb2
  obtain ⟨h0, h1, h2, h3, h4⟩ := o1.bx.keep k2
  have s0 := o2.cell (i := 0) rfl
  have s1 := o2.cell (i := 1) rfl
  have z0 := o2.frozen 0
  have z4 := o2.frozen 1
  rw [z1] at s0 s1 z0 z4
  have HB := Lib.hid (hb1.trans (hb2.mono hb1.size))
  go_enter Try.func30, Try.ntmps30
  go_upto_region 1 with (fail)
  rw [← hw1, ← hw2]
  clear hw1 hw2 o1 o2 hb1 hb2 k2
  have hbf : Below w.heap.size w ((w2.setCell ⟨w.heap.size + 1, 0, none⟩ (.int .i64 (K : Int))).setCell ⟨w.heap.size + 1, 1, none⟩ (.int .i64 (l2 : Int))) := (HB.out.setCell (p := ⟨w.heap.size + 1, 0, none⟩) (by simp) _).setCell (p := ⟨w.heap.size + 1, 1, none⟩) (by simp) _
  have Hbf := Lib.hid hbf
  clear hbf
  go_wp2
  exact bodyPost_ret (v := .agg #[.int .i64 (K : Int), .int .i64 (l2 : Int)]) (by simp [results, Try.results30, go_sem, s0, s1]) rfl ⟨rfl, Hbf.out⟩
end Go.Proofs.Ytioddfodajinlaa
