/- The law HashPlaces. -/
import Derived.IntWalk
import Derived.Test.YtgjcbbpmcojcoaaHsho
import Derived.Test.YtgjcbbpmcojcoaaHshr1
import Derived.Test.YtgjcbbpmcojcoaaMake
import Derived.Test.YtgjcbbpmcojcoaaFactsLaw2
import Derived.Test.YtgjcbbpmcojcoaaIsRow
namespace Go.Proofs.Ytgjcbbpmcojcoaa
open Go.RowKit
attribute [local go_sem] Oper.semAt_some
theorem seek_new {n : Nat} (hn : 1 ≤ n) (key : List Int) : seekT (List.replicate n none) key = some (plcN key n) := by
  obtain ⟨m, rfl⟩ : ∃ m, n = m + 1 := ⟨n - 1, by omega⟩
  unfold seekT
  rw [List.length_replicate]
  unfold seekF
  rw [List.getElem?_replicate, if_pos (plcN_lt key (Nat.succ_pos m))]
theorem seek_one {n at_ : Nat} (hn : 2 ≤ n) (ha : at_ < n) (x : Cel) (key : List Int) : seekT ((List.replicate n none).set at_ (some x)) key = some (if plcN key n = at_ then (if x.key = key then at_ else (at_ + 1) % n) else plcN key n) := by
  obtain ⟨m, rfl⟩ : ∃ m, n = m + 1 + 1 := ⟨n - 2, by omega⟩
  have hp := plcN_lt key (show 0 < m + 1 + 1 by omega)
  unfold seekT
  rw [List.length_set, List.length_replicate]
  unfold seekF
  rw [List.length_set, List.length_replicate]
  by_cases h : plcN key (m + 1 + 1) = at_
  · rw [h, if_pos rfl, List.getElem?_set_self (by rw [List.length_replicate]; exact ha)]
    by_cases hk : x.key = key
    · simp only [if_pos hk]
    · simp only [if_neg hk]
      have hq : (at_ + 1) % (m + 1 + 1) < m + 1 + 1 := Nat.mod_lt _ (by omega)
      have hne : at_ ≠ (at_ + 1) % (m + 1 + 1) := by
        rcases Nat.lt_or_ge (at_ + 1) (m + 1 + 1) with h1 | h1
        · rw [Nat.mod_eq_of_lt h1]; omega
        · obtain rfl : at_ = m + 1 := by omega
          rw [Nat.mod_self]; omega
      unfold seekF
      rw [List.getElem?_set_ne hne, List.getElem?_replicate, if_pos hq]
  · rw [if_neg h, List.getElem?_set_ne (fun e => h e.symm), List.getElem?_replicate, if_pos hp]
theorem cells_set {ts : List (Option Cel)} {i : Nat} (h : i < ts.length) (b : Cel) : cellsT (ts.set i (some b)) = cellsT (ts.take i) ++ b :: cellsT (ts.drop (i + 1)) := by
  rw [List.set_eq_take_append_cons_drop, if_pos h]
  simp [cellsT]
theorem cells_one {n i : Nat} (h : i < n) (a : Cel) : cellsT ((List.replicate n none).set i (some a)) = [a] := by
  rw [cells_set (by rw [List.length_replicate]; exact h), List.take_replicate, List.drop_replicate, cells_new, cells_new]
  rfl
theorem cells_two {n i p : Nat} (h : i < n) (hp : p < n) (hne : i ≠ p) (a b : Cel) : cellsT (((List.replicate n none).set i (some a)).set p (some b)) = if i < p then [a, b] else [b, a] := by
  rw [cells_set (by rw [List.length_set, List.length_replicate]; exact hp), List.take_set, List.drop_set, List.take_replicate, List.drop_replicate, Nat.min_eq_left (Nat.le_of_lt hp)]
  by_cases hi : i < p
  · rw [if_pos hi, if_pos (by omega), cells_one (by omega), cells_new]
    rfl
  · rw [if_neg hi, if_neg (by omega), List.set_eq_of_length_le (l := List.replicate p none) (by rw [List.length_replicate]; omega), cells_new, cells_one (by omega)]
    rfl
theorem join_11 (ks : List Int) : join2 ⟨ks, 1, [], [], []⟩ ⟨ks, 1, [], [], []⟩ = ⟨ks, 2, [], [], []⟩ := by
  have : wrap64 2 = 2 := by first | rfl | (unfold wrap64; rfl) | (unfold wrap64; omega) | decide +kernel
  simp [join2, this, addL, minL, maxL]
theorem set_mem {n i : Nat} {a : Cel} {j : Nat} {y : Cel} (h : ((List.replicate n none).set i (some a))[j]? = some (some y)) : y = a := by
  rw [List.getElem?_set] at h
  split at h
  · split at h
    · injection h with h; injection h with h; exact h.symm
    · cases h
  · exact (none_at n h).elim
theorem lit_ints {W : World} {ad : Addr} {n c : Nat} {xs : List Int} (hn : Nums .i64 W (some ad) n xs) (hm : n ≤ 1000000) (h1 : 1 ≤ n) :
    ∃ g c' W', (Builtin.append_ #[22, 22] 22 #[.slice (some ⟨W.heap.size, 0, none⟩) 0 0, .slice (some ad) n c]).run Try.prog (W.alloc (.cells #[] 3)) = .ok (.slice (some ⟨g, 0, none⟩) n c') W' ∧ W.heap.size ≤ g ∧ OI W.heap.size W' (.slice (some ⟨g, 0, none⟩) n c') xs ∧ Below W.heap.size W W' := by
  obtain ⟨i0, hi, hz0, hz1, hz2⟩ := info_parts infoI
  have hl : xs.length = n := hn.1
  have hlit : (W.alloc (.cells #[] 3)).ownsRow W.heap.size 3 1 (.slice (some ⟨W.heap.size, 0, none⟩) 0 0) 0 [] := World.ownsRow_made W #[] 0 (Nat.le_refl _) (by simp [maxLen]) (by simp)
  have hb : Below W.heap.size W (W.alloc (.cells #[] 3)) := (Below.refl _ _).alloc (Nat.le_refl _) _
  obtain ⟨v', W', hrun, ho, hgr, _⟩ := run_append_own_at (P := Try.prog) (W.alloc (.cells #[] 3)) W.heap.size 22 22 3 i0 _ 1 8 Try.underlying22 hi hz0 hz1 hz2 rfl (by omega) _ 0 [] hlit ad n c (ints xs) (by rw [ints_len]; omega)
    (fun j u hu => (Keeps.of_below hb) _ _ (hn.cells_i rfl j u hu)) (ints_one _) (by simp [maxLen]; omega) (by omega) hb.size
  rw [Nat.zero_add, List.nil_append] at ho
  have hbw : Below W.heap.size W W' := hb.grown hgr hb.size fun j e => (hlit.lt j e).1
  obtain ⟨P2, c2, hv, -, -, h5⟩ := own_form ho
  obtain ⟨g, rfl, h6, -⟩ := h5 (by omega)
  subst hv
  exact ⟨g, c2, W', hrun, h6, ⟨by rw [hl]; exact ho, hn.2.1⟩, hbw⟩
set_option maxRecDepth 100000 in
set_option maxHeartbeats 8000000 in
theorem hashPlaces_walk (a0 : Option Addr) (len0 cap0 : Nat) (z0 : List Int) (a1 : Int) (w : World) (w0 : IsRow .i64 w a0 len0 cap0 z0) (h1 : inK .i64 a1) :
    Calls Try.prog 9 #[.slice a0 len0 cap0, .int .i64 a1] w fun e w' => e = .returned (.bool true) ∧ Below w.heap.size w w' := by
  obtain ⟨n0, lc0, cm0⟩ := w0.nums
  generalize z0.take len0 = zs at n0
  have N0 := Lib.hid n0
  have HKn := Lib.hid (hknown_any w)
  clear w0 n0
  go_enter Try.func9, Try.ntmps9
  go_wp2_with fail
  refine HKn.out.mono ?_
  rintro e w1 ⟨rfl, hb1⟩
  have Hb1 := Lib.hid hb1
  clear hb1 HKn
  go_upto_block 0 with (fail)
  have HW16 := Lib.hid (fun (x : Int) (W : World) (h : inK .i64 x) => lwithin7 x 16 W h (by omega) (by omega))
  go_cut [5] (fun kv wr => ∃ ks : List Int, ks.length ≤ 4 ∧ (∀ v ∈ ks, 0 ≤ v ∧ v ≤ 15) ∧ OI w1.heap.size wr kv ks ∧ Below w1.heap.size w1 wr)
  case first =>
    go_wp2_with fail
    go_loopw [5, 6] (fun kv i wr => ∃ j : Nat, i = .int .i64 j ∧ j ≤ len0 ∧ j ≤ 4 ∧ OI w1.heap.size wr kv ((zs.take j).map (· % 16)) ∧ Below w1.heap.size w1 wr) (fun _ i _ => len0 - (intOf i).toNat)
    case atStart => exact ⟨0, rfl, Nat.zero_le _, Nat.zero_le _, OI.nil _ _, Below.refl _ _⟩
    case round =>
      obtain ⟨j, rfl, hj, hj4, ho, hb⟩ := hrel
      rename World => wr
      have hjl : (zs.take j).length = j := by rw [List.length_take, N0.out.1]; omega
      by_cases hlt : j < len0 ∧ j < 4
      · obtain ⟨hl1, hl2⟩ := hlt
        have i0 : (0 : Int) ≤ (j : Int) := by omega
        have i1 : (j : Int) < (len0 : Int) := by omega
        have i2 : (j : Int) < 4 := by omega
        have d1 : decide ((j : Int) < (len0 : Int)) = true := decide_eq_true i1
        have d2 : decide ((j : Int) < 4) = true := decide_eq_true i2
        obtain ⟨ad, y, rfl, hy, hyk, hyc⟩ := (N0.out.keep (Keeps.of_below (Hb1.out.trans (hb.mono Hb1.out.size)))).at_ hl1
        obtain ⟨v', w', hrun, ho', hgr⟩ := append_int wr w1.heap.size _ _ (y % 16) wr.heap.size rfl ho.1 (by rw [List.length_map, hjl]; omega) hb.size
        have hxs : (zs.take (j + 1)).map (· % 16) = (zs.take j).map (· % 16) ++ [y % 16] := by rw [List.take_add_one, hy, Option.toList_some, List.map_append]; rfl
        have ho2 : OI w1.heap.size w' v' ((zs.take (j + 1)).map (· % 16)) := by
          rw [hxs]
          refine ⟨ho', fun z hz => ?_⟩
          rcases List.mem_append.1 hz with h | h
          · exact ho.2 z h
          · rw [List.mem_singleton] at h
            subst h
            exact ⟨by omega, by omega⟩
        have hb2 : Below w1.heap.size w1 w' := ((hb.alloc hb.size _)).grown hgr (hb.alloc hb.size _).size fun q hq => (ho.1.lt q hq).1
        have Hrun := Lib.hid hrun
        have Ho2 := Lib.hid ho2
        have HbN := Lib.hid hb2
        have Hy := Lib.hid hyk
        clear hrun ho' hgr hxs ho2 hb2 ho hb hy hyk hjl
        go_wp2_with fail
        refine (HW16.out y wr Hy.out).mono ?_
        rintro e w' ⟨rfl, rfl⟩
        go_wp2_with (at_builtin; have _t := Hrun; refine wpList_append_eq rfl (.tmp 26) (.tmp 32) 22 rfl _ _ _ _ rfl rfl Hrun.out ?_; clear _t Hrun)
        go_roundw
        case rel => exact ⟨j + 1, by go_num, by omega, by omega, Ho2.out, HbN.out⟩
        case measure => simp [intOf]; omega
      · have Ho := Lib.hid ho
        have Hb := Lib.hid hb
        clear ho hb
        by_cases hl1 : j < len0
        · have d1 : decide ((j : Int) < (len0 : Int)) = true := decide_eq_true (by omega)
          have d2 : decide ((j : Int) < 4) = false := decide_eq_false (by omega)
          go_wp2
          go_meet
          exact ⟨_, by rw [List.length_map, hjl]; omega, fun v hv => by
            obtain ⟨z, -, rfl⟩ := List.mem_map.1 hv
            omega, Ho.out, Hb.out⟩
        · have d1 : decide ((j : Int) < (len0 : Int)) = false := decide_eq_false (by omega)
          go_wp2
          go_meet
          exact ⟨_, by rw [List.length_map, hjl]; omega, fun v hv => by
            obtain ⟨z, -, rfl⟩ := List.mem_map.1 hv
            omega, Ho.out, Hb.out⟩
  case rest =>
    obtain ⟨ks, hk4, hk15, ho, hb⟩ := hcut
    rename World => wa
    obtain ⟨P, c, rfl, hc1, hc2, nk, hP0⟩ := ho.form
    have Hb := Lib.hid (Hb1.out.trans (hb.mono Hb1.out.size))
    have hok : okK ks = true := by
      unfold okK
      rw [List.all_eq_true]
      exact fun v hv => decide_eq_true (hk15 v hv)
    obtain ⟨K, hK⟩ : ∃ K, K = ks.length := ⟨_, rfl⟩
    rw [← hK] at nk hc1 hk4 ⊢
    clear ho hb
    by_cases hz : K = 0
    · have d0 : ((K : Int) == 0) = true := by rw [hz]; rfl
      go_wp2
      go_ret
      exact ⟨rfl, Hb.out⟩
    have d0 : ((K : Int) == 0) = false := by rw [beq_eq_false_iff_ne]; omega
    obtain ⟨ad, v0, rfl, hv0, -, -⟩ := nk.at_ (k := 0) (by omega)
    obtain ⟨v00, v01⟩ := hk15 v0 (List.mem_of_getElem? hv0)
    obtain ⟨nn, hnn⟩ : ∃ nn : Nat, (nn : Int) = a1 % 50 := ⟨(a1 % 50).toNat, by omega⟩
    have hn50 : nn < 50 := by omega
    obtain ⟨N, hN⟩ : ∃ N, N = nn + 2 := ⟨_, rfl⟩
    have hNw : IntKind.i64.wrap (2 + (nn : Int)) = (N : Int) := by rw [IntWalk.i64_in _ (by omega), hN]; push_cast; omega
    have hN2 : 2 ≤ N ∧ N ≤ 51 := by omega
    have hNz : ¬ N = 0 := by omega
    have hNz0 : ((N : Int) == 0) = false := by rw [beq_eq_false_iff_ne]; omega
    obtain ⟨at_, hat⟩ : ∃ at_, at_ = plcN ks N := ⟨_, rfl⟩
    have hatl : at_ < N := by rw [hat]; exact plcN_lt ks (by omega)
    obtain ⟨v1, hv1⟩ : ∃ v1, v1 = (v0 + 1) % 16 := ⟨_, rfl⟩
    obtain ⟨os, hos⟩ : ∃ os, os = ks.set 0 v1 := ⟨_, rfl⟩
    have hosl : os.length = K := by rw [hos, List.length_set, hK]
    have hne : os ≠ ks := fun e => by
      rw [hos] at e
      have := congrArg (fun l => l[0]?) e
      simp only [List.getElem?_set_self (show 0 < ks.length by omega), hv0, Option.some.injEq] at this
      omega
    have hoo : okK os = true := by
      unfold okK
      rw [List.all_eq_true]
      intro v hv
      rw [hos] at hv
      rcases List.mem_or_eq_of_mem_set hv with h | h
      · exact decide_eq_true (hk15 v h)
      · exact decide_eq_true (by omega)
    obtain ⟨ap, hap⟩ : ∃ ap, ap = plcN os N := ⟨_, rfl⟩
    have hapl : ap < N := by rw [hap]; exact plcN_lt os (by omega)
    obtain ⟨p, hp⟩ : ∃ p, p = if ap = at_ then (at_ + 1) % N else ap := ⟨_, rfl⟩
    have hpl : p < N := by rw [hp]; split; exact Nat.mod_lt _ (by omega); exact hapl
    have hpn : at_ ≠ p := by
      rw [hp]
      split
      · rcases Nat.lt_or_ge (at_ + 1) N with h | h
        · rw [Nat.mod_eq_of_lt h]; omega
        · obtain rfl : at_ + 1 = N := by omega
          rw [Nat.mod_self]; omega
      · omega
    obtain ⟨ts1, hts1⟩ : ∃ ts1, ts1 = (List.replicate N none).set at_ (some (⟨ks, 1, [], [], []⟩ : Cel)) := ⟨_, rfl⟩
    obtain ⟨ts2, hts2⟩ : ∃ ts2, ts2 = (List.replicate N none).set at_ (some (⟨ks, 2, [], [], []⟩ : Cel)) := ⟨_, rfl⟩
    obtain ⟨ts3, hts3⟩ : ∃ ts3, ts3 = ts2.set p (some (⟨os, 7, [], [], []⟩ : Cel)) := ⟨_, rfl⟩
    have hput1 : putT (List.replicate N none) ⟨ks, 1, [], [], []⟩ = some ts1 := by
      unfold putT
      rw [seek_new (by omega), hts1, ← hat]
      simp only [List.getElem?_replicate, if_pos hatl]
    have hput2 : putT ts1 ⟨ks, 1, [], [], []⟩ = some ts2 := by
      unfold putT
      rw [hts1, seek_one hN2.1 hatl, ← hat, if_pos rfl, if_pos rfl]
      simp only [List.getElem?_set_self (show at_ < (List.replicate N (none : Option Cel)).length by rw [List.length_replicate]; exact hatl), List.set_set]
      rw [hts2, join_11]
    have hput3 : putT ts2 ⟨os, 7, [], [], []⟩ = some ts3 := by
      unfold putT
      rw [hts3, hts2, seek_one hN2.1 hatl, if_neg (fun e => hne (Eq.symm e)), ← hap, ← hp]
      simp only [List.getElem?_set_ne hpn, List.getElem?_replicate, if_pos hpl]
    have hc2l : (cellsT ts2).length = 1 := by rw [hts2, cells_one hatl]; rfl
    have hc3 : cellsT ts3 = if at_ < p then [⟨ks, 2, [], [], []⟩, ⟨os, 7, [], [], []⟩] else [⟨os, 7, [], [], []⟩, ⟨ks, 2, [], [], []⟩] := by rw [hts3, hts2, cells_two hatl hpl hpn]
    have hl1 : ts1.length = N := by rw [hts1, List.length_set, List.length_replicate]
    have hl2 : ts2.length = N := by rw [hts2, List.length_set, List.length_replicate]
    have hl3 : ts3.length = N := by rw [hts3, List.length_set, hl2]
    have hm1 : ∀ (i : Nat) (y : Cel), ts1[i]? = some (some y) → y.key.length ≤ 1000 ∧ EvenC 0 y := fun i y hy => by
      rw [hts1] at hy
      obtain rfl := set_mem hy
      exact ⟨by show ks.length ≤ 1000; omega, rfl, rfl, rfl⟩
    have hm2 : ∀ (i : Nat) (y : Cel), ts2[i]? = some (some y) → y.key.length ≤ 1000 ∧ EvenC 0 y := fun i y hy => by
      rw [hts2] at hy
      obtain rfl := set_mem hy
      exact ⟨by show ks.length ≤ 1000; omega, rfl, rfl, rfl⟩
    have HM1 := Lib.hid hm1
    have HM2 := Lib.hid hm2
    have HPUT1 := Lib.hid hput1
    have HPUT2 := Lib.hid hput2
    have HPUT3 := Lib.hid hput3
    have HC2L := Lib.hid hc2l
    have HC3 := Lib.hid hc3
    have HAT := Lib.hid hat
    have HAP := Lib.hid hap
    have HPP := Lib.hid hp
    have HNN := Lib.hid hnn
    have HOS := Lib.hid hos
    have HV0 := Lib.hid hv0
    have HV1 := Lib.hid hv1
    have HKL := Lib.hid hK
    have HOSL := Lib.hid hosl
    have HOK := Lib.hid hok
    have HOO := Lib.hid hoo
    clear hm1 hm2 hput1 hput2 hput3 hc2l hc3 hat hap hp hnn hN hos hv0 hv1 hK hosl hok hoo hts1 hts2 hts3 hn50 hne hk15
    have NK := Lib.hid nk
    have hcx : ∀ W, Keeps wa W → CR W (.slice (some ad) K c) (.slice none 0 0) (.slice none 0 0) (.slice none 0 0) ⟨ks, 1, [], [], []⟩ := fun W hW => ⟨⟨some ad, c, by rw [HKL.out], by rw [← HKL.out]; exact NK.out.keep hW, by rw [← HKL.out]; exact hc1, hc2, fun e => by cases e⟩, nil_ri W, nil_ri W, nil_ri W⟩
    have HCX := Lib.hid hcx
    clear hcx nk
    go_wp2_with fail
    refine (lwithin7 a1 50 wa h1 (by omega) (by omega)).mono ?_
    rintro e w' ⟨rfl, hw'⟩
    rw [← hw']
    clear hw'
    clear w'
    rw [← HNN.out]
    go_wp2_with fail
    refine (hNew_tb N wa (by omega) (by omega)).mono ?_
    rintro e w2 ⟨T, g, rfl, hT2, hb2⟩
    have hTg : wa.heap.size ≤ T ∧ wa.heap.size ≤ g := ⟨hT2.hT, hT2.hg⟩
    have hTl : T < w2.heap.size := hT2.bx.lt
    have hgl : g < w2.heap.size := hT2.tab.blk.lt
    have HPL1 := rPlace_any (some ad) c K N ks w2 (NK.out.keep (Keeps.of_below hb2)) HOK.out (by omega) (by omega) (by omega)
    rw [← HAT.out] at HPL1
    have HPL1 := Lib.hid HPL1
    obtain ⟨b, eb⟩ : ∃ b, b = w2.heap.size := ⟨_, rfl⟩
    obtain ⟨w3, hw3⟩ : ∃ w3, w3 = w2.alloc (.cells #[.slice (some ad) K c, .int .i64 1, .slice none 0 0, .slice none 0 0, .slice none 0 0] 39) := ⟨_, rfl⟩
    have o3 : Own 39 w3 b [.slice (some ad) K c, .int .i64 1, .slice none 0 0, .slice none 0 0, .slice none 0 0] := by rw [hw3, eb]; exact heap_alloc_new w2 _
    have hb3 : Below w2.heap.size w2 w3 := by rw [hw3]; exact (Below.refl _ _).alloc (Nat.le_refl _) _
    have hT3 := hT2.below hb3
    have hb23 : Below wa.heap.size wa w3 := hb2.trans (hb3.mono hb2.size)
    have P1 := hPut_any wa.heap.size T g 0 0 0 _ _ (.slice (some ad) K c) (.slice none 0 0) (.slice none 0 0) (.slice none 0 0) ⟨ks, 1, [], [], []⟩ w3 hT3 (by rw [List.length_replicate]; omega) (by rw [List.length_replicate]; omega) (fun i y hy => (none_at N hy).elim) (.inl (by rw [cells_new]; rfl)) (HCX.out w3 (Keeps.of_below hb23)) (by show inK .i64 (1 : Int); exact ⟨by decide, by decide⟩) (by show ks.length ≤ 1000; have := HKL.out; omega) HOK.out ⟨rfl, rfl, rfl⟩ (by omega)
    have HP1 := Lib.hid P1
    have O3 := Lib.hid o3
    have HW3 := Lib.hid hw3
    have Hb23 := Lib.hid hb23
    have s3 := o3.bx
    obtain ⟨t0, t1, t2, t3, t4⟩ := s3
    have hbl : b < w3.heap.size := o3.lt
    have hw23 : wa.heap.size ≤ w3.heap.size := hb23.size
    have EB := Lib.hid eb
    have hbT : b ≠ g ∧ b ≠ T := by omega
    clear hT2 hb2 o3 hw3 hb3 hT3 hb23 P1 eb
    go_wp2_with fail
    refine HPL1.out.mono ?_
    rintro e w' ⟨rfl, hw'⟩
    rw [← hw']
    clear hw'
    clear w'
    go_upto_region 16 with (fail)
    rw [← HW3.out, ← EB.out]
    go_wp2_with fail
    refine HP1.out.mono ?_
    rintro e w4 hp4
    obtain ⟨rfl, vs4, hT4, hb4, ht4⟩ := hPut_yes hp4 HPUT1.out hw23 hTg.2 hTg.1
    have hbk := ht4.block b hbl (fun h => by rcases h with h | h <;> omega)
    have e4 : ∀ i, w4.cell? ⟨b, i, none⟩ = w3.cell? ⟨b, i, none⟩ := fun i => World.cell?_of_block hbk
    have t0' := (e4 0).trans t0
    have t1' := (e4 1).trans t1
    have t2' := (e4 2).trans t2
    have t3' := (e4 3).trans t3
    have t4' := (e4 4).trans t4
    have hb24 : Below wa.heap.size wa w4 := Hb23.out.trans hb4
    have P2 := hPut_any wa.heap.size T g _ _ 0 _ _ (.slice (some ad) K c) (.slice none 0 0) (.slice none 0 0) (.slice none 0 0) ⟨ks, 1, [], [], []⟩ w4 hT4 (by rw [hl1]; omega) (by rw [hl1]; omega) HM1.out (.inr ⟨rfl, rfl⟩) (HCX.out w4 (Keeps.of_below hb24)) (by show inK .i64 (1 : Int); exact ⟨by decide, by decide⟩) (by show ks.length ≤ 1000; have := HKL.out; omega) HOK.out ⟨rfl, rfl, rfl⟩ (by omega)
    have HP2 := Lib.hid P2
    have Hb24 := Lib.hid hb24
    clear hp4 hT4 hb4 ht4 hbk e4 hb24 P2 t0 t1 t2 t3 t4 HP1
    go_wp2_with fail
    refine HP2.out.mono ?_
    rintro e w5 hp5
    obtain ⟨rfl, vs5, hT5, hb5, ht5⟩ := hPut_yes hp5 HPUT2.out Hb24.out.size hTg.2 hTg.1
    have hb25 : Below wa.heap.size wa w5 := Hb24.out.trans hb5
    have HL5 := hLen_any wa.heap.size T g _ _ vs5 ts2 w5 hT5
    rw [HC2L.out] at HL5
    have HL5 := Lib.hid HL5
    have HT5 := Lib.hid hT5
    have Hb25 := Lib.hid hb25
    clear hp5 hT5 hb5 ht5 hb25 t0' t1' t2' t3' t4' HP2
    go_wp2_with fail
    refine HL5.out.mono ?_
    clear HL5
    rintro e w' ⟨rfl, hw'⟩
    rw [← hw']
    clear hw'
    clear w'
    obtain ⟨go, co, X, hrun, hgo, hO, hbX⟩ := lit_ints (W := w5) (NK.out.keep (Keeps.of_below Hb25.out)) (by omega) (by omega)
    have Hrun := Lib.hid hrun
    have x0 := OI.at hO HV0.out
    have f0 := OI.frozen hO 0
    have hv1k : inK .i64 v1 := by have := HV1.out; exact ⟨by omega, by omega⟩
    have hO2 := hO.put (i := 0) v1 hv1k
    rw [← HOS.out] at hO2
    have hbX2 : Below w5.heap.size w5 (X.setCell ⟨go, 0, none⟩ (.int .i64 v1)) := hbX.setCell hgo _
    obtain ⟨w7, hw7⟩ : ∃ w7, w7 = X.setCell ⟨go, 0, none⟩ (.int .i64 v1) := ⟨_, rfl⟩
    rw [← hw7] at hO2 hbX2
    have hT7 := HT5.out.below hbX2
    have hri := hO2.ri
    have P3 := hPut_any wa.heap.size T g _ _ 0 _ _ (.slice (some ⟨go, 0, none⟩) K co) (.slice none 0 0) (.slice none 0 0) (.slice none 0 0) ⟨os, 7, [], [], []⟩ w7 hT7 (by rw [hl2]; omega) (by rw [hl2]; omega) HM2.out (.inr ⟨by show ((ks.length : Nat) : Int) = ((os.length : Nat) : Int); rw [HOSL.out, HKL.out], rfl⟩) ⟨hri, nil_ri _, nil_ri _, nil_ri _⟩ (by show inK .i64 (7 : Int); exact ⟨by decide, by decide⟩) (by show os.length ≤ 1000; have := HOSL.out; omega) HOO.out ⟨rfl, rfl, rfl⟩ (by omega)
    have HP3 := Lib.hid P3
    have Hb27 := Lib.hid (Hb25.out.trans (hbX2.mono Hb25.out.size))
    have HW7 := Lib.hid hw7
    have HO2 := Lib.hid hO2
    have hwr : IntKind.i64.wrap (v0 + 1) = v0 + 1 := IntWalk.i64_in _ (by omega)
    have hK0 : (0 : Int) < (K : Int) := by omega
    have hK00 : 0 < K := by omega
    have hv0k : inK .i64 (v0 + 1) := ⟨by omega, by omega⟩
    clear hrun hO hbX hgo hO2 hbX2 hw7 hT7 hri P3 hv1k
    go_wp2_with (at_builtin; have _t := Hrun; refine wpList_append_eq rfl (.tmp 64) (.tmp 65) 22 rfl _ _ _ _ rfl rfl Hrun.out ?_; clear _t Hrun)
    refine (HW16.out (v0 + 1) X hv0k).mono ?_
    rintro e w' ⟨rfl, hw'⟩
    rw [← hw']
    clear hw'
    clear w'
    rw [← HV1.out]
    go_upto_region 20 with (fail)
    rw [← HW7.out]
    clear x0 f0
    go_wp2_with fail
    refine HP3.out.mono ?_
    rintro e w8 hp8
    obtain ⟨rfl, vs8, hT8, hb8, ht8⟩ := hPut_yes hp8 HPUT3.out Hb27.out.size hTg.2 hTg.1
    have hb28 : Below wa.heap.size wa w8 := Hb27.out.trans hb8
    have gT5 : g < w5.heap.size ∧ T < w5.heap.size := ⟨HT5.out.tab.blk.lt, HT5.out.bx.lt⟩
    have hO8 := HO2.out.tchF ht8 (fun k hk => by rcases hk with h | h <;> omega)
    have HCC := Lib.hid (hCells_any wa.heap.size T g _ _ vs8 ts3 w8 hT8 (by rw [hl3]; omega) (fun x hx => by
      have k1 : ks.length ≤ 4 := by rw [← HKL.out]; exact hk4
      have k2 : os.length ≤ 4 := by rw [HOSL.out]; exact hk4
      rw [HC3.out] at hx
      have : x = ⟨ks, 2, [], [], []⟩ ∨ x = ⟨os, 7, [], [], []⟩ := by
        split at hx
        · simpa using hx
        · have : x = ⟨os, 7, [], [], []⟩ ∨ x = ⟨ks, 2, [], [], []⟩ := by simpa using hx
          exact this.symm
      rcases this with rfl | rfl
      · exact ⟨by show ks.length ≤ 1000000; omega, by simp, by simp, by simp⟩
      · exact ⟨by show os.length ≤ 1000000; omega, by simp, by simp, by simp⟩))
    have HO8 := Lib.hid hO8
    have Hb28 := Lib.hid hb28
    clear hp8 hT8 hb8 ht8 hb28 hO8 HO2 HT5 HP3 gT5
    go_wp2_with fail
    refine HCC.out.mono ?_
    clear HCC
    rintro e w9 ⟨v, us, rfl, gr, b9⟩
    obtain ⟨P9, c9, f9, -⟩ := gr.form
    have l9 : us.length = 2 := by rw [gr.len, HC3.out]; split <;> rfl
    rw [l9] at f9
    subst f9
    obtain ⟨ad9, rfl, hcr⟩ := gr.rowC.1 (by omega)
    rw [HC3.out] at hcr
    have hno := (HO8.out.below b9).ri
    obtain ⟨Q, cQ, eQ, nQ, -⟩ := hno
    injection eQ with eQ1 eQ2 eQ3
    subst eQ1 eQ3
    rw [HOSL.out] at nQ
    have HPL2 := rPlace_any _ co K N os w9 nQ HOO.out (by omega) (by omega) (by omega)
    rw [← HAP.out] at HPL2
    have HPL2 := Lib.hid HPL2
    have Hb29 := Lib.hid (Hb.out.trans ((Hb28.out.trans (b9.mono Hb28.out.size)).mono Hb.out.size))
    have hadd : ad9.add (0 * 5) = ad9 := by simp [Addr.add]
    obtain ⟨A1, hA1⟩ : ∃ A1, A1 = at_ + 1 := ⟨_, rfl⟩
    have hwa : IntKind.i64.wrap ((at_ : Int) + 1) = (A1 : Int) := by rw [IntWalk.i64_in _ (by omega), hA1]; push_cast; rfl
    have hmd : (A1 : Int).tmod (N : Int) = ((A1 % N : Nat) : Int) := by rw [Int.tmod_eq_emod_of_nonneg (by omega)]; push_cast; rfl
    obtain ⟨M, hM⟩ : ∃ M, M = A1 % N := ⟨_, rfl⟩
    rw [← hM] at hmd
    clear gr b9 l9 eQ2 nQ HO8
    go_wp2_with fail
    refine HPL2.out.mono ?_
    rintro e w' ⟨rfl, hw'⟩
    rw [← hw']
    clear hw'
    clear w' HPL2
    by_cases hlt : at_ < p
    · rw [if_pos hlt] at hcr
      obtain ⟨-, -, -, -, -, p1, -⟩ := hcr 0 _ rfl
      obtain ⟨-, -, -, -, -, q1, -⟩ := hcr 1 _ rfl
      rw [hadd] at p1
      clear hcr
      have p1 : w9.cell? ⟨ad9.block, ad9.off + 1, none⟩ = _ := p1
      have q1 : w9.cell? ⟨ad9.block, ad9.off + 5 + 1, none⟩ = _ := q1
      have u1 : decide ((at_ : Int) < (p : Int)) = true := by simp; omega
      have u2 : decide (at_ < p) = true := by simp; omega
      have u3 : decide ((p : Int) < (at_ : Int)) = false := by simp; omega
      have u4 : decide (p < at_) = false := by simp; omega
      by_cases he : ap = at_
      · have e1 : ((ap : Int) == (at_ : Int)) = true := by rw [he]; simp
        have e2 : p = M := by rw [HPP.out, if_pos he, hM, hA1]
        subst e2
        have ez : ((at_ : Int) + 1) % (N : Int) = (p : Int) := by rw [hM, hA1]; push_cast; rfl
        have u5 : decide ((at_ : Int) < ((at_ : Int) + 1) % (N : Int)) = true := by rw [ez]; exact u1
        have u6 : decide (((at_ : Int) + 1) % (N : Int) < (at_ : Int)) = false := by rw [ez]; exact u3
        clear he hlt ez
        go_wp2
        go_ret
        exact ⟨rfl, Hb29.out⟩
      · have e1 : ((ap : Int) == (at_ : Int)) = false := by rw [beq_eq_false_iff_ne]; omega
        have e2 : p = ap := by rw [HPP.out, if_neg he]
        subst e2
        clear he hlt
        go_wp2
        go_ret
        exact ⟨rfl, Hb29.out⟩
    · rw [if_neg hlt] at hcr
      obtain ⟨-, -, -, -, -, p1, -⟩ := hcr 0 _ rfl
      obtain ⟨-, -, -, -, -, q1, -⟩ := hcr 1 _ rfl
      rw [hadd] at p1
      clear hcr
      have p1 : w9.cell? ⟨ad9.block, ad9.off + 1, none⟩ = _ := p1
      have q1 : w9.cell? ⟨ad9.block, ad9.off + 5 + 1, none⟩ = _ := q1
      have u1 : decide ((at_ : Int) < (p : Int)) = false := by simp; omega
      have u2 : decide (at_ < p) = false := by simp; omega
      have u3 : decide ((p : Int) < (at_ : Int)) = true := by simp; omega
      have u4 : decide (p < at_) = true := by simp; omega
      by_cases he : ap = at_
      · have e1 : ((ap : Int) == (at_ : Int)) = true := by rw [he]; simp
        have e2 : p = M := by rw [HPP.out, if_pos he, hM, hA1]
        subst e2
        have ez : ((at_ : Int) + 1) % (N : Int) = (p : Int) := by rw [hM, hA1]; push_cast; rfl
        have u5 : decide ((at_ : Int) < ((at_ : Int) + 1) % (N : Int)) = false := by rw [ez]; exact u1
        have u6 : decide (((at_ : Int) + 1) % (N : Int) < (at_ : Int)) = true := by rw [ez]; exact u3
        clear he hlt ez
        go_wp2
        go_ret
        exact ⟨rfl, Hb29.out⟩
      · have e1 : ((ap : Int) == (at_ : Int)) = false := by rw [beq_eq_false_iff_ne]; omega
        have e2 : p = ap := by rw [HPP.out, if_neg he]
        subst e2
        clear he hlt
        go_wp2
        go_ret
        exact ⟨rfl, Hb29.out⟩
end Go.Proofs.Ytgjcbbpmcojcoaa
