import Derived.Test.YtjllmladhjbnaaaGreatDoorProg
import Derived.Test.YtjllmladhjbnaaaGreatDoorBase2
import Derived.Test.YtjllmladhjbnaaaGreatDoorListed
import Derived.Test.YtjllmladhjbnaaaGreatDoorRlat
import Derived.Test.YtjllmladhjbnaaaGreatDoorRegion
namespace Go.Proofs.YtjllmladhjbnaaaGreatDoor
open Go.RowKit
set_option maxHeartbeats 1000000 in
theorem rIntsEq (A B : Option Addr) (n c d : Nat) (xs ys : List Int) (w : World) (hx : Nums .i64 w A n xs) (hy : Nums .i64 w B n ys) (hn : n ≤ 4611686018427387904) :
    Calls Tryz.prog 18 #[.slice A n c, .slice B n d] w fun e w' => e = .returned (.bool (decide (xs = ys))) ∧ ∃ q, w' = w.drewN q := by
  go_enter Tryz.func18, Tryz.ntmps18
  go_wp2
  go_loopw [5] (fun i wr => ∃ k : Nat, k ≤ n ∧ i = .int .i64 k ∧ xs.take k = ys.take k ∧ ∃ q, wr = w.drewN q) (fun i _ => n - (intOf i).toNat)
  case atStart => exact ⟨0, by omega, rfl, by simp, 0, rfl⟩
  case round =>
    obtain ⟨k, hk, rfl, ht, q, rfl⟩ := hrel
    have Ht := Lib.hid ht
    clear ht
    by_cases hlt : k < n
    · obtain ⟨ad, x, rfl, hxk, hxi, hcx⟩ := hx.at_ hlt
      obtain ⟨bd, y, rfl, hyk, hyi, hcy⟩ := hy.at_ hlt
      have Hx := Lib.hid hxk
      have Hy := Lib.hid hyk
      clear hxk hyk hxi hyi
      by_cases hxy : x = y
      · have Hxy := Lib.hid hxy
        have hb : (x != y) = false := by rw [hxy]; simp
        clear hxy
        go_wp2
        go_quiet (fail)
        go_wp2
        exact ⟨⟨k + 1, by omega, by go_num, by rw [take_snoc Hx.out, take_snoc Hy.out, Ht.out, Hxy.out], _, rfl⟩, by simp [intOf]; omega⟩
      · have hb : (x != y) = true := by rw [bne_iff_ne]; exact hxy
        have Hne : Hid (xs ≠ ys) := Lib.hid (fun e => hxy (by have h1 := Hx.out; have h2 := Hy.out; rw [e, h2] at h1; injection h1 with h1; exact h1.symm))
        clear hxy
        go_wp2
        go_quiet (fail)
        go_wp2
        go_ret
        exact ⟨by rw [decide_eq_false Hne.out]; rfl, _, World.drewN_drewN _ _ _⟩
    · go_wp2
      go_ret
      obtain rfl : k = n := by omega
      have := Ht.out
      rw [List.take_of_length_le (Nat.le_of_eq hx.len), List.take_of_length_le (Nat.le_of_eq hy.len)] at this
      exact ⟨by rw [decide_eq_true this]; rfl, _, rfl⟩
set_option maxHeartbeats 1000000 in
theorem rIntsNe (A B : Option Addr) (n m c d : Nat) (w : World) (h : n ≠ m) :
    Calls Tryz.prog 18 #[.slice A n c, .slice B m d] w fun e w' => e = .returned (.bool false) ∧ w = w' := by
  have hne : ((n : Int) != (m : Int)) = true := by rw [bne_iff_ne]; omega
  clear h
  go_enter Tryz.func18, Tryz.ntmps18
  go_wp2
  go_ret
  exact ⟨rfl, rfl⟩
/-- Ints: whether two rows of numbers are one. -/
theorem rInts (A B : Option Addr) (n m c d : Nat) (xs ys : List Int) (w : World) (hx : Nums .i64 w A n xs) (hy : Nums .i64 w B m ys) (hn : n ≤ 4611686018427387904) :
    Calls Tryz.prog 18 #[.slice A n c, .slice B m d] w fun e w' => e = .returned (.bool (decide (xs = ys))) ∧ ∃ q, w' = w.drewN q := by
  by_cases h : n = m
  · subst h
    exact rIntsEq A B n c d xs ys w hx hy hn
  · refine (rIntsNe A B n m c d w h).mono fun e w' ⟨he, hw⟩ => ⟨?_, 0, hw.symm⟩
    rw [he, decide_eq_false (fun e => h (by rw [← hx.len, ← hy.len, e]))]

end Go.Proofs.YtjllmladhjbnaaaGreatDoor
/- The reference's orders of a plan that is right; the laws' same. -/
namespace Go.Proofs.YtjllmladhjbnaaaGreatDoor
open Go.RowKit Go.Shelf
attribute [local go_sem] Oper.semAt_some
theorem sub_bd2 : ∀ p s : Fin 16, 0 ≤ subI (p.val : Int) (s.val : Int) ∧ subI (p.val : Int) (s.val : Int) ≤ 15 := by decide +kernel
theorem risTo_dims (s : Int) (h0 : 0 ≤ s) (h1 : s ≤ 15) : risTo s 4 = dimsL s := by
  have h := risTo_all ⟨s.toNat, by omega⟩
  dsimp only at h
  rwa [Int.toNat_of_nonneg h0] at h
set_option maxRecDepth 100000 in
set_option maxHeartbeats 8000000 in
theorem rOrder_step (A : Option Addr) (n c d : Nat) (es : List Ed) (hr : RightP d es) (h1 : 1 ≤ d) (h4 : d ≤ 4) (s : Int) (w : World)
    (ih : ∀ (e : Ed) (w' : World), e ∈ es ∧ e.sc = true → e.p = s → Edgs w' A n es → Calls Tryz.prog 36 #[.slice A n c, .int .i64 e.s] w' fun x w'' => ∃ v, x = .returned v ∧ OI w'.heap.size w'' v (ordM es e.s) ∧ Below w'.heap.size w' w'')
    (hs : s ∈ setsL d) (hE : Edgs w A n es) (hn : n ≤ 1000) :
    Calls Tryz.prog 36 #[.slice A n c, .int .i64 s] w fun e w' => ∃ v, e = .returned v ∧ OI w.heap.size w' v (ordM es s) ∧ Below w.heap.size w w' := by
  have hel := hE.1
  obtain ⟨s0, s1⟩ := sets_bd d h1 h4 s hs
  have hf15 := fullB_15 d h4
  have s15 : s ≤ 15 := by omega
  have HE := Lib.hid hE
  have HR := Lib.hid hr
  have HIH := Lib.hid ih
  clear hE hr ih hs s1 hf15
  go_enter Tryz.func36, Tryz.ntmps36
  go_wp2
  go_loopw [5] (fun i wr => ∃ k : Nat, i = .int .i64 k ∧ k ≤ n ∧ (∀ j e, j < k → es[j]? = some e → e.sc = true → e.p ≠ s) ∧ w = wr) (fun i _ => n - (intOf i).toNat)
  case atStart => exact ⟨0, rfl, Nat.zero_le _, fun j e h => absurd h (Nat.not_lt_zero _), rfl⟩
  case round =>
    obtain ⟨k, rfl, hk, hno, rfl⟩ := hrel
    have HNO := Lib.hid hno
    clear hno
    by_cases hkn : k < n
    · obtain ⟨e, he⟩ : ∃ e, es[k]? = some e := ⟨_, List.getElem?_eq_getElem (by omega)⟩
      obtain ⟨g, o, rfl, hcs⟩ := HE.out.2.2 (by omega)
      obtain ⟨y0, y1, y2⟩ := hcs k e he
      have hem := List.mem_of_getElem? he
      have k0 : (0 : Int) ≤ (k : Int) := by omega
      have k1 : (k : Int) < (n : Int) := by omega
      obtain ⟨sc, hsc⟩ : ∃ sc, sc = e.sc := ⟨_, rfl⟩
      obtain ⟨p, hpe⟩ : ∃ p, p = e.p := ⟨_, rfl⟩
      rw [← hsc] at y2
      rw [← hpe] at y1
      have HSC := Lib.hid hsc
      have HPE := Lib.hid hpe
      have HGE := Lib.hid he
      have HEM := Lib.hid hem
      clear hcs he hem hsc hpe
      cases sc with
      | false =>
        have HNX := Lib.hid (show ∀ (j : Nat) (e' : Ed), j < k + 1 → es[j]? = some e' → e'.sc = true → e'.p ≠ s from fun j e' hj he' hs' => by
          rcases Nat.lt_or_ge j k with h | h
          · exact HNO.out j e' h he' hs'
          · obtain rfl : j = k := by omega
            have := HGE.out
            rw [he'] at this
            injection this with this
            subst this
            rw [← HSC.out] at hs'
            cases hs')
        go_wp2
        go_roundw
        case rel => exact ⟨k + 1, by go_num, by omega, HNX.out, trivial⟩
        case measure => simp [intOf]; omega
      | true =>
        by_cases hps : p = s
        · have d1 : (p == s) = true := by simpa using hps
          have hep : e.p = s := HPE.out.symm.trans hps
          have HI := Lib.hid (HIH.out e w ⟨HEM.out, HSC.out.symm⟩ hep HE.out)
          have hos := ordM_scan HR.out h1 h4 HEM.out HSC.out.symm
          rw [hep] at hos
          have hsb := sets_bd d h1 h4 _ (HR.out.mem HEM.out)
          have hf15 := fullB_15 d h4
          obtain ⟨q, hq⟩ : ∃ q, q = e.s := ⟨_, rfl⟩
          rw [← hq] at y0 HI hos hsb
          have q0 := hsb.1
          have q15 : q ≤ 15 := by omega
          have hsub := sub_bd2 ⟨s.toNat, by omega⟩ ⟨q.toNat, by omega⟩
          dsimp only at hsub
          rw [Int.toNat_of_nonneg s0, Int.toNat_of_nonneg q0] at hsub
          have hol := ordM_len HR.out h1 h4 q
          have hd4 := dimsL_le q
          have hol4 : (ordM es q).length ≤ 4 := by omega
          obtain ⟨m, hm⟩ : ∃ m, m = subI s q := ⟨_, rfl⟩
          have hsi : bits .andNot .i64 s q = m := hm.symm
          rw [← hm] at hsub hos
          have m0 := hsub.1
          have m15 := hsub.2
          have HOS := Lib.hid (hos.trans (by rw [← risTo_dims m m0 m15]) : ordM es s = ordM es q ++ risTo m 4)
          have HSI := Lib.hid hsi
          clear hps hep hos hsb hf15 hq hsub hol hd4 hm hsi
          go_wp2_with fail
          refine HI.out.mono ?_
          rintro x w2 ⟨v2, rfl, ho2, hb2⟩
          have HO2 := Lib.hid ho2
          have HB2 := Lib.hid hb2
          have y0' := (Keeps.of_below hb2) _ _ y0
          clear ho2 hb2
          go_wp2_with fail
          rw [HSI.out]
          go_loopw [6, 8] (fun v i wr => ∃ j : Nat, i = .int .i64 j ∧ j ≤ 4 ∧ OI w.heap.size wr v (ordM es q ++ risTo m j) ∧ Below w.heap.size w wr) (fun _ i _ => 4 - (intOf i).toNat)
          case atStart => exact ⟨0, rfl, Nat.zero_le _, by simpa [risTo] using HO2.out, HB2.out⟩
          case round =>
            obtain ⟨j, rfl, hj, ho, hb⟩ := hrel
            rename World => wr
            have HO := Lib.hid ho
            have HB := Lib.hid hb
            have hz := hb.size
            clear ho hb HO2 HB2 y0'
            by_cases hj4 : j < 4
            · obtain ⟨x1, x2⟩ := shr_in m j m0 m15 (by omega)
              have hbo := bit_one _ x1 x2
              have hrl := risTo_len m j
              by_cases hbit : m / 2 ^ j % 2 = 1
              · have d2 : (bits .and .i64 (m / 2 ^ j) 1 == 1) = true := by rw [hbo, hbit]; rfl
                have HS := Lib.hid (show ordM es q ++ risTo m (j + 1) = (ordM es q ++ risTo m j) ++ [(j : Int)] by rw [risTo, if_pos hbit, List.append_assoc])
                obtain ⟨v', w', hrun, ho', hb'⟩ := oi_append (j : Int) HO.out (by constructor <;> omega) (by rw [List.length_append]; omega) hz
                have Hrun := Lib.hid hrun
                have HO' := Lib.hid ho'
                have HB' := Lib.hid (HB.out.trans hb')
                clear hrun ho' hb' hbo hbit
                go_wp2_with (at_builtin; have _t := Hrun; refine wpList_append_eq rfl (.tmp 55) (.tmp 57) 22 rfl _ _ _ _ rfl rfl Hrun.out ?_; clear _t Hrun)
                go_roundw
                case rel => exact ⟨j + 1, by go_num, by omega, by rw [HS.out]; exact HO'.out, HB'.out⟩
                case measure => simp [intOf]; omega
              · have d2 : (bits .and .i64 (m / 2 ^ j) 1 == 1) = false := by rw [hbo]; simpa using hbit
                have HS := Lib.hid (show ordM es q ++ risTo m (j + 1) = ordM es q ++ risTo m j by rw [risTo, if_neg hbit])
                clear hbo hbit
                go_wp2
                go_roundw
                case rel => exact ⟨j + 1, by go_num, by omega, by rw [HS.out]; exact HO.out, HB.out⟩
                case measure => simp [intOf]; omega
            · obtain rfl : j = 4 := by omega
              have ho := HO.out
              rw [← HOS.out] at ho
              have HO3 := Lib.hid ho
              clear ho
              go_wp2
              go_ret
              exact ⟨_, rfl, HO3.out, HB.out⟩
        · have d1 : (p == s) = false := by simpa using hps
          have hep : e.p ≠ s := fun h => hps (HPE.out.trans h)
          have HEP := Lib.hid hep
          clear hps hep
          have HNX := Lib.hid (show ∀ (j : Nat) (e' : Ed), j < k + 1 → es[j]? = some e' → e'.sc = true → e'.p ≠ s from fun j e' hj he' hs' => by
            rcases Nat.lt_or_ge j k with h | h
            · exact HNO.out j e' h he' hs'
            · obtain rfl : j = k := by omega
              have := HGE.out
              rw [he'] at this
              injection this with this
              subst this
              exact HEP.out)
          go_wp2
          go_roundw
          case rel => exact ⟨k + 1, by go_num, by omega, HNX.out, trivial⟩
          case measure => simp [intOf]; omega
    · obtain rfl : k = n := by omega
      have hon : ordM es s = dimsL s := ordM_none fun e he hsc => by
        obtain ⟨j, hj⟩ := List.mem_iff_getElem?.1 he
        exact HNO.out j e (by have := (List.getElem?_eq_some_iff.1 hj).1; omega) hj hsc
      have HOS := Lib.hid (hon.trans (risTo_dims s s0 s15).symm)
      clear hon
      go_wp2
      go_loopw [9, 10] (fun v i wr => ∃ j : Nat, i = .int .i64 j ∧ j ≤ 4 ∧ OI w.heap.size wr v (risTo s j) ∧ Below w.heap.size w wr) (fun _ i _ => 4 - (intOf i).toNat)
      case atStart => exact ⟨0, rfl, Nat.zero_le _, OI.nil _ _, Below.refl _ _⟩
      case round =>
        obtain ⟨j, rfl, hj, ho, hb⟩ := hrel
        rename World => wr
        have HO := Lib.hid ho
        have HB := Lib.hid hb
        have hz := hb.size
        clear ho hb
        by_cases hj4 : j < 4
        · obtain ⟨x1, x2⟩ := shr_in s j s0 s15 (by omega)
          have hbo := bit_one _ x1 x2
          have hrl := risTo_len s j
          by_cases hbit : s / 2 ^ j % 2 = 1
          · have d2 : (bits .and .i64 (s / 2 ^ j) 1 == 1) = true := by rw [hbo, hbit]; rfl
            have HS := Lib.hid (show risTo s (j + 1) = risTo s j ++ [(j : Int)] by rw [risTo, if_pos hbit])
            obtain ⟨v', w', hrun, ho', hb'⟩ := oi_append (j : Int) HO.out (by constructor <;> omega) (by omega) hz
            have Hrun := Lib.hid hrun
            have HO' := Lib.hid ho'
            have HB' := Lib.hid (HB.out.trans hb')
            clear hrun ho' hb' hbo hbit
            go_wp2_with (at_builtin; have _t := Hrun; refine wpList_append_eq rfl (.tmp 70) (.tmp 72) 22 rfl _ _ _ _ rfl rfl Hrun.out ?_; clear _t Hrun)
            go_roundw
            case rel => exact ⟨j + 1, by go_num, by omega, by rw [HS.out]; exact HO'.out, HB'.out⟩
            case measure => simp [intOf]; omega
          · have d2 : (bits .and .i64 (s / 2 ^ j) 1 == 1) = false := by rw [hbo]; simpa using hbit
            have HS := Lib.hid (show risTo s (j + 1) = risTo s j by rw [risTo, if_neg hbit])
            clear hbo hbit
            go_wp2
            go_roundw
            case rel => exact ⟨j + 1, by go_num, by omega, by rw [HS.out]; exact HO.out, HB.out⟩
            case measure => simp [intOf]; omega
        · obtain rfl : j = 4 := by omega
          have ho := HO.out
          rw [← HOS.out] at ho
          have HO3 := Lib.hid ho
          clear ho
          go_wp2
          go_ret
          exact ⟨_, rfl, HO3.out, HB.out⟩
set_option maxRecDepth 100000 in
set_option maxHeartbeats 8000000 in
theorem rOrder_any (A : Option Addr) (n c d : Nat) (es : List Ed) (hr : RightP d es) (h1 : 1 ≤ d) (h4 : d ≤ 4) : ∀ (f : Nat) (s : Int) (w : World), (lvl s).toNat = f → s ∈ setsL d → Edgs w A n es → n ≤ 1000 →
    Calls Tryz.prog 36 #[.slice A n c, .int .i64 s] w fun e w' => ∃ v, e = .returned v ∧ OI w.heap.size w' v (ordM es s) ∧ Below w.heap.size w w' := by
  intro f
  induction f with
  | zero => exact fun s w hf hs hE hn => rOrder_step A n c d es hr h1 h4 s w (fun e w' he hp hE => by
      have := (hr.scan h1 h4 he.1 he.2).2
      have := lvl_nn e.s
      rw [hp] at *
      omega) hs hE hn
  | succ f ih => exact fun s w hf hs hE hn => rOrder_step A n c d es hr h1 h4 s w (fun e w' he hp hE => by
      have := (hr.scan h1 h4 he.1 he.2).2
      have := lvl_nn e.s
      rw [hp] at *
      exact ih e.s w' (by omega) (hr.mem he.1) hE hn) hs hE hn
set_option maxRecDepth 100000 in
set_option maxHeartbeats 8000000 in
theorem rOrders_any (A : Option Addr) (n c d : Nat) (es : List Ed) (w : World) (hE : Edgs w A n es) (hr : RightP d es) (h1 : 1 ≤ d) (h4 : d ≤ 4) (hn : n ≤ 1000) :
    Calls Tryz.prog 15 #[.slice A n c, .int .i64 d] w fun e w' => ∃ A' c', e = .returned (.slice A' n c') ∧ Mat w' A' n (ordsM es) ∧ Below w.heap.size w w' := by
  have hel := hE.1
  have HE := Lib.hid hE
  have HR := Lib.hid hr
  have d0 : (0 : Int) < (d : Int) := by omega
  clear hE hr
  go_enter Tryz.func15, Tryz.ntmps15
  go_wp2
  go_loopw [5, 6] (fun v i wr => ∃ (k : Nat) (us : List Value), i = .int .i64 k ∧ k ≤ n ∧ OM w.heap.size wr v ((ordsM es).take k) us ∧ Below w.heap.size w wr) (fun _ i _ => n - (intOf i).toNat)
  case atStart => exact ⟨0, _, rfl, Nat.zero_le _, OM.nil _ _, Below.refl _ _⟩
  case round =>
    obtain ⟨k, us, rfl, hk, hom, hb⟩ := hrel
    rename World => wr
    have HO := Lib.hid hom
    have HB := Lib.hid hb
    have hz := hb.size
    clear hom hb
    by_cases hkn : k < n
    · have kw := Keeps.of_below HB.out
      have hEr := HE.out.keep kw
      obtain ⟨e, he⟩ : ∃ e, es[k]? = some e := ⟨_, List.getElem?_eq_getElem (by omega)⟩
      obtain ⟨g, o, rfl, hcs⟩ := hEr.2.2 (by omega)
      obtain ⟨y0, y1, y2⟩ := hcs k e he
      have hem := List.mem_of_getElem? he
      have HOR := Lib.hid (rOrder_any (some ⟨g, o, none⟩) n c d es HR.out h1 h4 _ e.s wr rfl (HR.out.mem hem) hEr hn)
      have htk : (ordsM es).take (k + 1) = (ordsM es).take k ++ [ordM es e.s] := by
        rw [List.take_add_one]
        congr 1
        unfold ordsM
        rw [List.getElem?_map, he]; rfl
      have hln : ((ordsM es).take k).length ≤ 1000 := by rw [List.length_take]; omega
      have HTK := Lib.hid htk
      have HLN := Lib.hid hln
      have k0 : (0 : Int) ≤ (k : Int) := by omega
      have k1 : (k : Int) < (n : Int) := by omega
      clear hcs y1 y2 he hem hEr htk hln kw
      go_wp2_with fail
      refine HOR.out.mono ?_
      rintro x w2 ⟨v2, rfl, ho2, hb2⟩
      obtain ⟨P2, c2, rfl, -, -, -, -⟩ := ho2.form
      obtain ⟨v', w3, hrun, ho3, hb3⟩ := om_append (HO.out.below hb2) (ho2.mono hz) (HO.out.apart_new ho2 (Nat.le_refl _)) HLN.out (Nat.le_trans hz hb2.size)
      rw [← HTK.out] at ho3
      have HO3 := Lib.hid ho3
      have HB3 := Lib.hid ((HB.out.trans (hb2.mono hz)).trans hb3)
      have Hrun := Lib.hid hrun
      clear ho2 hb2 hrun ho3 hb3 y0
      go_wp2_with (at_builtin; have _t := Hrun; refine wpList_append_eq rfl (.tmp 17) (.tmp 25) 35 rfl _ _ _ _ rfl rfl Hrun.out ?_; clear _t Hrun)
      go_roundw
      case rel => exact ⟨k + 1, _, by go_num, by omega, HO3.out, HB3.out⟩
      case measure => simp [intOf]; omega
    · obtain rfl : k = n := by omega
      have hom := HO.out
      rw [show (ordsM es).take k = ordsM es from List.take_of_length_le (by simp [ordsM]; omega)] at hom
      obtain ⟨A', c', rfl, hmat⟩ := hom.mat
      rw [show (ordsM es).length = k by simp [ordsM]; omega] at hmat ⊢
      have HMT := Lib.hid hmat
      clear hom hmat
      go_wp2
      go_ret
      exact ⟨_, _, rfl, HMT.out, HB.out⟩
set_option maxRecDepth 100000 in
set_option maxHeartbeats 8000000 in
theorem sameR_any (A B : Option Addr) (n c d : Nat) (R : List (List Int)) (w : World) (hA : Mat w A n R) (hB : Mat w B n R) (hn : n ≤ 1000) (hR : ∀ r ∈ R, r.length ≤ 1000) :
    Calls Tryz.prog 16 #[.slice A n c, .slice B n d] w fun e w' => e = .returned (.bool true) ∧ Below w.heap.size w w' := by
  have HA := Lib.hid hA
  have HBm := Lib.hid hB
  have HR := Lib.hid hR
  have dnn : ((n : Int) != (n : Int)) = false := by simp
  clear hA hB hR
  go_enter Tryz.func16, Tryz.ntmps16
  go_wp2
  go_loopw [5] (fun i wr => ∃ k : Nat, i = .int .i64 k ∧ k ≤ n ∧ Below w.heap.size w wr) (fun i _ => n - (intOf i).toNat)
  case atStart => exact ⟨0, rfl, Nat.zero_le _, Below.refl _ _⟩
  case round =>
    obtain ⟨k, rfl, hk, hb⟩ := hrel
    rename World => wr
    have HB := Lib.hid hb
    have kw := Keeps.of_below hb
    clear hb
    by_cases hkn : k < n
    · obtain ⟨ad, r, P1, c1, rfl, hr, hc1, hn1⟩ := (HA.out.keep kw).at_ hkn
      obtain ⟨bd, r', P2, c2, rfl, hr', hc2, hn2⟩ := (HBm.out.keep kw).at_ hkn
      rw [hr] at hr'
      injection hr' with hr'
      subst hr'
      have hrl := HR.out r (List.mem_of_getElem? hr)
      have HI := Lib.hid (rInts P1 P2 r.length r.length c1 c2 r r wr.drew hn1 hn2 (by omega))
      rw [show decide (r = r) = true by simp] at HI
      obtain ⟨m, hm⟩ : ∃ m, m = r.length := ⟨_, rfl⟩
      rw [← hm] at hc1 hc2 HI
      have k0 : (0 : Int) ≤ (k : Int) := by omega
      have k1 : (k : Int) < (n : Int) := by omega
      clear hr hn1 hn2 hrl hm kw
      go_wp2_with fail
      refine wp_region_held_drew (S := fun W => W.cell? (ad.add k) = some (.slice P1 m c1) ∧ W.cell? (bd.add k) = some (.slice P2 m c2)) (by kernel_rfl) ⟨hc1, hc2⟩ (fun hHeld => ?_)
      refine wpAnyH_take (i := 0) (v := ?va0) rfl (by kernel_rfl) (by kernel_rfl) (by kernel_rfl) (fun _ _ _ h => h) (Or.inl ⟨by rfl, ?ya0⟩) hHeld ?ra0
      case ya0 => (intro W hW; obtain ⟨hW0, hW1⟩ := hW; go_simp; first | done | with_reducible rfl)
      try simp only [List.getElem_toArray, List.getElem_cons_zero, Act.put, List.setIfInBounds_toArray, List.set_cons_zero, List.set_cons_succ]
      refine wpAnyH_take (i := 1) (v := ?va1) rfl (by kernel_rfl) (by kernel_rfl) (by kernel_rfl) (fun _ _ _ h => h) (Or.inl ⟨by rfl, ?ya1⟩) hHeld ?ra1
      case ya1 => (intro W hW; obtain ⟨hW0, hW1⟩ := hW; go_simp; first | done | with_reducible rfl)
      try simp only [List.getElem_toArray, List.getElem_cons_succ, List.getElem_cons_zero, Act.put, List.setIfInBounds_toArray, List.set_cons_zero, List.set_cons_succ]
      refine wpAnyH_take (i := 2) (v := ?va2) rfl (by kernel_rfl) (by kernel_rfl) (by kernel_rfl) (fun _ _ _ h => h) (Or.inl ⟨by rfl, ?ya2⟩) hHeld ?ra2
      case ya2 => (intro W hW; obtain ⟨hW0, hW1⟩ := hW; go_simp; first | done | with_reducible rfl)
      try simp only [List.getElem_toArray, List.getElem_cons_succ, List.getElem_cons_zero, Act.put, List.setIfInBounds_toArray, List.set_cons_zero, List.set_cons_succ]
      refine wpAnyH_take (i := 3) (v := ?va3) rfl (by kernel_rfl) (by kernel_rfl) (by kernel_rfl) (fun _ _ _ h => h) (Or.inl ⟨by rfl, ?ya3⟩) hHeld ?ra3
      case ya3 => (intro W hW; obtain ⟨hW0, hW1⟩ := hW; go_simp; first | done | with_reducible rfl)
      try simp only [List.getElem_toArray, List.getElem_cons_succ, List.getElem_cons_zero, Act.put, List.setIfInBounds_toArray, List.set_cons_zero, List.set_cons_succ]
      refine wpAnyH_take (i := 4) (v := ?va4) rfl (by kernel_rfl) (by kernel_rfl) (by kernel_rfl) (fun _ _ _ h => h) (Or.inl ⟨by rfl, ?ya4⟩) hHeld ?ra4
      case ya4 => (intro W hW; obtain ⟨hW0, hW1⟩ := hW; go_simp; first | done | with_reducible rfl)
      try simp only [List.getElem_toArray, List.getElem_cons_succ, List.getElem_cons_zero, Act.put, List.setIfInBounds_toArray, List.set_cons_zero, List.set_cons_succ]
      refine wpAnyH_take (i := 5) (v := ?va5) rfl (by kernel_rfl) (by kernel_rfl) (by kernel_rfl) (fun _ _ _ h => h) (Or.inl ⟨by rfl, ?ya5⟩) hHeld ?ra5
      case ya5 => (intro W hW; obtain ⟨hW0, hW1⟩ := hW; go_simp; first | done | with_reducible rfl)
      try simp only [List.getElem_toArray, List.getElem_cons_succ, List.getElem_cons_zero, Act.put, List.setIfInBounds_toArray, List.set_cons_zero, List.set_cons_succ]
      refine wpAnyH_take (i := 6) (v := ?va6) rfl (by kernel_rfl) (by kernel_rfl) (by kernel_rfl) (fun _ _ _ h => h) (Or.inl ⟨by rfl, ?ya6⟩) hHeld ?ra6
      case ya6 => (intro W hW; obtain ⟨hW0, hW1⟩ := hW; go_simp; first | done | with_reducible rfl)
      try simp only [List.getElem_toArray, List.getElem_cons_succ, List.getElem_cons_zero, Act.put, List.setIfInBounds_toArray, List.set_cons_zero, List.set_cons_succ]
      refine wpAnyH_take (i := 7) (v := ?va7) rfl (by kernel_rfl) (by kernel_rfl) (by kernel_rfl) (fun _ _ _ h => h) (Or.inl ⟨by rfl, ?ya7⟩) hHeld ?ra7
      case ya7 => (intro W hW; obtain ⟨hW0, hW1⟩ := hW; go_simp; first | done | with_reducible rfl)
      try simp only [List.getElem_toArray, List.getElem_cons_succ, List.getElem_cons_zero, Act.put, List.setIfInBounds_toArray, List.set_cons_zero, List.set_cons_succ]
      refine wpAnyH_ready (rs := [8]) (by kernel_rfl) (by simp) ?_
      refine AllReadyH.cons rfl (fun K hK => ?_) (AllReadyH.nil)
      go_simp
      refine HI.out.mono ?_
      rintro e9 w5 ⟨rfl, q, hw5⟩
      subst hw5
      refine hK.out _ _ (⟨hc1, hc2⟩) (fun hHeld => ?_)
      clear hK K
      try simp only [List.getElem_toArray, List.getElem_cons_succ, List.getElem_cons_zero, Act.put, List.setIfInBounds_toArray, List.set_cons_zero, List.set_cons_succ]
      refine wpAnyH_take (i := 9) (v := ?va9) rfl (by kernel_rfl) (by kernel_rfl) (by kernel_rfl) (fun _ _ _ h => h) (Or.inl ⟨by rfl, ?ya9⟩) hHeld ?ra9
      case ya9 => (intro W hW; obtain ⟨hW0, hW1⟩ := hW; go_simp; first | done | with_reducible rfl)
      try simp only [List.getElem_toArray, List.getElem_cons_succ, List.getElem_cons_zero, Act.put, List.setIfInBounds_toArray, List.set_cons_zero, List.set_cons_succ]
      refine wpAnyH_done (by kernel_rfl) ?_ _
      clear hHeld
      go_wp2
      go_roundw
      case rel => exact ⟨k + 1, by go_num, by omega, below_drewN HB.out (1 + q)⟩
      case measure => simp [intOf]; omega
    · obtain rfl : k = n := by omega
      go_wp2
      go_ret
      exact ⟨rfl, HB.out⟩
end Go.Proofs.YtjllmladhjbnaaaGreatDoor
