/- The walk of the law StoreCrashes: the Go text returns true, and writes nothing that was there. -/
import Derived.Test.YtgkgkekgmcldmaaDuo3
namespace Go.Proofs.Ytgkgkekgmcldmaa
open Go.RowKit
set_option maxRecDepth 100000 in
set_option maxHeartbeats 8000000 in
theorem storeCrashes_walk (a0 : Int) (a1 : Option Addr) (len1 cap1 : Nat) (z1 : List Int) (a2 : Option Addr) (len2 cap2 : Nat) (z2 : List Int) (a3 : Option Addr) (len3 cap3 : Nat) (z3 : List Int) (a4 : Option Addr) (len4 cap4 : Nat) (z4 : List Int) (w : World) (h0 : inK .i64 a0) (w1 : IsRow .i64 w a1 len1 cap1 z1) (w2 : IsRow .u8 w a2 len2 cap2 z2) (w3 : IsRow .i64 w a3 len3 cap3 z3) (w4 : IsRow .i64 w a4 len4 cap4 z4) :
    Calls Try.prog 4 #[.int .i64 a0, .slice a1 len1 cap1, .slice a2 len2 cap2, .slice a3 len3 cap3, .slice a4 len4 cap4] w fun e w' => e = .returned (.bool true) ∧ Below w.heap.size w w' := by
  have hnil2 : a2 = none → len2 = 0 ∧ cap2 = 0 := fun e => by
    rcases w2 with ⟨_, h1, h2, _⟩ | ⟨x, h, _⟩
    · exact ⟨h1, h2⟩
    · rw [e] at h; cases h
  have Hnil2 := Lib.hid hnil2
  clear hnil2
  obtain ⟨hx1, hlc1, hcap1⟩ := w1.nums
  generalize z1.take len1 = xs1 at hx1
  have Hx1 := Lib.hid hx1
  clear hx1 w1
  obtain ⟨hx2, hlc2, hcap2⟩ := w2.bytes
  generalize z2.take len2 = xs2 at hx2
  have Hx2 := Lib.hid hx2
  clear hx2 w2
  obtain ⟨hx3, hlc3, hcap3⟩ := w3.nums
  generalize z3.take len3 = xs3 at hx3
  have Hx3 := Lib.hid hx3
  clear hx3 w3
  obtain ⟨hx4, hlc4, hcap4⟩ := w4.nums
  generalize z4.take len4 = xs4 at hx4
  have Hx4 := Lib.hid hx4
  clear hx4 w4
  obtain ⟨lim, hlim⟩ : ∃ lim, lim = a0 % 300 := ⟨_, rfl⟩
  have l1 : 0 ≤ lim := by omega
  have l2 : lim ≤ 299 := by omega
  have wl := fun W => wi4 a0 300 W h0 (by omega) (by omega)
  rw [← hlim] at wl
  have Wl := Lib.hid wl
  clear wl hlim h0
  by_cases hbig : len2 ≤ 100 ∧ len3 ≤ 60
  case neg =>
    by_cases b1 : len2 ≤ 100
    · have b2 : ¬ len3 ≤ 60 := fun h => hbig ⟨b1, h⟩
      clear hbig
      go_enter Try.func4, Try.ntmps4
      go_wp2_with fail
      refine (known4 w).mono ?_
      rintro e w1 ⟨rfl, hb1⟩
      have Hb1 := Lib.hid hb1
      clear hb1
      go_wp2
      go_ret
      exact ⟨rfl, Hb1.out⟩
    · clear hbig
      go_enter Try.func4, Try.ntmps4
      go_wp2_with fail
      refine (known4 w).mono ?_
      rintro e w1 ⟨rfl, hb1⟩
      have Hb1 := Lib.hid hb1
      clear hb1
      go_wp2
      go_ret
      exact ⟨rfl, Hb1.out⟩
  case pos =>
  obtain ⟨b1, b2⟩ := hbig
  go_enter Try.func4, Try.ntmps4
  go_wp2_with fail
  refine (known4 w).mono ?_
  rintro e w1 ⟨rfl, hb1⟩
  have Hb1 := Lib.hid hb1
  clear hb1
  go_wp2_with fail
  refine (Wl.out _).mono ?_
  rintro e w3 ⟨rfl, rfl⟩
  go_wp2_with fail
  refine (sNew_any lim w1).mono ?_
  rintro e w2 ⟨rfl, hw2⟩
  have Hw2 := Lib.hid hw2
  clear hw2
  go_wp2_with fail
  refine (rNew_any lim w2).mono ?_
  rintro e w3 ⟨rfl, hw3⟩
  have hD : Duo w w3 w1.heap.size w2.heap.size (St.new lim) (St.new lim) 0 := Duo.new w1 lim (by omega) Hb1.out Hw2.out hw3
  have HD := Lib.hid hD
  clear Hw2 hw3 hD Hb1
  generalize w1.heap.size = p at HD ⊢
  generalize w2.heap.size = q at HD ⊢
  go_wp2_with fail
  go_loopw [14] (fun i wr => ∃ (k : Nat) (σ : St), k ≤ len1 ∧ k ≤ 40 ∧ i = .int .i64 k ∧ Duo w wr p q σ σ (2 * k)) (fun i _ => len1 - (intOf i).toNat)
  case atStart => exact ⟨0, _, by omega, by omega, rfl, HD.out⟩
  case round =>
    obtain ⟨k, σ, hk, hk40, rfl, hD⟩ := hrel
    rename World => wr
    clear HD
    have HD := Lib.hid hD
    clear hD
    by_cases hlt : k < len1
    · by_cases h40 : k < 40
      · obtain ⟨ad, x, rfl, hxk, hxi, hxc⟩ := (Hx1.out.tch HD.out.bel).at_ hlt
        have i0 : (0 : Int) ≤ (k : Int) := by omega
        have i1 : (k : Int) < (len1 : Int) := by omega
        have Hxi := Lib.hid hxi
        clear hxk hxi
        go_wp2_with fail
        refine (step_any x a2 len2 cap2 xs2 HD.out (by omega) Hxi.out Hx2.out (by omega) hlc2 hcap2 Hnil2.out).mono ?_
        rintro e w5 ⟨σ', rfl, hD', -⟩
        have HD' := Lib.hid hD'
        clear hD' HD hxc
        go_wp2
        exact ⟨⟨k + 1, σ', by omega, by omega, by go_num, HD'.out⟩, by simp [intOf]; omega⟩
      · have HD1 : Hid (Duo w wr p q σ σ 100) := Lib.hid (HD.out.more (by omega))
        clear HD
        go_wp2_with fail
        refine (HD1.out.crash a3 len3 cap3 xs3 (by omega) (Hx3.out.tch HD1.out.bel) hlc3 (by omega)).mono ?_
        rintro e w5 ⟨rfl, ht5, hb5⟩
        obtain ⟨-, N, B, hr5⟩ := (HD1.out.below hb5).at_
        have Ht5 := Lib.hid ht5
        have Hr5 := Lib.hid hr5
        have Hb5 := Lib.hid hb5
        have HB5 := Lib.hid (HD1.out.bel.trans (hb5.mono HD1.out.bel.size))
        clear ht5 hb5 hr5
        generalize Grw (fun _ => False) wr w5 = Mt at Ht5
        obtain ⟨t, ht⟩ : ∃ t, t = wr.heap.size := ⟨_, rfl⟩
        rw [← ht] at Ht5 ⊢
        clear ht
        go_wp2_with fail
        refine (crashR Ht5.out Hr5.out a3 len3 cap3 xs3 (by omega) (Hx3.out.tch HB5.out) (by omega)).mono ?_
        rintro e w6 ⟨rfl, hT6, hb6⟩
        have HT6 := Lib.hid hT6
        clear hT6 hb6 Ht5 Hr5 HB5 Hb5
        generalize w5.heap.size = y at HT6 ⊢
        go_wp2_with fail
        refine (same_any HT6.out (by omega)).mono ?_
        rintro e w7 ⟨rfl, hb7⟩
        have HT7 := Lib.hid (HT6.out.below hb7)
        clear hb7 HT6
        go_wp2_with fail
        refine (same_any (HD1.out.below HT7.out.bel) (by omega)).mono ?_
        rintro e w8 ⟨rfl, hb8⟩
        have HT8 := Lib.hid (HT7.out.below hb8)
        clear hb8 HT7
        go_wp2_with fail
        go_loopw [17] (fun i wx => ∃ (k2 : Nat) (σ' : St), k2 ≤ len4 ∧ k2 ≤ 20 ∧ i = .int .i64 k2 ∧ Duo wr wx t y σ' σ' (100 + 2 * k2)) (fun i _ => len4 - (intOf i).toNat)
        case atStart => exact ⟨0, _, by omega, by omega, rfl, HT8.out⟩
        case round =>
          obtain ⟨k2, σ', hk2, hk20, rfl, hT⟩ := hrel
          rename World => wx
          clear HT8
          have HT := Lib.hid hT
          clear hT
          by_cases hlt2 : k2 < len4
          · by_cases h20 : k2 < 20
            · obtain ⟨ad, x, rfl, hxk, hxi, hxc⟩ := (Hx4.out.tch (HD1.out.bel.trans (HT.out.bel.mono HD1.out.bel.size))).at_ hlt2
              have i0 : (0 : Int) ≤ (k2 : Int) := by omega
              have i1 : (k2 : Int) < (len4 : Int) := by omega
              have Hxi := Lib.hid hxi
              clear hxk hxi
              go_wp2_with fail
              refine (step_any x a2 len2 cap2 xs2 HT.out (by omega) Hxi.out (Hx2.out.tch HD1.out.bel) (by omega) hlc2 hcap2 Hnil2.out).mono ?_
              rintro e w9 ⟨σ9, rfl, hT9, -⟩
              have HT9 := Lib.hid hT9
              clear hT9 HT hxc
              go_wp2_with fail
              refine (same_any HT9.out (by omega)).mono ?_
              rintro e w10 ⟨rfl, hb10⟩
              have HT10 := Lib.hid (HT9.out.below hb10)
              clear hb10 HT9
              go_wp2
              exact ⟨⟨k2 + 1, σ9, by omega, by omega, by go_num, HT10.out⟩, by simp [intOf]; omega⟩
            · go_wp2_with fail
              refine (HT.out.crash none 0 0 [] (by omega) (Nums.nil _ _ _) (by omega) (by omega)).mono ?_
              rintro e w11 ⟨rfl, hu, hb11⟩
              obtain ⟨-, N, B, hry⟩ := (HT.out.below hb11).at_
              have HD11 := Lib.hid (HD1.out.below (HT.out.bel.trans (hb11.mono HT.out.bel.size)))
              have Hu := Lib.hid hu
              have Hry := Lib.hid hry
              clear hu hry hb11 HT
              generalize Grw (fun _ => False) wx w11 = Mu at Hu
              generalize wx.heap.size = u at Hu ⊢
              go_wp2_with fail
              refine (crashR Hu.out Hry.out none 0 0 [] (by omega) (Nums.nil _ _ _) (by omega)).mono ?_
              rintro e w12 ⟨rfl, hdz, hb12⟩
              have Hdz := Lib.hid hdz
              have HD12 := Lib.hid (HD11.out.below hb12)
              clear hdz hb12 Hu Hry HD11
              generalize w11.heap.size = z at Hdz ⊢
              go_wp2_with fail
              refine (same_any Hdz.out (by omega)).mono ?_
              rintro e w13 ⟨rfl, hb13⟩
              have HD13 := Lib.hid (HD12.out.below hb13)
              clear hb13 Hdz HD12
              go_wp2_with fail
              refine (same_any HD13.out (by omega)).mono ?_
              rintro e w14 ⟨rfl, hb14⟩
              have HB14 := Lib.hid (HD13.out.bel.trans (hb14.mono HD13.out.bel.size))
              clear hb14 HD13
              go_wp2
              go_ret
              exact ⟨rfl, HB14.out⟩
          · go_wp2_with fail
            refine (HT.out.crash none 0 0 [] (by omega) (Nums.nil _ _ _) (by omega) (by omega)).mono ?_
            rintro e w11 ⟨rfl, hu, hb11⟩
            obtain ⟨-, N, B, hry⟩ := (HT.out.below hb11).at_
            have HD11 := Lib.hid (HD1.out.below (HT.out.bel.trans (hb11.mono HT.out.bel.size)))
            have Hu := Lib.hid hu
            have Hry := Lib.hid hry
            clear hu hry hb11 HT
            generalize Grw (fun _ => False) wx w11 = Mu at Hu
            generalize wx.heap.size = u at Hu ⊢
            go_wp2_with fail
            refine (crashR Hu.out Hry.out none 0 0 [] (by omega) (Nums.nil _ _ _) (by omega)).mono ?_
            rintro e w12 ⟨rfl, hdz, hb12⟩
            have Hdz := Lib.hid hdz
            have HD12 := Lib.hid (HD11.out.below hb12)
            clear hdz hb12 Hu Hry HD11
            generalize w11.heap.size = z at Hdz ⊢
            go_wp2_with fail
            refine (same_any Hdz.out (by omega)).mono ?_
            rintro e w13 ⟨rfl, hb13⟩
            have HD13 := Lib.hid (HD12.out.below hb13)
            clear hb13 Hdz HD12
            go_wp2_with fail
            refine (same_any HD13.out (by omega)).mono ?_
            rintro e w14 ⟨rfl, hb14⟩
            have HB14 := Lib.hid (HD13.out.bel.trans (hb14.mono HD13.out.bel.size))
            clear hb14 HD13
            go_wp2
            go_ret
            exact ⟨rfl, HB14.out⟩
    · have HD1 : Hid (Duo w wr p q σ σ 100) := Lib.hid (HD.out.more (by omega))
      clear HD
      go_wp2_with fail
      refine (HD1.out.crash a3 len3 cap3 xs3 (by omega) (Hx3.out.tch HD1.out.bel) hlc3 (by omega)).mono ?_
      rintro e w5 ⟨rfl, ht5, hb5⟩
      obtain ⟨-, N, B, hr5⟩ := (HD1.out.below hb5).at_
      have Ht5 := Lib.hid ht5
      have Hr5 := Lib.hid hr5
      have Hb5 := Lib.hid hb5
      have HB5 := Lib.hid (HD1.out.bel.trans (hb5.mono HD1.out.bel.size))
      clear ht5 hb5 hr5
      generalize Grw (fun _ => False) wr w5 = Mt at Ht5
      obtain ⟨t, ht⟩ : ∃ t, t = wr.heap.size := ⟨_, rfl⟩
      rw [← ht] at Ht5 ⊢
      clear ht
      go_wp2_with fail
      refine (crashR Ht5.out Hr5.out a3 len3 cap3 xs3 (by omega) (Hx3.out.tch HB5.out) (by omega)).mono ?_
      rintro e w6 ⟨rfl, hT6, hb6⟩
      have HT6 := Lib.hid hT6
      clear hT6 hb6 Ht5 Hr5 HB5 Hb5
      generalize w5.heap.size = y at HT6 ⊢
      go_wp2_with fail
      refine (same_any HT6.out (by omega)).mono ?_
      rintro e w7 ⟨rfl, hb7⟩
      have HT7 := Lib.hid (HT6.out.below hb7)
      clear hb7 HT6
      go_wp2_with fail
      refine (same_any (HD1.out.below HT7.out.bel) (by omega)).mono ?_
      rintro e w8 ⟨rfl, hb8⟩
      have HT8 := Lib.hid (HT7.out.below hb8)
      clear hb8 HT7
      go_wp2_with fail
      go_loopw [17] (fun i wx => ∃ (k2 : Nat) (σ' : St), k2 ≤ len4 ∧ k2 ≤ 20 ∧ i = .int .i64 k2 ∧ Duo wr wx t y σ' σ' (100 + 2 * k2)) (fun i _ => len4 - (intOf i).toNat)
      case atStart => exact ⟨0, _, by omega, by omega, rfl, HT8.out⟩
      case round =>
        obtain ⟨k2, σ', hk2, hk20, rfl, hT⟩ := hrel
        rename World => wx
        clear HT8
        have HT := Lib.hid hT
        clear hT
        by_cases hlt2 : k2 < len4
        · by_cases h20 : k2 < 20
          · obtain ⟨ad, x, rfl, hxk, hxi, hxc⟩ := (Hx4.out.tch (HD1.out.bel.trans (HT.out.bel.mono HD1.out.bel.size))).at_ hlt2
            have i0 : (0 : Int) ≤ (k2 : Int) := by omega
            have i1 : (k2 : Int) < (len4 : Int) := by omega
            have Hxi := Lib.hid hxi
            clear hxk hxi
            go_wp2_with fail
            refine (step_any x a2 len2 cap2 xs2 HT.out (by omega) Hxi.out (Hx2.out.tch HD1.out.bel) (by omega) hlc2 hcap2 Hnil2.out).mono ?_
            rintro e w9 ⟨σ9, rfl, hT9, -⟩
            have HT9 := Lib.hid hT9
            clear hT9 HT hxc
            go_wp2_with fail
            refine (same_any HT9.out (by omega)).mono ?_
            rintro e w10 ⟨rfl, hb10⟩
            have HT10 := Lib.hid (HT9.out.below hb10)
            clear hb10 HT9
            go_wp2
            exact ⟨⟨k2 + 1, σ9, by omega, by omega, by go_num, HT10.out⟩, by simp [intOf]; omega⟩
          · go_wp2_with fail
            refine (HT.out.crash none 0 0 [] (by omega) (Nums.nil _ _ _) (by omega) (by omega)).mono ?_
            rintro e w11 ⟨rfl, hu, hb11⟩
            obtain ⟨-, N, B, hry⟩ := (HT.out.below hb11).at_
            have HD11 := Lib.hid (HD1.out.below (HT.out.bel.trans (hb11.mono HT.out.bel.size)))
            have Hu := Lib.hid hu
            have Hry := Lib.hid hry
            clear hu hry hb11 HT
            generalize Grw (fun _ => False) wx w11 = Mu at Hu
            generalize wx.heap.size = u at Hu ⊢
            go_wp2_with fail
            refine (crashR Hu.out Hry.out none 0 0 [] (by omega) (Nums.nil _ _ _) (by omega)).mono ?_
            rintro e w12 ⟨rfl, hdz, hb12⟩
            have Hdz := Lib.hid hdz
            have HD12 := Lib.hid (HD11.out.below hb12)
            clear hdz hb12 Hu Hry HD11
            generalize w11.heap.size = z at Hdz ⊢
            go_wp2_with fail
            refine (same_any Hdz.out (by omega)).mono ?_
            rintro e w13 ⟨rfl, hb13⟩
            have HD13 := Lib.hid (HD12.out.below hb13)
            clear hb13 Hdz HD12
            go_wp2_with fail
            refine (same_any HD13.out (by omega)).mono ?_
            rintro e w14 ⟨rfl, hb14⟩
            have HB14 := Lib.hid (HD13.out.bel.trans (hb14.mono HD13.out.bel.size))
            clear hb14 HD13
            go_wp2
            go_ret
            exact ⟨rfl, HB14.out⟩
        · go_wp2_with fail
          refine (HT.out.crash none 0 0 [] (by omega) (Nums.nil _ _ _) (by omega) (by omega)).mono ?_
          rintro e w11 ⟨rfl, hu, hb11⟩
          obtain ⟨-, N, B, hry⟩ := (HT.out.below hb11).at_
          have HD11 := Lib.hid (HD1.out.below (HT.out.bel.trans (hb11.mono HT.out.bel.size)))
          have Hu := Lib.hid hu
          have Hry := Lib.hid hry
          clear hu hry hb11 HT
          generalize Grw (fun _ => False) wx w11 = Mu at Hu
          generalize wx.heap.size = u at Hu ⊢
          go_wp2_with fail
          refine (crashR Hu.out Hry.out none 0 0 [] (by omega) (Nums.nil _ _ _) (by omega)).mono ?_
          rintro e w12 ⟨rfl, hdz, hb12⟩
          have Hdz := Lib.hid hdz
          have HD12 := Lib.hid (HD11.out.below hb12)
          clear hdz hb12 Hu Hry HD11
          generalize w11.heap.size = z at Hdz ⊢
          go_wp2_with fail
          refine (same_any Hdz.out (by omega)).mono ?_
          rintro e w13 ⟨rfl, hb13⟩
          have HD13 := Lib.hid (HD12.out.below hb13)
          clear hb13 Hdz HD12
          go_wp2_with fail
          refine (same_any HD13.out (by omega)).mono ?_
          rintro e w14 ⟨rfl, hb14⟩
          have HB14 := Lib.hid (HD13.out.bel.trans (hb14.mono HD13.out.bel.size))
          clear hb14 HD13
          go_wp2
          go_ret
          exact ⟨rfl, HB14.out⟩
end Go.Proofs.Ytgkgkekgmcldmaa
