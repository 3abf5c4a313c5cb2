/- The walk of the law StoreAgain: the Go text returns true, and writes nothing that was there. -/
import Derived.Test.YtgkgkekgmcldmaaDuo3
namespace Go.Proofs.Ytgkgkekgmcldmaa
open Go.RowKit
set_option maxRecDepth 100000 in
set_option maxHeartbeats 8000000 in
theorem storeAgain_walk (a0 : Option Addr) (len0 cap0 : Nat) (z0 : List Int) (a1 : Option Addr) (len1 cap1 : Nat) (z1 : List Int) (a2 : Option Addr) (len2 cap2 : Nat) (z2 : List Int) (a3 : Option Addr) (len3 cap3 : Nat) (z3 : List Int) (w : World) (w0 : IsRow .i64 w a0 len0 cap0 z0) (w1 : IsRow .u8 w a1 len1 cap1 z1) (w2 : IsRow .i64 w a2 len2 cap2 z2) (w3 : IsRow .i64 w a3 len3 cap3 z3) :
    Calls Try.prog 6 #[.slice a0 len0 cap0, .slice a1 len1 cap1, .slice a2 len2 cap2, .slice a3 len3 cap3] w fun e w' => e = .returned (.bool true) ∧ Below w.heap.size w w' := by
  have hnil1 : a1 = none → len1 = 0 ∧ cap1 = 0 := fun e => by
    rcases w1 with ⟨_, h1, h2, _⟩ | ⟨x, h, _⟩
    · exact ⟨h1, h2⟩
    · rw [e] at h; cases h
  have Hnil1 := Lib.hid hnil1
  clear hnil1
  obtain ⟨hx0, hlc0, hcap0⟩ := w0.nums
  generalize z0.take len0 = xs0 at hx0
  have Hx0 := Lib.hid hx0
  clear hx0 w0
  obtain ⟨hx1, hlc1, hcap1⟩ := w1.bytes
  generalize z1.take len1 = xs1 at hx1
  have Hx1 := Lib.hid hx1
  clear hx1 w1
  obtain ⟨hx2, hlc2, hcap2⟩ := w2.nums
  generalize z2.take len2 = xs2 at hx2
  have Hx2 := Lib.hid hx2
  clear hx2 w2
  obtain ⟨hx3, hlc3, hcap3⟩ := w3.nums
  generalize z3.take len3 = xs3 at hx3
  have Hx3 := Lib.hid hx3
  clear hx3 w3
  by_cases hbig : len1 ≤ 60 ∧ len2 ≤ 60 ∧ len3 ≤ 60
  case neg =>
    by_cases b1 : len1 ≤ 60
    · by_cases b2 : len2 ≤ 60
      · have b3 : ¬ len3 ≤ 60 := fun h => hbig ⟨b1, b2, h⟩
        clear hbig
        go_enter Try.func6, Try.ntmps6
        go_wp2_with fail
        refine (known4 w).mono ?_
        rintro e w1 ⟨rfl, hb1⟩
        have Hb1 := Lib.hid hb1
        clear hb1
        go_wp2
        go_ret
        exact ⟨rfl, Hb1.out⟩
      · clear hbig
        go_enter Try.func6, Try.ntmps6
        go_wp2_with fail
        refine (known4 w).mono ?_
        rintro e w1 ⟨rfl, hb1⟩
        have Hb1 := Lib.hid hb1
        clear hb1
        go_wp2
        go_ret
        exact ⟨rfl, Hb1.out⟩
    · clear hbig
      go_enter Try.func6, Try.ntmps6
      go_wp2_with fail
      refine (known4 w).mono ?_
      rintro e w1 ⟨rfl, hb1⟩
      have Hb1 := Lib.hid hb1
      clear hb1
      go_wp2
      go_ret
      exact ⟨rfl, Hb1.out⟩
  case pos =>
  obtain ⟨b1, b2, b3⟩ := hbig
  go_enter Try.func6, Try.ntmps6
  go_wp2_with fail
  refine (known4 w).mono ?_
  rintro e w1 ⟨rfl, hb1⟩
  have Hb1 := Lib.hid hb1
  clear hb1
  go_wp2_with fail
  refine (sNew_any 200 w1).mono ?_
  rintro e w2 ⟨rfl, hw2⟩
  have Hw2 := Lib.hid hw2
  clear hw2
  go_wp2_with fail
  refine (rNew_any 200 w2).mono ?_
  rintro e w3 ⟨rfl, hw3⟩
  have hD : Duo w w3 w1.heap.size w2.heap.size (St.new 200) (St.new 200) 0 := Duo.new w1 200 (by omega) Hb1.out Hw2.out hw3
  have HD := Lib.hid hD
  clear Hw2 hw3 hD Hb1
  generalize w1.heap.size = p at HD ⊢
  generalize w2.heap.size = q at HD ⊢
  go_wp2_with fail
  go_loopw [11] (fun i wr => ∃ (k : Nat) (σ : St), k ≤ len0 ∧ k ≤ 30 ∧ i = .int .i64 k ∧ Duo w wr p q σ σ (2 * k)) (fun i _ => len0 - (intOf i).toNat)
  case atStart => exact ⟨0, _, by omega, by omega, rfl, HD.out⟩
  case round =>
    obtain ⟨k, σ, hk, hk30, rfl, hD⟩ := hrel
    rename World => wr
    clear HD
    have HD := Lib.hid hD
    clear hD
    by_cases hlt : k < len0
    · by_cases h30 : k < 30
      · obtain ⟨ad, x, rfl, hxk, hxi, hxc⟩ := (Hx0.out.tch HD.out.bel).at_ hlt
        have i0 : (0 : Int) ≤ (k : Int) := by omega
        have i1 : (k : Int) < (len0 : Int) := by omega
        have Hxi := Lib.hid hxi
        clear hxk hxi
        go_wp2_with fail
        refine (step_any x a1 len1 cap1 xs1 HD.out (by omega) Hxi.out Hx1.out (by omega) hlc1 hcap1 Hnil1.out).mono ?_
        rintro e w5 ⟨σ', rfl, hD', -⟩
        have HD' := Lib.hid hD'
        clear hD' HD hxc
        go_wp2
        exact ⟨⟨k + 1, σ', by omega, by omega, by go_num, HD'.out⟩, by simp [intOf]; omega⟩
      · have HD1 : Hid (Duo w wr p q σ σ 100) := Lib.hid (HD.out.more (by omega))
        clear HD
        go_wp2_with fail
        refine (HD1.out.crash a2 len2 cap2 xs2 (by omega) (Hx2.out.tch HD1.out.bel) hlc2 (by omega)).mono ?_
        rintro e w5 ⟨rfl, ht5, hb5⟩
        have hsame : (σ.crash xs2).crash xs3 = σ.crash xs2 := crash_again HD1.out.ok _ _
        obtain ⟨-, N, B, hr5⟩ := (HD1.out.below hb5).at_
        have Ht5 := Lib.hid ht5
        have Hr5 := Lib.hid hr5
        have HB5 := Lib.hid (HD1.out.bel.trans (hb5.mono HD1.out.bel.size))
        have Hsame := Lib.hid hsame
        clear ht5 hb5 hsame hr5 HD1
        generalize Grw (fun _ => False) wr w5 = Mt at Ht5
        have hb := Ht5.out.bel
        generalize wr.heap.size = t at Ht5 ⊢
        go_wp2_with fail
        refine (crash_s Ht5.out a3 len3 cap3 xs3 (by omega) (Hx3.out.tch HB5.out) hlc3 (by omega)).mono ?_
        rintro e w6 ⟨rfl, hu6, hb6⟩
        rw [Hsame.out] at hu6
        have Hu6 := Lib.hid hu6
        have Ht6 := Lib.hid (Ht5.out.below hb6)
        have Hr6 := Lib.hid (Hr5.out.below hb6)
        have HB6 := Lib.hid (HB5.out.trans (hb6.mono HB5.out.size))
        clear hu6 hb6 Hsame Ht5 Hr5 HB5 hb
        generalize Grw (fun _ => False) w5 w6 = Mu at Hu6
        generalize w5.heap.size = u at Hu6 ⊢
        go_wp2_with fail
        refine (crashR Hu6.out Hr6.out a2 len2 cap2 xs2 (by omega) (Hx2.out.tch HB6.out) (by omega)).mono ?_
        rintro e w7 ⟨rfl, hdu, hb7⟩
        have Hdu := Lib.hid hdu
        have Ht7 := Lib.hid (Ht6.out.below hb7)
        have Hr7 := Lib.hid (Hr6.out.below hb7)
        have HB7 := Lib.hid (HB6.out.trans (hb7.mono HB6.out.size))
        clear hdu hb7 Hu6 Ht6 Hr6 HB6
        generalize w6.heap.size = y at Hdu ⊢
        go_wp2_with fail
        refine (same_any Hdu.out (by omega)).mono ?_
        rintro e w8 ⟨rfl, hb8⟩
        have Ht8 := Lib.hid (Ht7.out.below hb8)
        have Hr8 := Lib.hid (Hr7.out.below hb8)
        have HB8 := Lib.hid (HB7.out.trans (hb8.mono HB7.out.size))
        clear hb8 Ht7 Hr7 HB7 Hdu
        go_wp2_with fail
        refine (crashR Ht8.out Hr8.out a2 len2 cap2 xs2 (by omega) (Hx2.out.tch HB8.out) (by omega)).mono ?_
        rintro e w9 ⟨rfl, hdt, hb9⟩
        have Hdt := Lib.hid hdt
        have HB9 := Lib.hid (HB8.out.trans (hb9.mono HB8.out.size))
        clear hdt hb9 Ht8 Hr8 HB8
        generalize w8.heap.size = y2 at Hdt ⊢
        go_wp2_with fail
        refine (same_any Hdt.out (by omega)).mono ?_
        rintro e w10 ⟨rfl, hb10⟩
        have HB10 := Lib.hid (HB9.out.trans (hb10.mono HB9.out.size))
        clear hb10 HB9 Hdt
        go_wp2
        go_ret
        exact ⟨rfl, HB10.out⟩
    · have HD1 : Hid (Duo w wr p q σ σ 100) := Lib.hid (HD.out.more (by omega))
      clear HD
      go_wp2_with fail
      refine (HD1.out.crash a2 len2 cap2 xs2 (by omega) (Hx2.out.tch HD1.out.bel) hlc2 (by omega)).mono ?_
      rintro e w5 ⟨rfl, ht5, hb5⟩
      have hsame : (σ.crash xs2).crash xs3 = σ.crash xs2 := crash_again HD1.out.ok _ _
      obtain ⟨-, N, B, hr5⟩ := (HD1.out.below hb5).at_
      have Ht5 := Lib.hid ht5
      have Hr5 := Lib.hid hr5
      have HB5 := Lib.hid (HD1.out.bel.trans (hb5.mono HD1.out.bel.size))
      have Hsame := Lib.hid hsame
      clear ht5 hb5 hsame hr5 HD1
      generalize Grw (fun _ => False) wr w5 = Mt at Ht5
      have hb := Ht5.out.bel
      generalize wr.heap.size = t at Ht5 ⊢
      go_wp2_with fail
      refine (crash_s Ht5.out a3 len3 cap3 xs3 (by omega) (Hx3.out.tch HB5.out) hlc3 (by omega)).mono ?_
      rintro e w6 ⟨rfl, hu6, hb6⟩
      rw [Hsame.out] at hu6
      have Hu6 := Lib.hid hu6
      have Ht6 := Lib.hid (Ht5.out.below hb6)
      have Hr6 := Lib.hid (Hr5.out.below hb6)
      have HB6 := Lib.hid (HB5.out.trans (hb6.mono HB5.out.size))
      clear hu6 hb6 Hsame Ht5 Hr5 HB5 hb
      generalize Grw (fun _ => False) w5 w6 = Mu at Hu6
      generalize w5.heap.size = u at Hu6 ⊢
      go_wp2_with fail
      refine (crashR Hu6.out Hr6.out a2 len2 cap2 xs2 (by omega) (Hx2.out.tch HB6.out) (by omega)).mono ?_
      rintro e w7 ⟨rfl, hdu, hb7⟩
      have Hdu := Lib.hid hdu
      have Ht7 := Lib.hid (Ht6.out.below hb7)
      have Hr7 := Lib.hid (Hr6.out.below hb7)
      have HB7 := Lib.hid (HB6.out.trans (hb7.mono HB6.out.size))
      clear hdu hb7 Hu6 Ht6 Hr6 HB6
      generalize w6.heap.size = y at Hdu ⊢
      go_wp2_with fail
      refine (same_any Hdu.out (by omega)).mono ?_
      rintro e w8 ⟨rfl, hb8⟩
      have Ht8 := Lib.hid (Ht7.out.below hb8)
      have Hr8 := Lib.hid (Hr7.out.below hb8)
      have HB8 := Lib.hid (HB7.out.trans (hb8.mono HB7.out.size))
      clear hb8 Ht7 Hr7 HB7 Hdu
      go_wp2_with fail
      refine (crashR Ht8.out Hr8.out a2 len2 cap2 xs2 (by omega) (Hx2.out.tch HB8.out) (by omega)).mono ?_
      rintro e w9 ⟨rfl, hdt, hb9⟩
      have Hdt := Lib.hid hdt
      have HB9 := Lib.hid (HB8.out.trans (hb9.mono HB8.out.size))
      clear hdt hb9 Ht8 Hr8 HB8
      generalize w8.heap.size = y2 at Hdt ⊢
      go_wp2_with fail
      refine (same_any Hdt.out (by omega)).mono ?_
      rintro e w10 ⟨rfl, hb10⟩
      have HB10 := Lib.hid (HB9.out.trans (hb10.mono HB9.out.size))
      clear hb10 HB9 Hdt
      go_wp2
      go_ret
      exact ⟨rfl, HB10.out⟩
end Go.Proofs.Ytgkgkekgmcldmaa
