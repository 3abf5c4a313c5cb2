/- The walk of the law StorePlays: the Go text returns true, and writes nothing that was there. -/
import Derived.Test.YtgkgkekgmcldmaaDuo3
namespace Go.Proofs.Ytgkgkekgmcldmaa
open Go.RowKit
set_option maxRecDepth 100000 in
set_option maxHeartbeats 8000000 in
theorem storePlays_walk (a0 : Int) (a1 : Option Addr) (len1 cap1 : Nat) (z1 : List Int) (a2 : Option Addr) (len2 cap2 : Nat) (z2 : List Int) (a3 : ByteArray) (w : World) (h0 : inK .i64 a0) (w1 : IsRow .i64 w a1 len1 cap1 z1) (w2 : IsRow .u8 w a2 len2 cap2 z2) (h3 : a3.size ≤ maxLen) :
    Calls Try.prog 3 #[.int .i64 a0, .slice a1 len1 cap1, .slice a2 len2 cap2, .string a3] w fun e w' => e = .returned (.bool true) ∧ Below w.heap.size w w' := by
  have hnil2 : a2 = none → len2 = 0 ∧ cap2 = 0 := fun e => by
    rcases w2 with ⟨_, h1, h2, _⟩ | ⟨x, h, _⟩
    · exact ⟨h1, h2⟩
    · rw [e] at h; cases h
  have Hnil2 := Lib.hid hnil2
  clear hnil2
  obtain ⟨hx1, hlc1, hcap1⟩ := w1.nums
  generalize z1.take len1 = xs1 at hx1
  have Hx1 := Lib.hid hx1
  clear hx1 w1
  obtain ⟨hx2, hlc2, hcap2⟩ := w2.bytes
  generalize z2.take len2 = xs2 at hx2
  have Hx2 := Lib.hid hx2
  clear hx2 w2
  obtain ⟨n, rfl⟩ : ∃ n, a3 = str n := ⟨a3.toList, (str_of a3).symm⟩
  have hn := str_size n
  clear h3
  obtain ⟨lim, hlim⟩ : ∃ lim, lim = a0 % 200 := ⟨_, rfl⟩
  have l1 : 0 ≤ lim := by omega
  have l2 : lim ≤ 199 := by omega
  have wl := fun W => wi4 a0 200 W h0 (by omega) (by omega)
  rw [← hlim] at wl
  have Wl := Lib.hid wl
  clear wl hlim h0
  by_cases hbig : len2 ≤ 100 ∧ n.length ≤ 60
  case neg =>
    by_cases b1 : len2 ≤ 100
    · have b2 : ¬ n.length ≤ 60 := fun h => hbig ⟨b1, h⟩
      clear hbig
      go_enter Try.func3, Try.ntmps3
      go_wp2_with fail
      refine (known4 w).mono ?_
      rintro e w1 ⟨rfl, hb1⟩
      have Hb1 := Lib.hid hb1
      clear hb1
      go_wp2
      go_ret
      exact ⟨rfl, Hb1.out⟩
    · clear hbig
      go_enter Try.func3, Try.ntmps3
      go_wp2_with fail
      refine (known4 w).mono ?_
      rintro e w1 ⟨rfl, hb1⟩
      have Hb1 := Lib.hid hb1
      clear hb1
      go_wp2
      go_ret
      exact ⟨rfl, Hb1.out⟩
  case pos =>
  obtain ⟨b1, b2⟩ := hbig
  go_enter Try.func3, Try.ntmps3
  go_wp2_with fail
  refine (known4 w).mono ?_
  rintro e w1 ⟨rfl, hb1⟩
  have Hb1 := Lib.hid hb1
  clear hb1
  go_wp2_with fail
  refine (Wl.out _).mono ?_
  rintro e w3 ⟨rfl, rfl⟩
  go_wp2_with fail
  refine (sNew_any lim w1).mono ?_
  rintro e w2 ⟨rfl, hw2⟩
  have Hw2 := Lib.hid hw2
  clear hw2
  go_wp2_with fail
  refine (rNew_any lim w2).mono ?_
  rintro e w3 ⟨rfl, hw3⟩
  have hD : Duo w w3 w1.heap.size w2.heap.size (St.new lim) (St.new lim) 0 := Duo.new w1 lim (by omega) Hb1.out Hw2.out hw3
  have HD := Lib.hid hD
  clear Hw2 hw3 hD Hb1
  generalize w1.heap.size = p at HD ⊢
  generalize w2.heap.size = q at HD ⊢
  go_wp2_with fail
  go_loopw [12] (fun i wr => ∃ (k : Nat) (σ : St), k ≤ len1 ∧ k ≤ 60 ∧ i = .int .i64 k ∧ Duo w wr p q σ σ (2 * k)) (fun i _ => len1 - (intOf i).toNat)
  case atStart => exact ⟨0, _, by omega, by omega, rfl, HD.out⟩
  case round =>
    obtain ⟨k, σ, hk, hk60, rfl, hD⟩ := hrel
    rename World => wr
    clear HD
    have HD := Lib.hid hD
    clear hD
    by_cases hlt : k < len1
    · by_cases h60 : k < 60
      · obtain ⟨ad, x, rfl, hxk, hxi, hxc⟩ := (Hx1.out.tch HD.out.bel).at_ hlt
        have i0 : (0 : Int) ≤ (k : Int) := by omega
        have i1 : (k : Int) < (len1 : Int) := by omega
        have Hxi := Lib.hid hxi
        clear hxk hxi
        go_wp2_with fail
        refine (step_any x a2 len2 cap2 xs2 HD.out (by omega) Hxi.out Hx2.out (by omega) hlc2 hcap2 Hnil2.out).mono ?_
        rintro e w5 ⟨σ', rfl, hD', -⟩
        have HD' := Lib.hid hD'
        clear hD' HD hxc
        go_wp2_with fail
        refine (same_any HD'.out (by omega)).mono ?_
        rintro e w6 ⟨rfl, hb6⟩
        have HD6 := Lib.hid (HD'.out.below hb6)
        clear hb6 HD'
        go_wp2
        exact ⟨⟨k + 1, σ', by omega, by omega, by go_num, HD6.out⟩, by simp [intOf]; omega⟩
      · have HD1 : Hid (Duo w wr p q σ σ 200) := Lib.hid (HD.out.more (by omega))
        obtain ⟨rs, hrs⟩ : ∃ r, (σ.sync n).1 = r := ⟨_, rfl⟩
        obtain ⟨rw_, hrw⟩ : ∃ r, ((σ.sync n).2.write n []).1 = r := ⟨_, rfl⟩
        have Hrs := Lib.hid hrs
        have Hrw := Lib.hid hrw
        clear HD hrs hrw
        go_wp2_with fail
        obtain ⟨⟨M, A, hs⟩, -⟩ := HD1.out.at_
        refine (sRead_any n hs (by omega)).mono ?_
        rintro e w5 ⟨v5, rfl, -, hb5⟩
        have HD5 := Lib.hid (HD1.out.below hb5)
        clear hs hb5 HD1
        go_wp2_with fail
        obtain ⟨-, N, B, hr⟩ := HD5.out.at_
        refine (rRead_any n hr (by omega)).mono ?_
        rintro e w6 ⟨v6, rfl, -, hb6⟩
        have HD6 := Lib.hid (HD5.out.below hb6)
        clear hr hb6 HD5
        go_wp2_with fail
        refine (HD6.out.sync n rs Hrs.out (by omega) (by omega)).mono ?_
        rintro e w7 ⟨rfl, h7⟩
        have HD7 := Lib.hid h7
        clear h7 HD6
        go_wp2_with fail
        refine (HD7.out.syncR n rs Hrs.out (by omega)).mono ?_
        rintro e w8 ⟨rfl, h8⟩
        have HD8 := Lib.hid h8
        clear h8 HD7
        go_wp2_with fail
        refine (HD8.out.write n none 0 0 [] rw_ Hrw.out (by omega) (by omega) (Nums.nil _ _ _) (by omega) (by omega) (by omega)).mono ?_
        rintro e w9 ⟨rfl, h9⟩
        have HD9 := Lib.hid h9
        clear h9 HD8
        go_wp2_with fail
        refine (HD9.out.writeR n none 0 0 [] rw_ Hrw.out (by omega) (by omega) (Nums.nil _ _ _) (by omega) (fun _ => rfl)).mono ?_
        rintro e w10 ⟨rfl, h10⟩
        have HB10 := Lib.hid h10.bel
        clear h10 HD9
        go_wp2
        go_ret
        exact ⟨rfl, HB10.out⟩
    · have HD1 : Hid (Duo w wr p q σ σ 200) := Lib.hid (HD.out.more (by omega))
      obtain ⟨rs, hrs⟩ : ∃ r, (σ.sync n).1 = r := ⟨_, rfl⟩
      obtain ⟨rw_, hrw⟩ : ∃ r, ((σ.sync n).2.write n []).1 = r := ⟨_, rfl⟩
      have Hrs := Lib.hid hrs
      have Hrw := Lib.hid hrw
      clear HD hrs hrw
      go_wp2_with fail
      obtain ⟨⟨M, A, hs⟩, -⟩ := HD1.out.at_
      refine (sRead_any n hs (by omega)).mono ?_
      rintro e w5 ⟨v5, rfl, -, hb5⟩
      have HD5 := Lib.hid (HD1.out.below hb5)
      clear hs hb5 HD1
      go_wp2_with fail
      obtain ⟨-, N, B, hr⟩ := HD5.out.at_
      refine (rRead_any n hr (by omega)).mono ?_
      rintro e w6 ⟨v6, rfl, -, hb6⟩
      have HD6 := Lib.hid (HD5.out.below hb6)
      clear hr hb6 HD5
      go_wp2_with fail
      refine (HD6.out.sync n rs Hrs.out (by omega) (by omega)).mono ?_
      rintro e w7 ⟨rfl, h7⟩
      have HD7 := Lib.hid h7
      clear h7 HD6
      go_wp2_with fail
      refine (HD7.out.syncR n rs Hrs.out (by omega)).mono ?_
      rintro e w8 ⟨rfl, h8⟩
      have HD8 := Lib.hid h8
      clear h8 HD7
      go_wp2_with fail
      refine (HD8.out.write n none 0 0 [] rw_ Hrw.out (by omega) (by omega) (Nums.nil _ _ _) (by omega) (by omega) (by omega)).mono ?_
      rintro e w9 ⟨rfl, h9⟩
      have HD9 := Lib.hid h9
      clear h9 HD8
      go_wp2_with fail
      refine (HD9.out.writeR n none 0 0 [] rw_ Hrw.out (by omega) (by omega) (Nums.nil _ _ _) (by omega) (fun _ => rfl)).mono ?_
      rintro e w10 ⟨rfl, h10⟩
      have HB10 := Lib.hid h10.bel
      clear h10 HD9
      go_wp2
      go_ret
      exact ⟨rfl, HB10.out⟩
end Go.Proofs.Ytgkgkekgmcldmaa
