/- The walk of the law StoreTraces: the Go text returns true, and writes nothing that was there. -/
import Derived.Test.YtgkgkekgmcldmaaDuo3
namespace Go.Proofs.Ytgkgkekgmcldmaa
open Go.RowKit
set_option maxRecDepth 100000 in
set_option maxHeartbeats 8000000 in
theorem storeTraces_walk (a0 : Option Addr) (len0 cap0 : Nat) (z0 : List Int) (a1 : Option Addr) (len1 cap1 : Nat) (z1 : List Int) (w : World) (w0 : IsRow .i64 w a0 len0 cap0 z0) (w1 : IsRow .u8 w a1 len1 cap1 z1) :
    Calls Try.prog 5 #[.slice a0 len0 cap0, .slice a1 len1 cap1] w fun e w' => e = .returned (.bool true) ∧ Below w.heap.size w w' := by
  have hnil1 : a1 = none → len1 = 0 ∧ cap1 = 0 := fun e => by
    rcases w1 with ⟨_, h1, h2, _⟩ | ⟨x, h, _⟩
    · exact ⟨h1, h2⟩
    · rw [e] at h; cases h
  have Hnil1 := Lib.hid hnil1
  clear hnil1
  obtain ⟨hx0, hlc0, hcap0⟩ := w0.nums
  generalize z0.take len0 = xs0 at hx0
  have Hx0 := Lib.hid hx0
  clear hx0 w0
  obtain ⟨hx1, hlc1, hcap1⟩ := w1.bytes
  generalize z1.take len1 = xs1 at hx1
  have Hx1 := Lib.hid hx1
  clear hx1 w1
  by_cases hbig : len1 ≤ 40
  case neg =>
    go_enter Try.func5, Try.ntmps5
    go_wp2_with fail
    refine (known4 w).mono ?_
    rintro e w1 ⟨rfl, hb1⟩
    have Hb1 := Lib.hid hb1
    clear hb1
    go_wp2
    go_ret
    exact ⟨rfl, Hb1.out⟩
  case pos =>
  go_enter Try.func5, Try.ntmps5
  go_wp2_with fail
  refine (known4 w).mono ?_
  rintro e w1 ⟨rfl, hb1⟩
  have Hb1 := Lib.hid hb1
  clear hb1
  go_wp2_with fail
  refine (sNew_any 60 w1).mono ?_
  rintro e w2 ⟨rfl, hw2⟩
  have Hw2 := Lib.hid hw2
  clear hw2
  go_wp2_with fail
  refine (rNew_any 60 w2).mono ?_
  rintro e w3 ⟨rfl, hw3⟩
  have hD : Duo w w3 w1.heap.size w2.heap.size (St.new 60) (St.new 60) 0 := Duo.new w1 60 (by omega) Hb1.out Hw2.out hw3
  have HD := Lib.hid hD
  clear Hw2 hw3 hD Hb1
  generalize w1.heap.size = p at HD ⊢
  generalize w2.heap.size = q at HD ⊢
  go_wp2_with fail
  go_loopw [7, 8] (fun d i wr => ∃ (k : Nat) (σ : St), k ≤ len0 ∧ k ≤ 40 ∧ i = .int .i64 k ∧ d = .int .i64 (σ.ops.length : Int) ∧ Duo w wr p q σ σ (2 * k) ∧ ∀ o ∈ σ.ops, 1 ≤ o.1) (fun _ i _ => len0 - (intOf i).toNat)
  case atStart => exact ⟨0, _, by omega, by omega, rfl, rfl, HD.out, by simp [St.new]⟩
  case round =>
    obtain ⟨k, σ, hk, hk40, rfl, rfl, hD, hO⟩ := hrel
    rename World => wr
    clear HD
    have HD := Lib.hid hD
    have HO := Lib.hid hO
    have hol := hD.ok.ops
    obtain ⟨d, hd⟩ : ∃ d, d = σ.ops.length := ⟨_, rfl⟩
    rw [← hd] at hol ⊢
    have Hd := Lib.hid hd
    clear hD hO hd
    by_cases hlt : k < len0
    · by_cases h40 : k < 40
      · go_wp2_with fail
        obtain ⟨-, N, B, hr⟩ := HD.out.at_
        refine (rTrace_any hr (by omega)).mono ?_
        rintro e w4 ⟨v4, rfl, hv4, hb4⟩
        rw [← Hd.out] at hv4
        obtain ⟨P4, c4, rfl, _, _, _⟩ := own_form hv4
        have HD4 := Lib.hid (HD.out.below hb4)
        clear hv4 hb4 hr HD
        obtain ⟨ad, x, rfl, hxk, hxi, hxc⟩ := (Hx0.out.tch HD4.out.bel).at_ hlt
        have i0 : (0 : Int) ≤ (k : Int) := by omega
        have i1 : (k : Int) < (len0 : Int) := by omega
        have Hxi := Lib.hid hxi
        clear hxk hxi
        go_wp2_with fail
        refine (step_any x a1 len1 cap1 xs1 HD4.out (by omega) Hxi.out Hx1.out (by omega) hlc1 hcap1 Hnil1.out).mono ?_
        rintro e w5 ⟨σ', rfl, hD', hU⟩
        have HD' := Lib.hid hD'
        have HO' := Lib.hid (hU HO.out)
        have hol' := hD'.ok.ops
        clear hD' hU HO HD4 hxc
        obtain ⟨d', hd'⟩ : ∃ d', d' = σ'.ops.length := ⟨_, rfl⟩
        rw [← hd'] at hol'
        have Hd' := Lib.hid hd'
        clear hd'
        go_wp2_with fail
        obtain ⟨-, N', B', hr'⟩ := HD'.out.at_
        refine (rTrace_any hr' (by omega)).mono ?_
        rintro e w6 ⟨v6, rfl, hv6, hb6⟩
        rw [← Hd'.out] at hv6
        obtain ⟨P6, c6, rfl, _, _, _⟩ := own_form hv6
        have HD6 := Lib.hid (HD'.out.below hb6)
        clear hv6 hb6 hr' HD'
        go_wp2
        exact ⟨⟨k + 1, σ', by omega, by omega, by go_num, by rw [← Hd'.out]; go_num, HD6.out, HO'.out⟩, by simp [intOf]; omega⟩
      · have HD1 : Hid (Duo w wr p q σ σ 100) := Lib.hid (HD.out.more (by omega))
        clear HD
        go_wp2_with fail
        obtain ⟨⟨M, A, hs⟩, -⟩ := HD1.out.at_
        refine (sTrace_any hs (by omega)).mono ?_
        rintro e w4 ⟨v4, rfl, hv4, hb4⟩
        rw [← Hd.out] at hv4
        obtain ⟨P4, c4, rfl, hc4, _, _⟩ := own_form hv4
        have HD4 := Lib.hid (HD1.out.below hb4)
        have Hv4 := Lib.hid hv4
        have hon := HD1.out.ok.onames
        have Hon := Lib.hid hon
        clear hv4 hb4 hs HD1 hon
        go_wp2_with fail
        go_loopw [11] (fun i wx => ∃ j : Nat, j ≤ d ∧ i = .int .i64 j ∧ w4 = wx) (fun i _ => d - (intOf i).toNat)
        case atStart => exact ⟨0, by omega, rfl, rfl⟩
        case round =>
          obtain ⟨j, hj, rfl, rfl⟩ := hrel
          by_cases hjd : j < d
          · obtain ⟨⟨o, nm⟩, hok⟩ : ∃ r, σ.ops[j]? = some r := ⟨_, List.getElem?_eq_getElem (by have := Hd.out; omega)⟩
            have hmem := List.mem_of_getElem? hok
            have o1 : 1 ≤ o := HO.out _ hmem
            obtain ⟨hnm, _, o4⟩ := Hon.out _ hmem
            have o4 : o ≤ 4 := o4
            have hnl : 1 ≤ nm.length := (nameOk_le hnm).1
            obtain ⟨ha1, ha2⟩ := opCells_at hok
            obtain ⟨g1, rfl, hg1⟩ := own_a Hv4.out (by omega)
            have y1 : w4.cell? ⟨g1, j * 2, none⟩ = some (.int .i64 o) := hg1 _ _ ha1
            have y2 : w4.cell? ⟨g1, j * 2 + 1, none⟩ = some (.string (str nm)) := hg1 _ _ ha2
            have i0 : (0 : Int) ≤ (j : Int) := by omega
            have i1 : (j : Int) < (d : Int) := by omega
            have dj : decide (j < d) = true := by simp; omega
            have q1 : decide (o < 1) = false := by simp; omega
            have q2 : decide (4 < o) = false := by simp; omega
            have q3 : (str nm).toList.isEmpty = false := by
              rw [str_list]
              cases nm with
              | nil => simp at hnl
              | cons x t => rfl
            clear hok hmem hnm ha1 ha2 hg1 hnl
            go_wp2
            exact ⟨⟨j + 1, by omega, by go_num, trivial⟩, by simp [intOf]; omega⟩
          · obtain rfl : j = d := by omega
            have dj : decide (j < j) = false := by simp
            have hB4 := HD4.out.bel
            have HB4 := Lib.hid hB4
            clear hB4 hjd hj
            go_wp2_with fail
            refine (same_any HD4.out (by omega)).mono ?_
            rintro e w8 ⟨rfl, hb8⟩
            have HB8 := Lib.hid (HB4.out.trans (hb8.mono HB4.out.size))
            clear hb8 HB4
            go_wp2
            go_ret
            exact ⟨rfl, HB8.out⟩
    · have HD1 : Hid (Duo w wr p q σ σ 100) := Lib.hid (HD.out.more (by omega))
      clear HD
      go_wp2_with fail
      obtain ⟨⟨M, A, hs⟩, -⟩ := HD1.out.at_
      refine (sTrace_any hs (by omega)).mono ?_
      rintro e w4 ⟨v4, rfl, hv4, hb4⟩
      rw [← Hd.out] at hv4
      obtain ⟨P4, c4, rfl, hc4, _, _⟩ := own_form hv4
      have HD4 := Lib.hid (HD1.out.below hb4)
      have Hv4 := Lib.hid hv4
      have hon := HD1.out.ok.onames
      have Hon := Lib.hid hon
      clear hv4 hb4 hs HD1 hon
      go_wp2_with fail
      go_loopw [11] (fun i wx => ∃ j : Nat, j ≤ d ∧ i = .int .i64 j ∧ w4 = wx) (fun i _ => d - (intOf i).toNat)
      case atStart => exact ⟨0, by omega, rfl, rfl⟩
      case round =>
        obtain ⟨j, hj, rfl, rfl⟩ := hrel
        by_cases hjd : j < d
        · obtain ⟨⟨o, nm⟩, hok⟩ : ∃ r, σ.ops[j]? = some r := ⟨_, List.getElem?_eq_getElem (by have := Hd.out; omega)⟩
          have hmem := List.mem_of_getElem? hok
          have o1 : 1 ≤ o := HO.out _ hmem
          obtain ⟨hnm, _, o4⟩ := Hon.out _ hmem
          have o4 : o ≤ 4 := o4
          have hnl : 1 ≤ nm.length := (nameOk_le hnm).1
          obtain ⟨ha1, ha2⟩ := opCells_at hok
          obtain ⟨g1, rfl, hg1⟩ := own_a Hv4.out (by omega)
          have y1 : w4.cell? ⟨g1, j * 2, none⟩ = some (.int .i64 o) := hg1 _ _ ha1
          have y2 : w4.cell? ⟨g1, j * 2 + 1, none⟩ = some (.string (str nm)) := hg1 _ _ ha2
          have i0 : (0 : Int) ≤ (j : Int) := by omega
          have i1 : (j : Int) < (d : Int) := by omega
          have dj : decide (j < d) = true := by simp; omega
          have q1 : decide (o < 1) = false := by simp; omega
          have q2 : decide (4 < o) = false := by simp; omega
          have q3 : (str nm).toList.isEmpty = false := by
            rw [str_list]
            cases nm with
            | nil => simp at hnl
            | cons x t => rfl
          clear hok hmem hnm ha1 ha2 hg1 hnl
          go_wp2
          exact ⟨⟨j + 1, by omega, by go_num, trivial⟩, by simp [intOf]; omega⟩
        · obtain rfl : j = d := by omega
          have dj : decide (j < j) = false := by simp
          have hB4 := HD4.out.bel
          have HB4 := Lib.hid hB4
          clear hB4 hjd hj
          go_wp2_with fail
          refine (same_any HD4.out (by omega)).mono ?_
          rintro e w8 ⟨rfl, hb8⟩
          have HB8 := Lib.hid (HB4.out.trans (hb8.mono HB4.out.size))
          clear hb8 HB4
          go_wp2
          go_ret
          exact ⟨rfl, HB8.out⟩
end Go.Proofs.Ytgkgkekgmcldmaa
