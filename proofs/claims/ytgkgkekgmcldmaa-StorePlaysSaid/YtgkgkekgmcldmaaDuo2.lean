/- A store and the reference's: the law's Name, Step, Same. -/
import Derived.Test.YtgkgkekgmcldmaaDuo
namespace Go.Proofs.Ytgkgkekgmcldmaa
open Go.RowKit
def nameTab : List Nm := [[97], [98], [116], [112, 108, 97, 110], [99, 49], [99, 49, 48], [], [97], [116], [49, 50, 51, 52, 53, 54, 55, 56, 57, 48, 49, 50, 51, 52, 53, 54, 55, 56, 57, 48], [49, 50, 51, 52, 53, 54, 55, 56, 57, 48, 49, 50, 51, 52, 53, 54, 55, 56, 57, 48, 49]]
/-- The name that a number stands for. -/
def nameT (n : Int) : Nm := nameTab.getD (n % 11).toNat []
theorem nameT_len (n : Int) : (nameT n).length ≤ 1000000 := by
  have h1 := Int.emod_nonneg n (show (11 : Int) ≠ 0 by omega)
  have h2 := Int.emod_lt_of_pos n (show (0 : Int) < 11 by omega)
  unfold nameT
  generalize n % 11 = j at *
  rcases (by omega : j = 0 ∨ j = 1 ∨ j = 2 ∨ j = 3 ∨ j = 4 ∨ j = 5 ∨ j = 6 ∨ j = 7 ∨ j = 8 ∨ j = 9 ∨ j = 10) with rfl | rfl | rfl | rfl | rfl | rfl | rfl | rfl | rfl | rfl | rfl <;> simp [nameTab]
set_option maxRecDepth 100000 in
set_option maxHeartbeats 1000000 in
theorem name_any (n : Int) (w : World) (hn : inK .i64 n) :
    Calls Try.prog 25 #[.int .i64 n] w fun e w' => e = .returned (.string (str (nameT n))) ∧ Below w.heap.size w w' := by
  obtain ⟨j, hj⟩ : ∃ j : Nat, n % (11 : Int) = j := Int.eq_ofNat_of_zero_le (Int.emod_nonneg n (by omega))
  have hj5 : j < 11 := by have := Int.emod_lt_of_pos n (show (0 : Int) < 11 by omega); omega
  have wj := fun W => wi4 n 11 W hn (by omega) (by omega)
  rw [hj] at wj
  have Wj := Lib.hid wj
  have Hj := Lib.hid hj
  clear wj hj hn
  go_enter Try.func25, Try.ntmps25
  go_wp2_with fail
  generalize hw1 : w.alloc _ = w1
  refine (Wj.out w1).mono ?_
  rintro e w2 ⟨rfl, rfl⟩
  have hb : Below w.heap.size w w1 := hw1 ▸ (Below.refl _ _).alloc (Nat.le_refl _) _
  have hh := heap_alloc_new w (.cells #[.string ⟨#[97]⟩, .string ⟨#[98]⟩, .string ⟨#[116]⟩, .string ⟨#[112, 108, 97, 110]⟩, .string ⟨#[99, 49]⟩, .string ⟨#[99, 49, 48]⟩, .string ⟨#[]⟩, .string ⟨#[97]⟩, .string ⟨#[116]⟩, .string ⟨#[49, 50, 51, 52, 53, 54, 55, 56, 57, 48, 49, 50, 51, 52, 53, 54, 55, 56, 57, 48]⟩, .string ⟨#[49, 50, 51, 52, 53, 54, 55, 56, 57, 48, 49, 50, 51, 52, 53, 54, 55, 56, 57, 48, 49]⟩] 9)
  rw [hw1] at hh
  have hc : w1.cell? ⟨w.heap.size, j, none⟩ = some (.string (str (nameT n))) := by
    rw [cell_of_row w1 w.heap.size j _ 9 (0, 0) hh]
    unfold nameT
    rw [Hj.out]
    rcases (by omega : j = 0 ∨ j = 1 ∨ j = 2 ∨ j = 3 ∨ j = 4 ∨ j = 5 ∨ j = 6 ∨ j = 7 ∨ j = 8 ∨ j = 9 ∨ j = 10) with rfl | rfl | rfl | rfl | rfl | rfl | rfl | rfl | rfl | rfl | rfl <;> rfl
  have Hb := Lib.hid hb
  have i0 : (0 : Int) ≤ (j : Int) := by omega
  have i1 : (j : Int) < 11 := by omega
  clear hh hb hw1
  go_wp2
  go_ret
  exact ⟨rfl, Hb.out⟩
section
variable {a w w' : World} {p q c : Nat} {σ τ : St}
theorem Duo.write (h : Duo a w p q σ τ c) (n : Nm) (P : Option Addr) (m cap : Nat) (xs : List Int) (r : Int) (hr : (σ.write n xs).1 = r) (hn : n.length ≤ 1000000) (hc : c ≤ 999998) (hx : Nums .u8 a P m xs) (hm : m ≤ 1000) (hmc : m ≤ cap) (hcap : cap ≤ 9223372036854775807) :
    Calls Try.prog 17 #[.pointer (some ⟨p, 0, none⟩), .string (str n), .slice P m cap] w fun e w' => e = .returned (.int .i64 r) ∧ Duo a w' p q (σ.write n xs).2 τ (c + 1) :=
  hr ▸ h.sto (by omega) fun M A h1 => sWrite_any n P m cap xs h1 hn (by omega) (hx.tch h.bel) hm hmc (by simpa [maxLen] using hcap)
theorem Duo.writeR (h : Duo a w p q σ τ c) (n : Nm) (P : Option Addr) (m cap : Nat) (xs : List Int) (r : Int) (hr : (τ.write n xs).1 = r) (hn : n.length ≤ 1000000) (hc : c ≤ 999998) (hx : Nums .u8 a P m xs) (hm : m ≤ 1000) (hP : P = none → cap = 0) :
    Calls Try.prog 18 #[.pointer (some ⟨q, 0, none⟩), .string (str n), .slice P m cap] w fun e w' => e = .returned (.int .i64 r) ∧ Duo a w' p q σ (τ.write n xs).2 (c + 1) :=
  hr ▸ h.ref (by omega) fun M A h1 => rWrite_any n P m cap xs h1 hn hc (hx.tch h.bel) hm hP
theorem Duo.sync (h : Duo a w p q σ τ c) (n : Nm) (r : Int) (hr : (σ.sync n).1 = r) (hn : n.length ≤ 1000000) (hc : c ≤ 999998) :
    Calls Try.prog 15 #[.pointer (some ⟨p, 0, none⟩), .string (str n)] w fun e w' => e = .returned (.int .i64 r) ∧ Duo a w' p q (σ.sync n).2 τ (c + 1) :=
  hr ▸ h.sto (by omega) fun M A h1 => sSync_any n h1 hn (by omega)
theorem Duo.syncR (h : Duo a w p q σ τ c) (n : Nm) (r : Int) (hr : (τ.sync n).1 = r) (hc : c ≤ 999998) :
    Calls Try.prog 16 #[.pointer (some ⟨q, 0, none⟩), .string (str n)] w fun e w' => e = .returned (.int .i64 r) ∧ Duo a w' p q σ (τ.sync n).2 (c + 1) :=
  hr ▸ h.ref (by omega) fun M A h1 => rSync_any n h1 hc
theorem Duo.remove (h : Duo a w p q σ τ c) (n : Nm) (r : Int) (hr : (σ.remove n).1 = r) (hn : n.length ≤ 1000000) (hc : c ≤ 999998) :
    Calls Try.prog 28 #[.pointer (some ⟨p, 0, none⟩), .string (str n)] w fun e w' => e = .returned (.int .i64 r) ∧ Duo a w' p q (σ.remove n).2 τ (c + 1) :=
  hr ▸ h.sto (by omega) fun M A h1 => sRemove_any n h1 hn (by omega)
theorem Duo.removeR (h : Duo a w p q σ τ c) (n : Nm) (r : Int) (hr : (τ.remove n).1 = r) (hc : c ≤ 999998) :
    Calls Try.prog 29 #[.pointer (some ⟨q, 0, none⟩), .string (str n)] w fun e w' => e = .returned (.int .i64 r) ∧ Duo a w' p q σ (τ.remove n).2 (c + 1) :=
  hr ▸ h.ref (by omega) fun M A h1 => rRemove_any n h1 hc
theorem Duo.publish (h : Duo a w p q σ τ c) (b n : Nm) (r : Int) (hr : (σ.publish b n).1 = r) (hb : b.length ≤ 1000000) (hn : n.length ≤ 1000000) (hc : c ≤ 999998) :
    Calls Try.prog 26 #[.pointer (some ⟨p, 0, none⟩), .string (str b), .string (str n)] w fun e w' => e = .returned (.int .i64 r) ∧ Duo a w' p q (σ.publish b n).2 τ (c + 1) :=
  hr ▸ h.sto (by omega) fun M A h1 => sPublish_any b n h1 hb hn (by omega)
theorem Duo.publishR (h : Duo a w p q σ τ c) (b n : Nm) (r : Int) (hr : (τ.publish b n).1 = r) (hn : n.length ≤ 1000000) (hc : c ≤ 999998) :
    Calls Try.prog 27 #[.pointer (some ⟨q, 0, none⟩), .string (str b), .string (str n)] w fun e w' => e = .returned (.int .i64 r) ∧ Duo a w' p q σ (τ.publish b n).2 (c + 1) :=
  hr ▸ h.ref (by omega) fun M A h1 => rPublish_any b n h1 hn hc
theorem Duo.at_ (h : Duo a w p q σ τ c) : (∃ M A, StoreAt w p σ c M A) ∧ ∃ M A, RefAt w q τ c M A := by
  obtain ⟨M, A, N, B, h1, h2, _⟩ := h.ex
  exact ⟨⟨M, A, h1⟩, N, B, h2⟩
end
theorem own_a {w : World} {B s n c : Nat} {P : Option Addr} {e : TypeId} {xs : List Value} (h : w.ownsRow B e s (.slice P n c) n xs) (hn : 0 < n) : ∃ g, P = some ⟨g, 0, none⟩ ∧ ∀ j u, xs[j]? = some u → w.cell? ⟨g, j, none⟩ = some u := by
  obtain ⟨P', c', ev, _, _, hc⟩ := own_form h
  injection ev with e1 _ _
  subst e1
  obtain ⟨g, e, _, hc⟩ := hc hn
  exact ⟨g, e, hc⟩
set_option maxRecDepth 100000 in
set_option maxHeartbeats 4000000 in
theorem same_any {a w : World} {p q c : Nat} {σ : St} (h : Duo a w p q σ σ c) (hc : c ≤ 1000000) :
    Calls Try.prog 12 #[.pointer (some ⟨p, 0, none⟩), .pointer (some ⟨q, 0, none⟩)] w fun e w' => e = .returned (.bool true) ∧ Below w.heap.size w w' := by
  obtain ⟨⟨M, A, h1⟩, N, B, h2⟩ := h.at_
  clear h
  have hfew := h1.ok.few
  have hfo := h1.ok.ops
  have hok := h1.ok
  have Hs := Lib.hid h1
  have Hx := Lib.hid h2
  have Hok := Lib.hid hok
  obtain ⟨n, hn⟩ : ∃ n, n = σ.fs.length := ⟨_, rfl⟩
  obtain ⟨t, ht⟩ : ∃ t, t = σ.ops.length := ⟨_, rfl⟩
  rw [← hn] at hfew
  rw [← ht] at hfo
  have En := Lib.hid hn
  have Et := Lib.hid ht
  clear h1 h2 hok hn ht
  go_enter Try.func12, Try.ntmps12
  go_wp2_with fail
  refine (sNames_any Hs.out hc).mono ?_
  rintro e w1 ⟨v1, rfl, hv1, hb1⟩
  rw [← En.out] at hv1
  obtain ⟨P1, c1, rfl, hc1, _, _⟩ := own_form hv1
  have Hv1 := Lib.hid hv1
  have Hb1 := Lib.hid hb1
  clear hv1 hb1
  go_wp2_with fail
  refine (rNames_any (Hx.out.below Hb1.out) hc).mono ?_
  rintro e w2 ⟨v2, rfl, hv2, hb2⟩
  rw [← En.out] at hv2
  obtain ⟨P2, c2, rfl, hc2, _, _⟩ := own_form hv2
  have Hv2 := Lib.hid hv2
  have Hb2 := Lib.hid (Hb1.out.trans (hb2.mono Hb1.out.size))
  have Hv1' := Lib.hid (own_bel Hv1.out hb2)
  clear hv2 hb2 Hv1 Hb1
  go_wp2_with fail
  refine (sUsed_any (Hs.out.below Hb2.out)).mono ?_
  rintro e w3 ⟨rfl, rfl⟩
  go_wp2_with fail
  refine (rUsed_any (Hx.out.below Hb2.out) hc).mono ?_
  rintro e w3 ⟨rfl, rfl⟩
  generalize usedF σ.fs = us
  go_wp2_with fail
  go_loopw [7] (fun i wx => ∃ k : Nat, k ≤ n ∧ i = .int .i64 k ∧ Below w2.heap.size w2 wx) (fun i _ => n - (intOf i).toNat)
  case atStart => exact ⟨0, by omega, rfl, Below.refl _ _⟩
  case round =>
    obtain ⟨k, hk, rfl, hbx⟩ := hrel
    rename World => wx
    have Hbx := Lib.hid hbx
    clear hbx
    by_cases hlt : k < n
    · obtain ⟨⟨nm, f⟩, hfk⟩ : ∃ r, σ.fs[k]? = some r := ⟨_, List.getElem?_eq_getElem (by have := En.out; omega)⟩
      have hmem := List.mem_of_getElem? hfk
      have hff := fnd_of_mem Hok.out.rising hmem
      have hnl := (nameOk_le (Hok.out.names _ hmem)).2
      have hfb := (Hok.out.files _ hmem).b
      have hnc : (nmCells σ.fs)[k]? = some (.string (str nm)) := by unfold nmCells; rw [List.getElem?_map, hfk]; rfl
      obtain ⟨g1, rfl, hg1⟩ := own_a Hv1'.out (by omega)
      obtain ⟨g2, rfl, hg2⟩ := own_a Hv2.out (by omega)
      have hc1' : w2.cell? ⟨g1, k, none⟩ = some (.string (str nm)) := hg1 k _ hnc
      have hc2' : w2.cell? ⟨g2, k, none⟩ = some (.string (str nm)) := hg2 k _ hnc
      have hy2 : wx.cell? ⟨g2, k, none⟩ = some (.string (str nm)) := (Keeps.of_below Hbx.out) _ _ hc2'
      have i0 : (0 : Int) ≤ (k : Int) := by omega
      have i1 : (k : Int) < (n : Int) := by omega
      have d1 : decide (k < n) = true := by simp; omega
      have Hc1 := Lib.hid hc1'
      have Hc2 := Lib.hid hc2'
      have Hff := Lib.hid hff
      have Hfb := Lib.hid hfb
      have hnl2 : nm.length ≤ 1000000 := by have : nm.length ≤ 20 := hnl; omega
      clear hfk hmem hff hnl hfb hnc hg1 hg2 hc1' hc2'
      go_wp2_with fail
      refine (sRead_any nm ((Hs.out.below Hb2.out).below Hbx.out) hnl2).mono ?_
      rintro e w4 ⟨v4, rfl, hv4, hb4⟩
      rw [Hff.out] at hv4 ⊢
      simp only [valF, Option.getD_some, Option.isSome_some] at hv4 ⊢
      have hx4 := (((Hx.out.below Hb2.out).below Hbx.out).below hb4)
      have hy4 : w4.cell? ⟨g2, k, none⟩ = some (.string (str nm)) := (Keeps.of_below hb4) _ _ hy2
      obtain ⟨P4, c4, rfl, _, _, _⟩ := own_form hv4
      have Hx4 := Lib.hid hx4
      have Hv4 := Lib.hid hv4
      have Hb4 := Lib.hid (Hbx.out.trans (hb4.mono Hbx.out.size))
      clear hv4 hb4 hx4 hy2 Hbx
      go_wp2_with fail
      refine (rRead_any nm Hx4.out hc).mono ?_
      rintro e w5 ⟨v5, rfl, hv5, hb5⟩
      rw [Hff.out] at hv5 ⊢
      simp only [valF, Option.getD_some, Option.isSome_some] at hv5 ⊢
      obtain ⟨P5, c5, rfl, _, _, _⟩ := own_form hv5
      have hb25 := Hb4.out.trans (hb5.mono Hb4.out.size)
      have k1 : ∀ nq, (convert 23 9 (.slice P4 f.b.length c4)).run Try.prog (w5.drewN nq) = .ok (.string (strOf f.b)) (w5.drewN nq) := fun nq => cv_str (show Nums .u8 (w5.drewN nq) P4 f.b.length f.b from own_u8 (w := w5) (own_bel Hv4.out hb5) rfl Hfb.out.2)
      have k2 : ∀ nq, (convert 23 9 (.slice P5 f.b.length c5)).run Try.prog (w5.drewN nq) = .ok (.string (strOf f.b)) (w5.drewN nq) := fun nq => cv_str (show Nums .u8 (w5.drewN nq) P5 f.b.length f.b from own_u8 (w := w5) hv5 rfl Hfb.out.2)
      have y1 : w5.cell? ⟨g1, k, none⟩ = some (.string (str nm)) := (Keeps.of_below hb25) _ _ Hc1.out
      have y2 : w5.cell? ⟨g2, k, none⟩ = some (.string (str nm)) := (Keeps.of_below hb25) _ _ Hc2.out
      have Hb5 := Lib.hid hb25
      clear hv5 hb5 hb25 hy4 Hx4 Hv4 Hb4
      generalize f.b.length = fl at k1 k2 ⊢
      go_wp2_with fail
      go_quiet (fail)
      go_wp2
      go_roundw
      case rel => exact ⟨k + 1, by omega, by go_num, below_drewN Hb5.out _⟩
      case measure => simp [intOf]; omega
    · obtain rfl : k = n := by omega
      have d1 : decide (k < k) = false := by simp
      have HB := Lib.hid (Hb2.out.trans (Hbx.out.mono Hb2.out.size))
      clear hlt hk Hbx Hv1' Hv2 Hb2 En Hok
      go_wp2_with fail
      refine (sTrace_any (Hs.out.below HB.out) hc).mono ?_
      rintro e w6 ⟨v6, rfl, hv6, hb6⟩
      rw [← Et.out] at hv6
      obtain ⟨P6, c6, rfl, hc6, _, _⟩ := own_form hv6
      have Hv6 := Lib.hid hv6
      have Hb6 := Lib.hid (HB.out.trans (hb6.mono HB.out.size))
      clear hv6 hb6 HB
      go_wp2_with fail
      refine (rTrace_any (Hx.out.below Hb6.out) hc).mono ?_
      rintro e w7 ⟨v7, rfl, hv7, hb7⟩
      rw [← Et.out] at hv7
      obtain ⟨P7, c7, rfl, hc7, _, _⟩ := own_form hv7
      have Hv7 := Lib.hid hv7
      have Hv6' := Lib.hid (own_bel Hv6.out hb7)
      have Hb7 := Lib.hid (Hb6.out.trans (hb7.mono Hb6.out.size))
      clear hv7 hb7 Hv6 Hb6 Hs Hx
      go_wp2_with fail
      go_loopw [14] (fun i wx => ∃ j : Nat, j ≤ t ∧ i = .int .i64 j ∧ ∃ nq, wx = w7.drewN nq) (fun i _ => t - (intOf i).toNat)
      case atStart => exact ⟨0, by omega, rfl, 0, rfl⟩
      case round =>
        obtain ⟨j, hj, rfl, nq, rfl⟩ := hrel
        by_cases hlt : j < t
        · obtain ⟨⟨o, nm⟩, hok⟩ : ∃ r, σ.ops[j]? = some r := ⟨_, List.getElem?_eq_getElem (by have := Et.out; omega)⟩
          obtain ⟨ha1, ha2⟩ := opCells_at hok
          obtain ⟨g1, rfl, hg1⟩ := own_a Hv6'.out (by omega)
          obtain ⟨g2, rfl, hg2⟩ := own_a Hv7.out (by omega)
          have y1 : w7.cell? ⟨g1, j * 2, none⟩ = some (.int .i64 o) := hg1 _ _ ha1
          have y2 : w7.cell? ⟨g1, j * 2 + 1, none⟩ = some (.string (str nm)) := hg1 _ _ ha2
          have y3 : w7.cell? ⟨g2, j * 2, none⟩ = some (.int .i64 o) := hg2 _ _ ha1
          have y4 : w7.cell? ⟨g2, j * 2 + 1, none⟩ = some (.string (str nm)) := hg2 _ _ ha2
          have i0 : (0 : Int) ≤ (j : Int) := by omega
          have i1 : (j : Int) < (t : Int) := by omega
          have d1 : decide (j < t) = true := by simp; omega
          clear hok ha1 ha2 hg1 hg2
          go_wp2_with fail
          go_quiet (fail)
          go_wp2
          go_roundw
          case rel => exact ⟨j + 1, by omega, by go_num, _, rfl⟩
          case measure => simp [intOf]; omega
        · obtain rfl : j = t := by omega
          have d1 : decide (j < j) = false := by simp
          go_wp2
          go_ret
          exact ⟨rfl, below_drewN Hb7.out _⟩
end Go.Proofs.Ytgkgkekgmcldmaa
